import PyProof.Rows.All
import Wide.All
import OpenK.AllK
import Wide.FinOn
import HandS.ForMost
import HandS.Exc
import HandS.TryOnly
import HandS.TryMany
import HandS.ExcOwn
import HandS.WordsExc
import HandS.ExcInit
import HandS.ExcField
import HandS.Walk
import HandS.IsInst
import HandS.Defaults
import HandS.Wide
import HandS.CallSlots
import HandS.TupMul
import HandS.Zip
import HandS.Conv
import KE.GoesEnum
import KE.GoesZip
import HandS.Property
import HandS.EndBits
import HandS.TupAny
import HandS.Deep
import HandS.WideBits
import HandS.Gcd
import HandS.Flow
import HandS.Style
import HandS.SortInts
import HandS.ExcCtx
import PyProof.ExcBaseAll.ValueError
import HandS.SlotsOwn
import HandS.Iter
import HandS.ClsMeth
import HandS.SetFor
import HandS.Strs
import HandS.DeepEq
import HandS.ExcIs
import PyProof.ReprBulk
import PyProof.CallFns
import PyProof.ReprRoads
import KE.KMathGC
import KE.KTupSum
import KE.KStateDown
import HandS.HeadHook2
import HandS.HeadEnd
import HandS.Head0
import HandS.Head1
import HandS.Head2
import HandS.Head3
import PySem.Challenge.RW_hushedwires_k34_whole_sums_of_running_su
set_option Elab.async false
set_option linter.all false
set_option maxRecDepth 100000
/-! DL0: data as trees over the abstract heap, what a def's slots hold, how both go on. -/
namespace DL
open PySem PySem.Spec PyProof.Rows L2

/-- data -/
inductive D where
  | non
  | bl (b : Bool)
  | int (i : Int)
  | str (s : Str)
  | lst (xs : List D)
  /-- a list that is never written: the script, or one of the top -/
  | slst (xs : List D)
  | tup (xs : List D)
  | ins (c : Str) (fs : List (Str × D))
  /-- an empty dict -/
  | emp

/-- addresses that no tree may lean on -/
abbrev Av := Addr → Prop
def h0 : Hp := fun _ => none
theorem sqL_h0 {K : PySem.W.Frag} {H : Hp} {a : Addr} {vs : List V} (h : SqL K h0 a vs) : SqL K H a vs := by
  rcases h with (h | ⟨o, h⟩) | h
  · exact nomatch h
  · exact nomatch h
  · exact .inr h
theorem sqT_h0 {K : PySem.W.Frag} {H : Hp} {a : Addr} {vs : List V} (h : SqT K h0 a vs) : SqT K H a vs := by
  rcases h with (h | ⟨o, h⟩) | h
  · exact nomatch h
  · exact nomatch h
  · exact .inr h
/-- a list (a tuple) that stands for good: tracked and not of those that change, or written -/
def LAt (K : PySem.W.Frag) (H : Hp) (O : Av) (a : Addr) (vs : List V) : Prop := ((∃ o, H a = some (.frz o (.lst vs))) ∧ ¬ O a) ∨ SqL K h0 a vs
def TAt (K : PySem.W.Frag) (H : Hp) (O : Av) (a : Addr) (vs : List V) : Prop := (Rd H a (.tup vs) ∧ ¬ O a) ∨ SqT K h0 a vs
theorem LAt.sq {K : PySem.W.Frag} {H : Hp} {O : Av} {a : Addr} {vs : List V} (h : LAt K H O a vs) : SqL K H a vs := by
  rcases h with h | h
  · exact .inl (.inr h.1)
  · exact sqL_h0 h
theorem TAt.sq {K : PySem.W.Frag} {H : Hp} {O : Av} {a : Addr} {vs : List V} (h : TAt K H O a vs) : SqT K H a vs := by
  rcases h with h | h
  · exact .inl h.1
  · exact sqT_h0 h
/-- all that stands and is not of those that change goes on -/
def Kp (H : Hp) (O : Av) (H' : Hp) (O' : Av) : Prop := ∀ a u, H a = some u → ¬ O a → H' a = some u ∧ ¬ O' a
theorem Kp.refl {H : Hp} {O : Av} : Kp H O H O := fun _ _ h o => ⟨h, o⟩
theorem Kp.trans {H H1 H2 : Hp} {O O1 O2 : Av} (a : Kp H O H1 O1) (b : Kp H1 O1 H2 O2) : Kp H O H2 O2 := fun x u h o => b x u (a x u h o).1 (a x u h o).2
theorem LAt.kp {K : PySem.W.Frag} {H H' : Hp} {O O' : Av} {a : Addr} {vs : List V} (k : Kp H O H' O') (h : LAt K H O a vs) : LAt K H' O' a vs := by
  rcases h with ⟨⟨o, h⟩, n⟩ | h
  · exact .inl ⟨⟨o, (k _ _ h n).1⟩, (k _ _ h n).2⟩
  · exact .inr h
theorem TAt.kp {K : PySem.W.Frag} {H H' : Hp} {O O' : Av} {a : Addr} {vs : List V} (k : Kp H O H' O') (h : TAt K H O a vs) : TAt K H' O' a vs := by
  rcases h with ⟨h | ⟨o, h⟩, n⟩ | h
  · exact .inl ⟨.inl (k _ _ h n).1, (k _ _ h n).2⟩
  · exact .inl ⟨.inr ⟨o, (k _ _ h n).1⟩, (k _ _ h n).2⟩
  · exact .inr h

/-- the value v is the data d -/
inductive Rp (K : PySem.W.Frag) (mg : Str → Option Value) (H : Hp) (O : Av) : V → D → Prop
  | non : Rp K mg H O .non .non
  | bl (b : Bool) : Rp K mg H O (.bl b) (.bl b)
  | int (i : Int) : Rp K mg H O (.int i) (.int i)
  | str (s : Str) : Rp K mg H O (.str s) (.str s)
  | lst {a : Addr} {vs : List V} {ds : List D} (h : H a = some (.lst vs)) (o : ¬ O a) (n : vs.length = ds.length) (e : ∀ (i : Nat) (v : V) (d : D), vs[i]? = some v → ds[i]? = some d → Rp K mg H O v d) : Rp K mg H O (.ref a) (.lst ds)
  | slst {a : Addr} {vs : List V} {ds : List D} (h : LAt K H O a vs) (n : vs.length = ds.length) (e : ∀ (i : Nat) (v : V) (d : D), vs[i]? = some v → ds[i]? = some d → Rp K mg H O v d) : Rp K mg H O (.ref a) (.slst ds)
  | tup {a : Addr} {vs : List V} {ds : List D} (h : TAt K H O a vs) (n : vs.length = ds.length) (e : ∀ (i : Nat) (v : V) (d : D), vs[i]? = some v → ds[i]? = some d → Rp K mg H O v d) : Rp K mg H O (.ref a) (.tup ds)
  | ins {a C dx : Addr} {c : Str} {fvs : List (Str × V)} {fs : List (Str × D)} (h : H a = some (.ins C dx fvs)) (o : ¬ O a) (g : mg c = some (.ref C)) (n : fvs.map (·.1) = fs.map (·.1))
      (e : ∀ (i : Nat) (p : Str × V) (q : Str × D), fvs[i]? = some p → fs[i]? = some q → Rp K mg H O p.2 q.2) : Rp K mg H O (.ref a) (.ins c fs)
  | emp {a : Addr} (h : H a = some (.dK [])) (o : ¬ O a) : Rp K mg H O (.ref a) .emp

section
variable {K : PySem.W.Frag} {mg : Str → Option Value} {H H' : Hp} {O O' : Av} {v : V} {d : D}
theorem Rp.kp (k : Kp H O H' O') (h : Rp K mg H O v d) : Rp K mg H' O' v d := by
  induction h with
  | non => exact .non
  | bl b => exact .bl b
  | int i => exact .int i
  | str s => exact .str s
  | lst h o n e ih => exact .lst (k _ _ h o).1 (k _ _ h o).2 n ih
  | slst h n e ih => exact .slst (h.kp k) n ih
  | tup h n e ih => exact .tup (h.kp k) n ih
  | ins h o g n e ih => exact .ins (k _ _ h o).1 (k _ _ h o).2 g n ih
  | emp h o => exact .emp (k _ _ h o).1 (k _ _ h o).2
/-- several -/
def RpL (K : PySem.W.Frag) (mg : Str → Option Value) (H : Hp) (O : Av) (vs : List V) (ds : List D) : Prop :=
  vs.length = ds.length ∧ ∀ (i : Nat) (v : V) (d : D), vs[i]? = some v → ds[i]? = some d → Rp K mg H O v d
variable {vs ws : List V} {ds es : List D}
theorem RpL.kp (k : Kp H O H' O') (h : RpL K mg H O vs ds) : RpL K mg H' O' vs ds := ⟨h.1, fun i v d a b => (h.2 i v d a b).kp k⟩
theorem RpL.nil : RpL K mg H O [] [] := ⟨rfl, fun i v d a b => by simp at a⟩
theorem RpL.cons (h : Rp K mg H O v d) (t : RpL K mg H O vs ds) : RpL K mg H O (v :: vs) (d :: ds) := ⟨by rw [List.length_cons, List.length_cons, t.1], fun i v' d' a b => by
  cases i with
  | zero =>
    have e1 : v = v' := Option.some.inj a
    have e2 : d = d' := Option.some.inj b
    subst e1; subst e2; exact h
  | succ i => exact t.2 i v' d' a b⟩
theorem RpL.uncons (h : RpL K mg H O (v :: vs) (d :: ds)) : Rp K mg H O v d ∧ RpL K mg H O vs ds :=
  ⟨h.2 0 v d rfl rfl, by have := h.1; rw [List.length_cons, List.length_cons] at this; omega, fun i v' d' a b => h.2 (i + 1) v' d' a b⟩
theorem RpL.app (h : RpL K mg H O vs ds) (h2 : RpL K mg H O ws es) : RpL K mg H O (vs ++ ws) (ds ++ es) := ⟨by rw [List.length_append, List.length_append, h.1, h2.1], fun i v d a b => by
  by_cases hi : i < vs.length
  · rw [List.getElem?_append_left hi] at a
    rw [List.getElem?_append_left (h.1 ▸ hi)] at b
    exact h.2 i v d a b
  · rw [List.getElem?_append_right (Nat.le_of_not_lt hi)] at a
    rw [List.getElem?_append_right (h.1 ▸ Nat.le_of_not_lt hi), ← h.1] at b
    exact h2.2 _ v d a b⟩
theorem RpL.get (h : RpL K mg H O vs ds) {i : Nat} {d : D} (e : ds[i]? = some d) : ∃ v, vs[i]? = some v ∧ Rp K mg H O v d := by
  have hi : i < ds.length := (List.getElem?_eq_some_iff.mp e).1
  have hv : vs[i]? = some (vs[i]'(h.1 ▸ hi)) := List.getElem?_eq_getElem _
  exact ⟨_, hv, h.2 i _ d hv e⟩
theorem RpL.getV (h : RpL K mg H O vs ds) {i : Nat} {v : V} (e : vs[i]? = some v) : ∃ d, ds[i]? = some d ∧ Rp K mg H O v d := by
  have hi : i < vs.length := (List.getElem?_eq_some_iff.mp e).1
  have hv : ds[i]? = some (ds[i]'(h.1 ▸ hi)) := List.getElem?_eq_getElem _
  exact ⟨_, hv, h.2 i v _ e hv⟩
theorem RpL.drop (n : Nat) (h : RpL K mg H O vs ds) : RpL K mg H O (vs.drop n) (ds.drop n) := ⟨by rw [List.length_drop, List.length_drop, h.1], fun i v d a b => by
  rw [List.getElem?_drop] at a b
  exact h.2 _ v d a b⟩
theorem RpL.take (n : Nat) (h : RpL K mg H O vs ds) : RpL K mg H O (vs.take n) (ds.take n) := ⟨by rw [List.length_take, List.length_take, h.1], fun i v d a b => by
  rw [List.getElem?_take] at a b
  split at a
  · rename_i hi
    rw [if_pos hi] at b
    exact h.2 _ v d a b
  · cases a⟩
theorem RpL.set (n : Nat) (h : RpL K mg H O vs ds) (r : Rp K mg H O v d) : RpL K mg H O (vs.set n v) (ds.set n d) := ⟨by rw [List.length_set, List.length_set, h.1], fun i v' d' a b => by
  by_cases hi : n = i
  · subst hi
    have l1 : n < (vs.set n v).length := (List.getElem?_eq_some_iff.mp a).1
    have l2 : n < (ds.set n d).length := (List.getElem?_eq_some_iff.mp b).1
    rw [List.length_set] at l1 l2
    rw [List.getElem?_set_self l1] at a
    rw [List.getElem?_set_self l2] at b
    cases a; cases b
    exact r
  · rw [List.getElem?_set_ne hi] at a b
    exact h.2 _ v' d' a b⟩
theorem RpL.rev (h : RpL K mg H O vs ds) : RpL K mg H O vs.reverse ds.reverse := ⟨by rw [List.length_reverse, List.length_reverse, h.1], fun i v d a b => by
  have l1 : i < vs.reverse.length := (List.getElem?_eq_some_iff.mp a).1
  rw [List.length_reverse] at l1
  rw [List.getElem?_reverse l1] at a
  rw [List.getElem?_reverse (h.1 ▸ l1), ← h.1] at b
  exact h.2 _ v d a b⟩
theorem RpL.rep (h : RpL K mg H O vs ds) : ∀ n : Nat, RpL K mg H O (List.replicate n vs).flatten (List.replicate n ds).flatten
  | 0 => .nil
  | n + 1 => by
    rw [List.replicate_succ, List.replicate_succ, List.flatten_cons, List.flatten_cons]
    exact h.app (h.rep n)
end

/-! ### what a slot holds -/
inductive Cont where
  | lst (ds : List D)
  | ins (c : Str) (fs : List (Str × D))
inductive Slot where
  | dat (d : D)
  /-- a list that this def alone holds -/
  | own (ds : List D)
  /-- the k-th thing of the caller's that this def changes -/
  | par (k : Nat) (c : Cont)
  /-- the exception that is handled -/
  | exc (c : Str) (fs : List (Str × D))
def Slot.mu : Slot → Bool
  | .dat _ => false
  | .exc _ _ => false
  | _ => true
def Slot.kd : Slot → Slot
  | .dat _ => .dat .non
  | .own _ => .own []
  | .par k _ => .par k (.lst [])
  | .exc _ _ => .dat .non
abbrev Sl := L2.St
abbrev En := List (Option Slot)
def kinds (ρ : En) : En := ρ.map (Option.map Slot.kd)
structure Base where
  H0 : Hp
  O0 : Av
  pa : List Addr
  xa : Addr := 0
  xd : Option Addr := none
  xc : Value := .none
def ContAt (K : PySem.W.Frag) (mg : Str → Option Value) (H : Hp) (O : Av) (a : Addr) : Cont → Prop
  | .lst ds => ∃ vs, H a = some (.lst vs) ∧ RpL K mg H O vs ds
  | .ins c fs => ∃ C dx fvs, H a = some (.ins C dx fvs) ∧ mg c = some (.ref C) ∧ fvs.map (·.1) = fs.map (·.1) ∧
      ∀ (i : Nat) (p : Str × V) (q : Str × D), fvs[i]? = some p → fs[i]? = some q → Rp K mg H O p.2 q.2
/-- an exception's own dict -/
def ErrAt (K : PySem.W.Frag) (mg : Str → Option Value) (H : Hp) (O : Av) (od : Option Addr) (fs : List (Str × D)) : Prop :=
  (od = none ∧ fs = []) ∨ ∃ a xfs, od = some a ∧ H a = some (.xd xfs) ∧ ¬ O a ∧ ∀ f d, fs.lookup f = some d → ∃ v, xfs.lookup f = some v ∧ Rp K mg H O v d
theorem ErrAt.kp {K : PySem.W.Frag} {mg : Str → Option Value} {H H' : Hp} {O O' : Av} {od : Option Addr} {fs : List (Str × D)} (k : Kp H O H' O') (h : ErrAt K mg H O od fs) : ErrAt K mg H' O' od fs := by
  rcases h with h | ⟨a, xfs, h1, h2, h3, h4⟩
  · exact .inl h
  · refine .inr ⟨a, xfs, h1, (k _ _ h2 h3).1, (k _ _ h2 h3).2, fun f d e => ?_⟩
    obtain ⟨v, e1, e2⟩ := h4 f d e
    exact ⟨v, e1, e2.kp k⟩
def SlotAt (K : PySem.W.Frag) (mg : Str → Option Value) (B : Base) (H : Hp) (O : Av) : Slot → V → Prop
  | .dat d, v => Rp K mg H O v d
  | .own ds, v => ∃ a, v = .ref a ∧ O a ∧ B.H0 a = none ∧ ContAt K mg H O a (.lst ds)
  | .par k c, v => ∃ a, v = .ref a ∧ O a ∧ B.pa[k]? = some a ∧ ContAt K mg H O a c
  | .exc c fs, v => v = .ref B.xa ∧ (∃ C, mg c = some (.ref C) ∧ B.xc = .ref C) ∧ ErrAt K mg H O B.xd fs
structure Rep (K : PySem.W.Frag) (mg : Str → Option Value) (B : Base) (O : Av) (ρ : En) (σ : Sl) (H : Hp) : Prop where
  len : σ.length = ρ.length
  slot : ∀ (i : Nat) (s : Slot), ρ[i]? = some (some s) → ∃ v, σ[i]? = some (some v) ∧ SlotAt K mg B H O s v
  apart : ∀ (i j : Nat) (s t : Slot) (a : Addr), ρ[i]? = some (some s) → ρ[j]? = some (some t) → s.mu = true → t.mu = true → σ[i]? = some (some (.ref a)) → σ[j]? = some (some (.ref a)) → i = j
  base : ∀ b o, B.H0 b = some o → b ∉ B.pa → H b = some o
  live : ∀ a, O a → H a ≠ none
  o0 : ∀ a, B.O0 a → O a
  b0 : ∀ a, B.O0 a → B.H0 a ≠ none
  pao : ∀ a, a ∈ B.pa → B.O0 a
/-- the addresses of what changes -/
def Mu (ρ : En) (σ : Sl) (b : Addr) : Prop := ∃ (i : Nat) (s : Slot), ρ[i]? = some (some s) ∧ s.mu = true ∧ σ[i]? = some (some (.ref b))
section
variable {K : PySem.W.Frag} {mg : Str → Option Value} {B : Base} {O O' : Av} {ρ ρ1 ρ2 : En} {σ : Sl} {H H1 H2 : Hp} {a : Addr} {c : Cont} {s : Slot} {v : V} {d : D}
theorem ContAt.kp (k : Kp H O H1 O') (e : H1 a = H a) (h : ContAt K mg H O a c) : ContAt K mg H1 O' a c := by
  cases c with
  | lst ds =>
    obtain ⟨vs, h1, h2⟩ := h
    exact ⟨vs, e.trans h1, h2.kp k⟩
  | ins c fs =>
    obtain ⟨C, dx, fvs, h1, h2, h3, h4⟩ := h
    exact ⟨C, dx, fvs, e.trans h1, h2, h3, fun i p q x y => (h4 i p q x y).kp k⟩
theorem kinds_get {i : Nat} : (kinds ρ)[i]? = (ρ[i]?).map (Option.map Slot.kd) := List.getElem?_map
theorem mu_kd {s t : Slot} (h : s.kd = t.kd) : s.mu = t.mu := by
  cases s <;> cases t <;> first | rfl | (exact nomatch h)
theorem mu_of_kinds (h : kinds ρ1 = kinds ρ) {b : Addr} (m : Mu ρ1 σ b) : Mu ρ σ b := by
  obtain ⟨i, s, h1, h2, h3⟩ := m
  have e := congrArg (fun l => l[i]?) h
  simp only [kinds_get, h1] at e
  cases q : ρ[i]? with
  | none => rw [q] at e; cases e
  | some o =>
    rw [q] at e
    cases o with
    | none => cases e
    | some t =>
      have e2 : s.kd = t.kd := by simpa using e
      exact ⟨i, t, q, mu_kd e2 ▸ h2, h3⟩
theorem Rep.mu_O (R : Rep K mg B O ρ σ H) {b : Addr} (m : Mu ρ σ b) : O b := by
  obtain ⟨i, s, h1, h2, h3⟩ := m
  obtain ⟨v, h4, h5⟩ := R.slot i s h1
  rw [h3] at h4
  cases h4
  cases s with
  | dat d => cases h2
  | exc c fs => cases h2
  | own ds => obtain ⟨a, e, o, _⟩ := h5; cases e; exact o
  | par k c => obtain ⟨a, e, o, _⟩ := h5; cases e; exact o
/-- an expression's going on -/
structure Go (K : PySem.W.Frag) (mg : Str → Option Value) (B : Base) (O : Av) (σ : Sl) (ρ : En) (H : Hp) (ρ' : En) (H' : Hp) : Prop where
  kd : kinds ρ' = kinds ρ
  fr : ∀ b o, H b = some o → ¬ Mu ρ σ b → H' b = some o
  rep : Rep K mg B O ρ' σ H'
theorem Go.refl (R : Rep K mg B O ρ σ H) : Go K mg B O σ ρ H ρ H := ⟨rfl, fun _ _ h _ => h, R⟩
theorem Go.trans (a : Go K mg B O σ ρ H ρ1 H1) (b : Go K mg B O σ ρ1 H1 ρ2 H2) : Go K mg B O σ ρ H ρ2 H2 :=
  ⟨b.kd.trans a.kd, fun x o h m => b.fr x o (a.fr x o h m) fun z => m (mu_of_kinds a.kd z), b.rep⟩
theorem Go.kp (R : Rep K mg B O ρ σ H) (g : Go K mg B O σ ρ H ρ1 H1) : Kp H O H1 O := fun x u h o => ⟨g.fr x u h fun m => o (R.mu_O m), o⟩
theorem Same.kp (e : Same H H1) : Kp H O H1 O := fun x u h o => ⟨e x u h, o⟩
theorem Rep.same (e : Same H H1) (R : Rep K mg B O ρ σ H) : Rep K mg B O ρ σ H1 where
  len := R.len
  slot := fun i s h => by
    obtain ⟨v, h1, h2⟩ := R.slot i s h
    refine ⟨v, h1, ?_⟩
    cases s with
    | dat d => exact Rp.kp (Same.kp e) h2
    | exc c fs => exact ⟨h2.1, h2.2.1, h2.2.2.kp (Same.kp e)⟩
    | own ds =>
      obtain ⟨a, e1, o, n, c⟩ := h2
      refine ⟨a, e1, o, n, c.kp (Same.kp e) ?_⟩
      obtain ⟨vs, q, _⟩ := c
      rw [q, e _ _ q]
    | par k c =>
      obtain ⟨a, e1, o, n, c'⟩ := h2
      refine ⟨a, e1, o, n, c'.kp (Same.kp e) ?_⟩
      cases c with
      | lst ds => obtain ⟨vs, q, _⟩ := c'; rw [q, e _ _ q]
      | ins c fs => obtain ⟨C, dx, fvs, q, _⟩ := c'; rw [q, e _ _ q]
  apart := R.apart
  base := fun b o h n => e _ _ (R.base b o h n)
  live := fun a o h => by
    cases q : H a with
    | none => exact R.live a o q
    | some u => rw [e _ _ q] at h; cases h
  o0 := R.o0
  b0 := R.b0
  pao := R.pao
theorem Go.same (R : Rep K mg B O ρ σ H) (e : Same H H1) : Go K mg B O σ ρ H ρ H1 := ⟨rfl, fun b o h _ => e b o h, R.same e⟩
theorem same_new {p : Addr} {o : HO} (h : H p = none) : Same H (upd H p o) := fun b x e => by
  rw [upd_ne (ne_of_none e h)]
  exact e
end
end DL

set_option Elab.async false
set_option linter.all false
set_option maxRecDepth 100000
/-! DL1: expressions: what they give of data. -/
namespace DL
open PySem PySem.Spec PyProof.Rows L2

inductive R (α : Type) where
  | ok (a : α) (ρ : En)
  | err (c : Str) (fs : List (Str × D)) (ρ : En)
  | stuck
def R.bind {α β : Type} (r : R α) (k : α → En → R β) : R β := match r with
  | .ok a ρ => k a ρ
  | .err c fs ρ => .err c fs ρ
  | .stuck => .stuck
def R.of {α : Type} (o : Option α) (ρ : En) : R α := match o with
  | some a => .ok a ρ
  | none => .stuck
def RPost {α : Type} (r : R α) (ok : α → En → Prop) (er : Str → List (Str × D) → En → Prop) : Prop := match r with
  | .ok a ρ => ok a ρ
  | .err c fs ρ => er c fs ρ
  | .stuck => False
theorem rpost_bind {α β : Type} {r : R α} {k : α → En → R β} {ok : β → En → Prop} {er : Str → List (Str × D) → En → Prop} :
    RPost (r.bind k) ok er = RPost r (fun a ρ => RPost (k a ρ) ok er) er := by
  cases r <;> rfl
theorem RPost.mono {α : Type} {r : R α} {ok ok' : α → En → Prop} {er er' : Str → List (Str × D) → En → Prop} (p : RPost r ok er) (h1 : ∀ a ρ, ok a ρ → ok' a ρ) (h2 : ∀ c fs ρ, er c fs ρ → er' c fs ρ) : RPost r ok' er' := by
  cases r with
  | ok a ρ => exact h1 a ρ p
  | err c fs ρ => exact h2 c fs ρ p
  | stuck => exact p
theorem rpost_of {α : Type} {o : Option α} {ρ : En} {ok : α → En → Prop} {er : Str → List (Str × D) → En → Prop} (p : RPost (R.of o ρ) ok er) : ∃ a, o = some a ∧ ok a ρ := by
  cases o with
  | none => exact False.elim p
  | some a => exact ⟨a, rfl, p⟩
abbrev F := En → R D
abbrev FB := En → R Bool
abbrev FL := En → R (List D)
/-- what is wished of exceptions, and which grounds are spoken of -/
structure Wi where
  w : WX
  b : Base → Prop
def Wi.BB (W : Wi) := { B : Base // W.b B }
def ErE (X : Cx) (B : Base) (W : Wi) (O : Av) (σ : Sl) (ρ : En) (H : Hp) : Str → List (Str × D) → En → Prop := fun c fs ρ' =>
  ∀ C od H', Go X.K X.mg B O σ ρ H ρ' H' → X.mg c = some (.ref C) → ErrAt X.K X.mg H' O od fs → W.w (.ref C) od σ H'
theorem ErE.on {X : Cx} {B : Base} {W : Wi} {O : Av} {σ : Sl} {ρ ρ1 : En} {H H1 : Hp} (g : Go X.K X.mg B O σ ρ H ρ1 H1) : ∀ c fs ρ', ErE X B W O σ ρ H c fs ρ' → ErE X B W O σ ρ1 H1 c fs ρ' :=
  fun c fs ρ' e C od H' g' => e C od H' (g.trans g')

/-- the expression e gives the data that f tells -/
def DE (X : Cx) (W : Wi) (e : Expr) (f : F) : Prop := ∃ t : TE, PE X e t ∧ ∀ (B : W.BB) (ρ : En) (σ : Sl) (H : Hp) (O : Av) (Q : VK), Rep X.K X.mg B.1 O ρ σ H →
  RPost (f ρ) (fun d ρ' => ∀ v H', Go X.K X.mg B.1 O σ ρ H ρ' H' → Rp X.K X.mg H' O v d → Q v H') (ErE X B.1 W O σ ρ H) → t σ H Q
def DT (X : Cx) (W : Wi) (e : Expr) (f : FB) : Prop := ∃ t : TT, PT X e t ∧ ∀ (B : W.BB) (ρ : En) (σ : Sl) (H : Hp) (O : Av) (Q : Bool → Hp → Prop), Rep X.K X.mg B.1 O ρ σ H →
  RPost (f ρ) (fun b ρ' => ∀ H', Go X.K X.mg B.1 O σ ρ H ρ' H' → Q b H') (ErE X B.1 W O σ ρ H) → t σ H Q
def DW (X : Cx) (W : Wi) (e : Expr) (f : FB) : Prop := ∃ t : TT, PW X e t ∧ ∀ (B : W.BB) (ρ : En) (σ : Sl) (H : Hp) (O : Av) (Q : Bool → Hp → Prop), Rep X.K X.mg B.1 O ρ σ H →
  RPost (f ρ) (fun b ρ' => ∀ H', Go X.K X.mg B.1 O σ ρ H ρ' H' → Q b H') (ErE X B.1 W O σ ρ H) → t σ H Q
def DA (X : Cx) (W : Wi) (es : List Expr) (f : FL) : Prop := ∃ t : TA, PA X es t ∧ ∀ (B : W.BB) (ρ : En) (σ : Sl) (H : Hp) (O : Av) (Q : List V → Hp → Prop), Rep X.K X.mg B.1 O ρ σ H →
  RPost (f ρ) (fun ds ρ' => ∀ vs H', Go X.K X.mg B.1 O σ ρ H ρ' H' → RpL X.K X.mg H' O vs ds → Q vs H') (ErE X B.1 W O σ ρ H) → t σ H Q

/-! ### what the tellers are -/
def fVar (i : Nat) : F := fun ρ => match ρ[i]? with
  | some (some (.dat d)) => .ok d ρ
  | _ => .stuck
def fC (d : D) : F := fun ρ => .ok d ρ
def f1 (g : D → Option D) (fa : F) : F := fun ρ => (fa ρ).bind fun a ρ1 => R.of (g a) ρ1
def f2 (g : D → D → Option D) (fa fb : F) : F := fun ρ => (fa ρ).bind fun a ρ1 => (fb ρ1).bind fun b ρ2 => R.of (g a b) ρ2
def t2 (g : D → D → Option D) (fa fb : F) : FB := fun ρ => (fa ρ).bind fun a ρ1 => (fb ρ1).bind fun b ρ2 => match g a b with
  | some (.bl k) => .ok k ρ2
  | _ => .stuck
/-- a op b op' c -/
def f3 (g g' : D → D → Option D) (fa fb fc : F) : F := fun ρ => (fa ρ).bind fun a ρ1 => (fb ρ1).bind fun b ρ2 => match g a b with
  | some (.bl true) => (fc ρ2).bind fun c ρ3 => R.of (g' b c) ρ3
  | some (.bl false) => .ok (.bl false) ρ2
  | _ => .stuck
def asB (f : F) : FB := fun ρ => (f ρ).bind fun a ρ1 => match a with
  | .bl k => .ok k ρ1
  | _ => .stuck
def D.truth : D → Option Bool
  | .non => some false
  | .bl b => some b
  | .int i => some (i != 0)
  | .str y => if y.length ≤ sizeLine then some ((y.length : Int) != 0) else none
  | .lst xs => some (!xs.isEmpty)
  | .slst xs => some (!xs.isEmpty)
  | .tup xs => some (!xs.isEmpty)
  | .ins _ _ => none
  | .emp => none
def fTru (f : F) : FB := fun ρ => (f ρ).bind fun a ρ1 => R.of a.truth ρ1
def fAnd (a b : FB) : FB := fun ρ => (a ρ).bind fun k ρ1 => if k = true then b ρ1 else .ok false ρ1
def fOr (a b : FB) : FB := fun ρ => (a ρ).bind fun k ρ1 => if k = true then .ok true ρ1 else b ρ1
def fNot (a : FB) : FB := fun ρ => (a ρ).bind fun k ρ1 => .ok (!k) ρ1
def vAnd (a b : F) : F := fun ρ => (a ρ).bind fun k ρ1 => match k with
  | .bl true => b ρ1
  | .bl false => .ok (.bl false) ρ1
  | _ => .stuck
def vOr (a b : F) : F := fun ρ => (a ρ).bind fun k ρ1 => match k with
  | .bl true => .ok (.bl true) ρ1
  | .bl false => b ρ1
  | _ => .stuck
def vNot (a : FB) : F := fun ρ => (a ρ).bind fun k ρ1 => .ok (.bl (!k)) ρ1
def fIf (c : FB) (a b : F) : F := fun ρ => (c ρ).bind fun k ρ1 => if k = true then a ρ1 else b ρ1
def fNil : FL := fun ρ => .ok [] ρ
def fCons (a : F) (b : FL) : FL := fun ρ => (a ρ).bind fun x ρ1 => (b ρ1).bind fun xs ρ2 => .ok (x :: xs) ρ2
def fTup (a : FL) : F := fun ρ => (a ρ).bind fun xs ρ1 => if xs.length ≤ sizeLine then .ok (.tup xs) ρ1 else .stuck
def fLst (a : FL) : F := fun ρ => (a ρ).bind fun xs ρ1 => if xs.length ≤ sizeLine then .ok (.lst xs) ρ1 else .stuck
def fB (g : List D → Option D) (a : FL) : F := fun ρ => (a ρ).bind fun xs ρ1 => R.of (g xs) ρ1

/-! ### operations on values -/
def Op1 (X : Cx) (f : Value → Sem Value) (g : D → Option D) : Prop := ∃ r : V → Hp → VK → Prop, UnR X f r ∧ ∀ (H : Hp) (O : Av) (x : V) (a d : D) (Q : VK), (∀ z, O z → H z ≠ none) →
  Rp X.K X.mg H O x a → g a = some d → (∀ v H', Same H H' → Rp X.K X.mg H' O v d → Q v H') → r x H Q
def Op2 (X : Cx) (f : Value → Value → Sem Value) (g : D → D → Option D) : Prop := ∃ r : R2, OpR X f r ∧ ∀ (H : Hp) (O : Av) (x y : V) (a b d : D) (Q : VK), (∀ z, O z → H z ≠ none) →
  Rp X.K X.mg H O x a → Rp X.K X.mg H O y b → g a b = some d → (∀ v H', Same H H' → Rp X.K X.mg H' O v d → Q v H') → r x y H Q
def Ix2 (X : Cx) (g : D → D → Option D) : Prop := ∃ r : R2, IxR X r ∧ ∀ (H : Hp) (O : Av) (x y : V) (a b d : D) (Q : VK), (∀ z, O z → H z ≠ none) →
  Rp X.K X.mg H O x a → Rp X.K X.mg H O y b → g a b = some d → (∀ v H', Same H H' → Rp X.K X.mg H' O v d → Q v H') → r x y H Q
def CallV (X : Cx) (f : Value) (g : List D → Option D) : Prop := ∃ r : List V → Hp → VK → Prop, CallR X f r ∧ ∀ (H : Hp) (O : Av) (xs : List V) (as : List D) (d : D) (Q : VK), (∀ z, O z → H z ≠ none) →
  RpL X.K X.mg H O xs as → g as = some d → (∀ v H', Same H H' → Rp X.K X.mg H' O v d → Q v H') → r xs H Q
/-- the first that tells -/
def alt2 {α β γ : Type} (g g' : α → β → Option γ) : α → β → Option γ := fun a b => match g a b with
  | some d => some d
  | none => g' a b
def alt1 {α γ : Type} (g g' : α → Option γ) : α → Option γ := fun a => match g a with
  | some d => some d
  | none => g' a
section
variable {X : Cx} {W : Wi} {e a b c : Expr} {fa fb fc : F} {pos : Pos}
theorem Op2.alt {f : Value → Value → Sem Value} {g g' : D → D → Option D} (h : Op2 X f g) (h' : Op2 X f g') : Op2 X f (alt2 g g') := by
  obtain ⟨r, h1, h2⟩ := h
  obtain ⟨r', h1', h2'⟩ := h'
  refine ⟨_, OpR.or h1 h1', fun H O x y a b d Q hO rx ry e q => ?_⟩
  unfold alt2 at e
  cases q1 : g a b with
  | some d' =>
    rw [q1] at e
    have e : some d' = some d := e
    cases e
    exact .inl (h2 H O x y a b _ Q hO rx ry q1 q)
  | none =>
    rw [q1] at e
    exact .inr (h2' H O x y a b d Q hO rx ry e q)
theorem Ix2.alt {g g' : D → D → Option D} (h : Ix2 X g) (h' : Ix2 X g') : Ix2 X (alt2 g g') := by
  obtain ⟨r, h1, h2⟩ := h
  obtain ⟨r', h1', h2'⟩ := h'
  refine ⟨_, IxR.or h1 h1', fun H O x y a b d Q hO rx ry e q => ?_⟩
  unfold alt2 at e
  cases q1 : g a b with
  | some d' =>
    rw [q1] at e
    have e : some d' = some d := e
    cases e
    exact .inl (h2 H O x y a b _ Q hO rx ry q1 q)
  | none =>
    rw [q1] at e
    exact .inr (h2' H O x y a b d Q hO rx ry e q)
theorem CallV.alt {f : Value} {g g' : List D → Option D} (h : CallV X f g) (h' : CallV X f g') : CallV X f (alt1 g g') := by
  obtain ⟨r, h1, h2⟩ := h
  obtain ⟨r', h1', h2'⟩ := h'
  refine ⟨_, CallR.or h1 h1', fun H O x a d Q hO rx e q => ?_⟩
  unfold alt1 at e
  cases q1 : g a with
  | some d' =>
    rw [q1] at e
    have e : some d' = some d := e
    cases e
    exact .inl (h2 H O x a _ Q hO rx q1 q)
  | none =>
    rw [q1] at e
    exact .inr (h2' H O x a d Q hO rx e q)

/-! ### rules -/
theorem de_var (i : Nat) {x : Str} (hN : X.N[i]? = some x := by rfl) (hv : Vis X.env.scope x := by first | exact Or.inl rfl | exact Or.inr (Or.inl rfl) | exact Or.inr (Or.inr rfl)) (hd : (x == ("__debug__" : Str)) = false := by decide)
    (hcd : (x == ("__classdict__" : Str)) = false := by decide) : DE X W (.Name x pos) (fVar i) := by
  refine ⟨_, pe_var hN hv hd hcd, fun B ρ σ H O Q R p => ?_⟩
  unfold fVar at p
  split at p
  · rename_i d h
    obtain ⟨v, h1, h2⟩ := R.slot i _ h
    exact ⟨v, h1, p v H (Go.refl R) h2⟩
  · exact p.elim
theorem de_int {i : Int} {j} : DE X W (.Constant (.int i) j pos) (fC (.int i)) := ⟨_, pe_int, fun B ρ σ H O Q R p => p _ _ (Go.refl R) (.int i)⟩
theorem de_bl {i : Bool} {j} : DE X W (.Constant (.bool i) j pos) (fC (.bl i)) := ⟨_, pe_bl, fun B ρ σ H O Q R p => p _ _ (Go.refl R) (.bl i)⟩
theorem de_non {j} : DE X W (.Constant .none j pos) (fC .non) := ⟨_, pe_non, fun B ρ σ H O Q R p => p _ _ (Go.refl R) .non⟩
theorem de_str {i : Str} {j} : DE X W (.Constant (.str i) j pos) (fC (.str i)) := ⟨_, pe_str, fun B ρ σ H O Q R p => p _ _ (Go.refl R) (.str i)⟩
/-- a thing of the top: a constant, a written tuple or list -/
theorem de_glob {x : Str} {v : V} {u : Value} {d : D} (hg : Gl X x) (hm : X.mg x = some u) (r : RelV v u) (hr : ∀ H O, (∀ z, O z → H z ≠ none) → Rp X.K X.mg H O v d) (hd : (x == ("__debug__" : Str)) = false := by decide) : DE X W (.Name x pos) (fC d) :=
  ⟨_, pe_glob hg hm r hd, fun B ρ σ H O Q R p => p _ _ (Go.refl R) (hr _ _ R.live)⟩
theorem de_un {op : UnaryOp} {g : D → Option D} (ho : Op1 X (unaryOp op) g) (ha : DE X W a fa) : DE X W (.UnaryOp op a pos) (f1 g fa) := by
  obtain ⟨r, h1, h2⟩ := ho
  obtain ⟨ta, pa, ia⟩ := ha
  refine ⟨_, pe_un h1 pa, fun B ρ σ H O Q R p => ?_⟩
  unfold f1 at p
  rw [rpost_bind] at p
  refine ia B ρ σ H O _ R (p.mono (fun d1 ρ1 p x H1 g1 r1 => ?_) fun _ _ _ e => e)
  obtain ⟨d, e, p⟩ := rpost_of p
  exact h2 H1 O x d1 d Q g1.rep.live r1 e fun v H2 s r2 => p v H2 (g1.trans (.same g1.rep s)) r2
theorem de_bin {op : Operator} {g : D → D → Option D} (ho : Op2 X (binaryOp op) g) (ha : DE X W a fa) (hb : DE X W b fb) : DE X W (.BinOp a op b pos) (f2 g fa fb) := by
  obtain ⟨r, h1, h2⟩ := ho
  obtain ⟨ta, pa, ia⟩ := ha
  obtain ⟨tb, pb, ib⟩ := hb
  refine ⟨_, pe_op h1 pa pb, fun B ρ σ H O Q R p => ?_⟩
  unfold f2 at p
  rw [rpost_bind] at p
  refine ia B ρ σ H O _ R (p.mono (fun d1 ρ1 p x H1 g1 r1 => ?_) fun _ _ _ e => e)
  rw [rpost_bind] at p
  refine ib B ρ1 σ H1 O _ g1.rep (p.mono (fun d2 ρ2 p y H2 g2 r2 => ?_) (ErE.on g1))
  obtain ⟨d, e, p⟩ := rpost_of p
  exact h2 H2 O x y d1 d2 d Q g2.rep.live (r1.kp (g2.kp g1.rep)) r2 e fun v H3 s r3 => p v H3 ((g1.trans g2).trans (.same g2.rep s)) r3
theorem de_ix {g : D → D → Option D} (ho : Ix2 X g) (ha : DE X W a fa) (hb : DE X W b fb) (hs : PlainIx b := by exact fun _ _ => rfl) : DE X W (.Subscript a b pos) (f2 g fa fb) := by
  obtain ⟨r, h1, h2⟩ := ho
  obtain ⟨ta, pa, ia⟩ := ha
  obtain ⟨tb, pb, ib⟩ := hb
  refine ⟨_, pe_ix h1 pa pb hs, fun B ρ σ H O Q R p => ?_⟩
  unfold f2 at p
  rw [rpost_bind] at p
  refine ia B ρ σ H O _ R (p.mono (fun d1 ρ1 p x H1 g1 r1 => ?_) fun _ _ _ e => e)
  rw [rpost_bind] at p
  refine ib B ρ1 σ H1 O _ g1.rep (p.mono (fun d2 ρ2 p y H2 g2 r2 => ?_) (ErE.on g1))
  obtain ⟨d, e, p⟩ := rpost_of p
  exact h2 H2 O x y d1 d2 d Q g2.rep.live (r1.kp (g2.kp g1.rep)) r2 e fun v H3 s r3 => p v H3 ((g1.trans g2).trans (.same g2.rep s)) r3
theorem de_cmp {op : CmpOp} {g : D → D → Option D} (ho : Op2 X (compareOp op) g) (ha : DE X W a fa) (hb : DE X W b fb) (hm : behindInMarks op b = false := by first | exact nomark _ | with_unfolding_all rfl) : DE X W (.Compare a [op] [b] pos) (f2 g fa fb) := by
  obtain ⟨r, h1, h2⟩ := ho
  obtain ⟨ta, pa, ia⟩ := ha
  obtain ⟨tb, pb, ib⟩ := hb
  refine ⟨_, pe_cmpR h1 pa pb hm, fun B ρ σ H O Q R p => ?_⟩
  unfold f2 at p
  rw [rpost_bind] at p
  refine ia B ρ σ H O _ R (p.mono (fun d1 ρ1 p x H1 g1 r1 => ?_) fun _ _ _ e => e)
  rw [rpost_bind] at p
  refine ib B ρ1 σ H1 O _ g1.rep (p.mono (fun d2 ρ2 p y H2 g2 r2 => ?_) (ErE.on g1))
  obtain ⟨d, e, p⟩ := rpost_of p
  exact h2 H2 O x y d1 d2 d Q g2.rep.live (r1.kp (g2.kp g1.rep)) r2 e fun v H3 s r3 => p v H3 ((g1.trans g2).trans (.same g2.rep s)) r3
theorem Rp.bl_inv {K : PySem.W.Frag} {mg : Str → Option Value} {H : Hp} {O : Av} {v : V} {k : Bool} (h : Rp K mg H O v (.bl k)) : v = .bl k := by
  cases h; rfl
theorem dt_cmp {op : CmpOp} {g : D → D → Option D} (ho : Op2 X (compareOp op) g) (ha : DE X W a fa) (hb : DE X W b fb) (hm : behindInMarks op b = false := by first | exact nomark _ | with_unfolding_all rfl) : DT X W (.Compare a [op] [b] pos) (t2 g fa fb) := by
  obtain ⟨r, h1, h2⟩ := ho
  obtain ⟨ta, pa, ia⟩ := ha
  obtain ⟨tb, pb, ib⟩ := hb
  refine ⟨_, pt_cmpR h1 pa pb hm, fun B ρ σ H O Q R p => ?_⟩
  unfold t2 at p
  rw [rpost_bind] at p
  refine ia B ρ σ H O _ R (p.mono (fun d1 ρ1 p x H1 g1 r1 => ?_) fun _ _ _ e => e)
  rw [rpost_bind] at p
  refine ib B ρ1 σ H1 O _ g1.rep (p.mono (fun d2 ρ2 p y H2 g2 r2 => ?_) (ErE.on g1))
  split at p
  · rename_i k e
    refine h2 H2 O x y d1 d2 _ _ g2.rep.live (r1.kp (g2.kp g1.rep)) r2 e fun v H3 s r3 => ?_
    rw [r3.bl_inv]
    exact ⟨k, rfl, p H3 ((g1.trans g2).trans (.same g2.rep s))⟩
  · exact p.elim
theorem chain_ok {g g' : D → D → Option D} {r r' : R2} {op op' : CmpOp} (h1 : OpR X (compareOp op) r) (h1' : OpR X (compareOp op') r')
    (h2 : ∀ (H : Hp) (O : Av) (x y : V) (a b d : D) (Q : VK), (∀ z, O z → H z ≠ none) → Rp X.K X.mg H O x a → Rp X.K X.mg H O y b → g a b = some d → (∀ v H', Same H H' → Rp X.K X.mg H' O v d → Q v H') → r x y H Q)
    (h2' : ∀ (H : Hp) (O : Av) (x y : V) (a b d : D) (Q : VK), (∀ z, O z → H z ≠ none) → Rp X.K X.mg H O x a → Rp X.K X.mg H O y b → g' a b = some d → (∀ v H', Same H H' → Rp X.K X.mg H' O v d → Q v H') → r' x y H Q)
    {ta tb tc : TE}
    (ia : ∀ (B : W.BB) (ρ : En) (σ : Sl) (H : Hp) (O : Av) (Q : VK), Rep X.K X.mg B.1 O ρ σ H → RPost (fa ρ) (fun d ρ' => ∀ v H', Go X.K X.mg B.1 O σ ρ H ρ' H' → Rp X.K X.mg H' O v d → Q v H') (ErE X B.1 W O σ ρ H) → ta σ H Q)
    (ib : ∀ (B : W.BB) (ρ : En) (σ : Sl) (H : Hp) (O : Av) (Q : VK), Rep X.K X.mg B.1 O ρ σ H → RPost (fb ρ) (fun d ρ' => ∀ v H', Go X.K X.mg B.1 O σ ρ H ρ' H' → Rp X.K X.mg H' O v d → Q v H') (ErE X B.1 W O σ ρ H) → tb σ H Q)
    (ic : ∀ (B : W.BB) (ρ : En) (σ : Sl) (H : Hp) (O : Av) (Q : VK), Rep X.K X.mg B.1 O ρ σ H → RPost (fc ρ) (fun d ρ' => ∀ v H', Go X.K X.mg B.1 O σ ρ H ρ' H' → Rp X.K X.mg H' O v d → Q v H') (ErE X B.1 W O σ ρ H) → tc σ H Q)
    (B : W.BB) (ρ : En) (σ : Sl) (H : Hp) (O : Av) (Q : VK) (R : Rep X.K X.mg B.1 O ρ σ H)
    (p : RPost (f3 g g' fa fb fc ρ) (fun d ρ' => ∀ v H', Go X.K X.mg B.1 O σ ρ H ρ' H' → Rp X.K X.mg H' O v d → Q v H') (ErE X B.1 W O σ ρ H)) : tChain r r' ta tb tc σ H Q := by
  unfold f3 at p
  rw [rpost_bind] at p
  refine ia B ρ σ H O _ R (p.mono (fun d1 ρ1 p x H1 g1 r1 => ?_) fun _ _ _ e => e)
  rw [rpost_bind] at p
  refine ib B ρ1 σ H1 O _ g1.rep (p.mono (fun d2 ρ2 p y H2 g2 r2 => ?_) (ErE.on g1))
  split at p
  · rename_i e
    refine h2 H2 O x y d1 d2 _ _ g2.rep.live (r1.kp (g2.kp g1.rep)) r2 e fun v H3 s r3 => ?_
    rw [r3.bl_inv]
    refine ⟨true, rfl, ?_⟩
    rw [if_pos rfl]
    rw [rpost_bind] at p
    have g3 := (g1.trans g2).trans (.same g2.rep s)
    refine ic B ρ2 σ H3 O _ g3.rep (p.mono (fun d4 ρ4 p z H4 g4 r4 => ?_) (ErE.on g3))
    obtain ⟨d, e, p⟩ := rpost_of p
    exact h2' H4 O y z d2 d4 d Q g4.rep.live ((r2.kp (Same.kp s)).kp (g4.kp g3.rep)) r4 e fun v H5 s5 r5 => p v H5 ((g3.trans g4).trans (.same g4.rep s5)) r5
  · rename_i e
    refine h2 H2 O x y d1 d2 _ _ g2.rep.live (r1.kp (g2.kp g1.rep)) r2 e fun v H3 s r3 => ?_
    rw [r3.bl_inv]
    refine ⟨false, rfl, ?_⟩
    rw [if_neg Bool.false_ne_true]
    exact p _ H3 ((g1.trans g2).trans (.same g2.rep s)) (.bl false)
  · exact p.elim
theorem de_chain {op op' : CmpOp} {g g' : D → D → Option D} (ho : Op2 X (compareOp op) g) (ho' : Op2 X (compareOp op') g') (ha : DE X W a fa) (hb : DE X W b fb) (hc : DE X W c fc) (hm : lastMarks [op, op'] [b, c] = false := by with_unfolding_all rfl) :
    DE X W (.Compare a [op, op'] [b, c] pos) (f3 g g' fa fb fc) := by
  obtain ⟨r, h1, h2⟩ := ho
  obtain ⟨r', h1', h2'⟩ := ho'
  obtain ⟨ta, pa, ia⟩ := ha
  obtain ⟨tb, pb, ib⟩ := hb
  obtain ⟨tc, pc, ic⟩ := hc
  exact ⟨_, pe_chain h1 h1' pa pb pc hm, fun B ρ σ H O Q R p => chain_ok h1 h1' h2 h2' ia ib ic B ρ σ H O Q R p⟩
theorem dt_chain {op op' : CmpOp} {g g' : D → D → Option D} (ho : Op2 X (compareOp op) g) (ho' : Op2 X (compareOp op') g') (ha : DE X W a fa) (hb : DE X W b fb) (hc : DE X W c fc) (hm : lastMarks [op, op'] [b, c] = false := by with_unfolding_all rfl) :
    DT X W (.Compare a [op, op'] [b, c] pos) (asB (f3 g g' fa fb fc)) := by
  obtain ⟨r, h1, h2⟩ := ho
  obtain ⟨r', h1', h2'⟩ := ho'
  obtain ⟨ta, pa, ia⟩ := ha
  obtain ⟨tb, pb, ib⟩ := hb
  obtain ⟨tc, pc, ic⟩ := hc
  refine ⟨_, pt_chain h1 h1' pa pb pc hm, fun B ρ σ H O Q R p => chain_ok h1 h1' h2 h2' ia ib ic B ρ σ H O _ R ?_⟩
  unfold asB at p
  rw [rpost_bind] at p
  refine p.mono (fun d ρ' p v H' g r => ?_) fun _ _ _ e => e
  split at p
  · rename_i k
    rw [r.bl_inv]
    exact ⟨k, rfl, p H' g⟩
  · exact p.elim
theorem tru_of {K : PySem.W.Frag} {mg : Str → Option Value} {H : Hp} {O : Av} {v : V} {d : D} {k : Bool} (h : Rp K mg H O v d) (e : d.truth = some k) : TruV K v H k := by
  have len : ∀ {vs : List V} {ds : List D}, vs.length = ds.length → vs.isEmpty = ds.isEmpty := fun {vs ds} h => by
    cases vs <;> cases ds <;> first | rfl | (exact nomatch h)
  cases h with
  | non => cases e; exact (rfl : false = false)
  | bl b => cases e; exact (rfl : k = k)
  | int i => cases e; exact (rfl : (i != 0) = (i != 0))
  | str s =>
    unfold D.truth at e
    dsimp only at e
    split at e
    · rename_i h
      cases e
      exact ⟨h, rfl⟩
    · cases e
  | lst h o n _ => cases e; exact .inl ⟨_, .inl (.inl h), by rw [len n]⟩
  | slst h n _ => cases e; exact .inl ⟨_, h.sq, by rw [len n]⟩
  | tup h n _ => cases e; exact .inr (.inl ⟨_, h.sq, by rw [len n]⟩)
  | ins _ _ _ _ _ => cases e
  | emp _ _ => cases e
/-- a value as a test (a name, a call, a subscript ..) -/
theorem dt_tru (ha : DE X W a fa) (he : ∀ whole, isTrue a X.env whole = (do let v ← whole; standAt a.pos; holding [v] (truthy v)) := by exact fun _ => rfl) : DT X W a (fTru fa) := by
  obtain ⟨ta, pa, ia⟩ := ha
  refine ⟨_, pt_truth pa he, fun B ρ σ H O Q R p => ?_⟩
  unfold fTru at p
  rw [rpost_bind] at p
  refine ia B ρ σ H O _ R (p.mono (fun d1 ρ1 p x H1 g1 r1 => ?_) fun _ _ _ e => e)
  obtain ⟨k, e, p⟩ := rpost_of p
  exact ⟨k, tru_of r1 e, p H1 g1⟩
variable {ta tb : FB} {rest : List Expr}
theorem DW.dt (h : DW X W a ta) : DT X W a ta := by
  obtain ⟨t, p, i⟩ := h
  exact ⟨t, p.pt, i⟩
theorem dw_and1 (ha : DT X W a ta) : DW X W (.BoolOp .And [a] pos) ta := by
  obtain ⟨t, p, i⟩ := ha
  exact ⟨t, pw_and1 p, i⟩
theorem dw_or1 (ha : DT X W a ta) : DW X W (.BoolOp .Or [a] pos) ta := by
  obtain ⟨t, p, i⟩ := ha
  exact ⟨t, pw_or1 p, i⟩
theorem dw_and (ha : DT X W a ta) (hb : DW X W (.BoolOp .And (b :: rest) pos) tb) : DW X W (.BoolOp .And (a :: b :: rest) pos) (fAnd ta tb) := by
  obtain ⟨t, pa, ia⟩ := ha
  obtain ⟨u, pb, ib⟩ := hb
  refine ⟨_, pw_and pa pb, fun B ρ σ H O Q R p => ?_⟩
  unfold fAnd at p
  rw [rpost_bind] at p
  refine ia B ρ σ H O _ R (p.mono (fun k ρ1 p H1 g1 => ?_) fun _ _ _ e => e)
  cases k with
  | true =>
    rw [if_pos rfl] at p ⊢
    exact ib B ρ1 σ H1 O _ g1.rep (p.mono (fun k ρ2 p H2 g2 => p H2 (g1.trans g2)) (ErE.on g1))
  | false =>
    rw [if_neg Bool.false_ne_true] at p ⊢
    exact p H1 g1
theorem dw_or (ha : DT X W a ta) (hb : DW X W (.BoolOp .Or (b :: rest) pos) tb) : DW X W (.BoolOp .Or (a :: b :: rest) pos) (fOr ta tb) := by
  obtain ⟨t, pa, ia⟩ := ha
  obtain ⟨u, pb, ib⟩ := hb
  refine ⟨_, pw_or pa pb, fun B ρ σ H O Q R p => ?_⟩
  unfold fOr at p
  rw [rpost_bind] at p
  refine ia B ρ σ H O _ R (p.mono (fun k ρ1 p H1 g1 => ?_) fun _ _ _ e => e)
  cases k with
  | true =>
    rw [if_pos rfl] at p ⊢
    exact p H1 g1
  | false =>
    rw [if_neg Bool.false_ne_true] at p ⊢
    exact ib B ρ1 σ H1 O _ g1.rep (p.mono (fun k ρ2 p H2 g2 => p H2 (g1.trans g2)) (ErE.on g1))
theorem dt_not (ha : DT X W a ta) : DT X W (.UnaryOp .Not a pos) (fNot ta) := by
  obtain ⟨t, pa, ia⟩ := ha
  refine ⟨_, pt_not pa, fun B ρ σ H O Q R p => ?_⟩
  unfold fNot at p
  rw [rpost_bind] at p
  exact ia B ρ σ H O _ R (p.mono (fun k ρ1 p H1 g1 => p H1 g1) fun _ _ _ e => e)
theorem de_one {op} (h : DE X W a fa) : DE X W (.BoolOp op [a] pos) fa := by
  obtain ⟨t, p, i⟩ := h
  exact ⟨t, pe_one p, i⟩
theorem de_and (ha : DE X W a fa) (hb : DE X W (.BoolOp .And (b :: rest) pos) fb) : DE X W (.BoolOp .And (a :: b :: rest) pos) (vAnd fa fb) := by
  obtain ⟨t, pa, ia⟩ := ha
  obtain ⟨u, pb, ib⟩ := hb
  refine ⟨_, pe_and pa pb, fun B ρ σ H O Q R p => ?_⟩
  unfold vAnd at p
  rw [rpost_bind] at p
  refine ia B ρ σ H O _ R (p.mono (fun k ρ1 p x H1 g1 r1 => ?_) fun _ _ _ e => e)
  split at p
  · rw [r1.bl_inv]
    refine ⟨true, rfl, ?_⟩
    rw [if_pos rfl]
    exact ib B ρ1 σ H1 O _ g1.rep (p.mono (fun k ρ2 p v H2 g2 => p v H2 (g1.trans g2)) (ErE.on g1))
  · rw [r1.bl_inv]
    refine ⟨false, rfl, ?_⟩
    rw [if_neg Bool.false_ne_true]
    exact p _ H1 g1 (.bl false)
  · exact p.elim
theorem de_or (ha : DE X W a fa) (hb : DE X W (.BoolOp .Or (b :: rest) pos) fb) : DE X W (.BoolOp .Or (a :: b :: rest) pos) (vOr fa fb) := by
  obtain ⟨t, pa, ia⟩ := ha
  obtain ⟨u, pb, ib⟩ := hb
  refine ⟨_, pe_or pa pb, fun B ρ σ H O Q R p => ?_⟩
  unfold vOr at p
  rw [rpost_bind] at p
  refine ia B ρ σ H O _ R (p.mono (fun k ρ1 p x H1 g1 r1 => ?_) fun _ _ _ e => e)
  split at p
  · rw [r1.bl_inv]
    refine ⟨true, rfl, ?_⟩
    rw [if_pos rfl]
    exact p _ H1 g1 (.bl true)
  · rw [r1.bl_inv]
    refine ⟨false, rfl, ?_⟩
    rw [if_neg Bool.false_ne_true]
    exact ib B ρ1 σ H1 O _ g1.rep (p.mono (fun k ρ2 p v H2 g2 => p v H2 (g1.trans g2)) (ErE.on g1))
  · exact p.elim
theorem de_if (hc : DT X W c ta) (ha : DE X W a fa) (hb : DE X W b fb) : DE X W (.IfExp c a b pos) (fIf ta fa fb) := by
  obtain ⟨t, pc, ic⟩ := hc
  obtain ⟨u, pa, ia⟩ := ha
  obtain ⟨w, pb, ib⟩ := hb
  refine ⟨_, pe_ifExp pc pa pb, fun B ρ σ H O Q R p => ?_⟩
  unfold fIf at p
  rw [rpost_bind] at p
  refine ic B ρ σ H O _ R (p.mono (fun k ρ1 p H1 g1 => ?_) fun _ _ _ e => e)
  cases k with
  | true =>
    rw [if_pos rfl] at p ⊢
    exact ia B ρ1 σ H1 O _ g1.rep (p.mono (fun k ρ2 p v H2 g2 => p v H2 (g1.trans g2)) (ErE.on g1))
  | false =>
    rw [if_neg Bool.false_ne_true] at p ⊢
    exact ib B ρ1 σ H1 O _ g1.rep (p.mono (fun k ρ2 p v H2 g2 => p v H2 (g1.trans g2)) (ErE.on g1))
/-! arguments, displays -/
variable {es : List Expr} {fl : FL}
theorem da_nil : DA X W [] fNil := ⟨_, pa_nil, fun B ρ σ H O Q R p => p [] H (Go.refl R) .nil⟩
theorem da_cons (ha : DE X W a fa) (hr : DA X W es fl) (hs : starEach (a :: es) X.env = (false, eval a X.env) :: starEach es X.env := by rfl) : DA X W (a :: es) (fCons fa fl) := by
  obtain ⟨t, pa, ia⟩ := ha
  obtain ⟨u, pr, ir⟩ := hr
  refine ⟨_, pa_cons pa pr hs, fun B ρ σ H O Q R p => ?_⟩
  unfold fCons at p
  rw [rpost_bind] at p
  refine ia B ρ σ H O _ R (p.mono (fun d1 ρ1 p x H1 g1 r1 => ?_) fun _ _ _ e => e)
  rw [rpost_bind] at p
  refine ir B ρ1 σ H1 O _ g1.rep (p.mono (fun d2 ρ2 p y H2 g2 r2 => ?_) (ErE.on g1))
  exact p _ H2 (g1.trans g2) (.cons (r1.kp (g2.kp g1.rep)) r2)
theorem fresh_not {O : Av} {H : Hp} {p : Addr} (l : ∀ z, O z → H z ≠ none) (h : H p = none) : ¬ O p := fun o => l p o h
theorem de_tup {x1} (h : DA X W es fl) : DE X W (.Tuple es x1 pos) (fTup fl) := by
  obtain ⟨t, pa, ia⟩ := h
  refine ⟨_, pe_tup pa, fun B ρ σ H O Q R p => ?_⟩
  unfold fTup at p
  rw [rpost_bind] at p
  refine ia B ρ σ H O _ R (p.mono (fun ds ρ1 p vs H1 g1 r1 => ?_) fun _ _ _ e => e)
  split at p
  · rename_i hl
    refine ⟨r1.1.symm ▸ hl, fun q hq => ?_⟩
    have s := same_new (o := .tup vs) hq
    have r2 := r1.kp (O' := O) (Same.kp s)
    exact p _ _ (g1.trans (.same g1.rep s)) (.tup (.inl ⟨.inl upd_same, fresh_not g1.rep.live hq⟩) r2.1 r2.2)
  · exact p.elim
theorem de_lst (h : DA X W es fl) : DE X W (.List es pos) (fLst fl) := by
  obtain ⟨t, pa, ia⟩ := h
  refine ⟨_, pe_lst pa, fun B ρ σ H O Q R p => ?_⟩
  unfold fLst at p
  rw [rpost_bind] at p
  refine ia B ρ σ H O _ R (p.mono (fun ds ρ1 p vs H1 g1 r1 => ?_) fun _ _ _ e => e)
  split at p
  · rename_i hl
    refine ⟨r1.1.symm ▸ hl, fun q hq => ?_⟩
    have s := same_new (o := .lst vs) hq
    have r2 := r1.kp (O' := O) (Same.kp s)
    exact p _ _ (g1.trans (.same g1.rep s)) (.lst upd_same (fresh_not g1.rep.live hq) r2.1 r2.2)
  · exact p.elim
/-- f(e, ..), f a built-in -/
theorem de_callB {x : Str} {id : String} {g : List D → Option D} {p' : Pos} (hc : CallV X (.builtin id) g) (hg : Gl X x) (hm : X.mg x = none) (hv : bootBuiltins x = some (.builtin id)) (ha : DA X W (a :: es) fl) (hn : x ≠ "__name__" := by decide) (hdb : (x == ("__debug__" : Str)) = false := by decide)
    (he : starEach (a :: es) X.env = (false, eval a X.env) :: starEach es X.env := by rfl) (hpl : (backTo pos (starEach es X.env)).any (·.1) = false := by rfl) : DE X W (.Call (.Name x p') (a :: es) [] pos) (fB g fl) := by
  obtain ⟨r, h1, h2⟩ := hc
  obtain ⟨t, pa, ia⟩ := ha
  refine ⟨_, pe_callB h1 hg hm hv pa hn hdb he hpl, fun B ρ σ H O Q R p => ?_⟩
  unfold fB at p
  rw [rpost_bind] at p
  refine ia B ρ σ H O _ R (p.mono (fun ds ρ1 p vs H1 g1 r1 => ?_) fun _ _ _ e => e)
  obtain ⟨d, e, p⟩ := rpost_of p
  exact h2 H1 O vs ds d Q g1.rep.live r1 e fun v H2 s r2 => p v H2 (g1.trans (.same g1.rep s)) r2
/-- T(e, ..), T a built-in type -/
theorem de_callTy {x : Str} {T : String} {g : List D → Option D} {p' : Pos} (hc : CallV X (.type T) g) (hg : Gl X x) (hm : X.mg x = none) (hv : bootBuiltins x = some (.type T)) (ha : DA X W (a :: es) fl) (hn : x ≠ "__name__" := by decide) (hdb : (x == ("__debug__" : Str)) = false := by decide)
    (he : starEach (a :: es) X.env = (false, eval a X.env) :: starEach es X.env := by rfl) (hpl : (backTo pos (starEach es X.env)).any (·.1) = false := by rfl) : DE X W (.Call (.Name x p') (a :: es) [] pos) (fB g fl) := by
  obtain ⟨r, h1, h2⟩ := hc
  obtain ⟨t, pa, ia⟩ := ha
  refine ⟨_, pe_callTy h1 hg hm hv pa hn hdb he hpl, fun B ρ σ H O Q R p => ?_⟩
  unfold fB at p
  rw [rpost_bind] at p
  refine ia B ρ σ H O _ R (p.mono (fun ds ρ1 p vs H1 g1 r1 => ?_) fun _ _ _ e => e)
  obtain ⟨d, e, p⟩ := rpost_of p
  exact h2 H1 O vs ds d Q g1.rep.live r1 e fun v H2 s r2 => p v H2 (g1.trans (.same g1.rep s)) r2
end
end DL

set_option Elab.async false
set_option linter.all false
set_option maxRecDepth 100000
/-! DL2: statements. -/
namespace DL
open PySem PySem.Spec PyProof.Rows L2

inductive SR where
  | nx (ρ : En)
  | rt (d : D) (ρ : En)
  /-- return of a new list -/
  | rtn (ds : List D) (ρ : En)
  | bk (ρ : En)
  | ct (ρ : En)
  | err (c : Str) (fs : List (Str × D)) (ρ : En)
  | stuck
abbrev G := En → SR
def SPost (X : Cx) (B : Base) (W : Wi) (D : Ends) (H : Hp) (O : Av) : SR → Prop
  | .nx ρ' => ∀ σ' H' O', Kp H O H' O' → Rep X.K X.mg B O' ρ' σ' H' → D.nx σ' H'
  | .bk ρ' => ∀ σ' H' O', Kp H O H' O' → Rep X.K X.mg B O' ρ' σ' H' → D.bk σ' H'
  | .ct ρ' => ∀ σ' H' O', Kp H O H' O' → Rep X.K X.mg B O' ρ' σ' H' → D.ct σ' H'
  | .rt d ρ' => ∀ v σ' H' O', Kp H O H' O' → Rep X.K X.mg B O' ρ' σ' H' → Rp X.K X.mg H' O' v d → D.rt v H'
  | .rtn ds ρ' => ∀ vs p σ' H' O', Kp H O H' O' → Rep X.K X.mg B O' ρ' σ' H' → H' p = none → RpL X.K X.mg H' O' vs ds → D.rt (.ref p) (upd H' p (.lst vs))
  | .err c fs ρ' => ∀ C od σ' H' O', Kp H O H' O' → Rep X.K X.mg B O' ρ' σ' H' → X.mg c = some (.ref C) → ErrAt X.K X.mg H' O' od fs → W.w (.ref C) od σ' H'
  | .stuck => False
theorem SPost.on {X : Cx} {B : Base} {W : Wi} {D : Ends} {H H1 : Hp} {O O1 : Av} (k : Kp H O H1 O1) : ∀ {r : SR}, SPost X B W D H O r → SPost X B W D H1 O1 r
  | .nx ρ', p => fun σ' H' O' k' => p σ' H' O' (k.trans k')
  | .bk ρ', p => fun σ' H' O' k' => p σ' H' O' (k.trans k')
  | .ct ρ', p => fun σ' H' O' k' => p σ' H' O' (k.trans k')
  | .rt d ρ', p => fun v σ' H' O' k' => p v σ' H' O' (k.trans k')
  | .rtn ds ρ', p => fun vs q σ' H' O' k' => p vs q σ' H' O' (k.trans k')
  | .err c fs ρ', p => fun C od σ' H' O' k' => p C od σ' H' O' (k.trans k')
  | .stuck, p => p
def DS (X : Cx) (W : Wi) (st : Stmt) (g : G) : Prop := ∃ t : TS, PS X st t ∧ ∀ (B : W.BB) (ρ : En) (σ : Sl) (H : Hp) (O : Av) (D : Ends), Rep X.K X.mg B.1 O ρ σ H → SPost X B.1 W D H O (g ρ) → t D σ H
def DSs (X : Cx) (W : Wi) (st : List Stmt) (g : G) : Prop := ∃ t : TS, PSs X st t ∧ ∀ (B : W.BB) (ρ : En) (σ : Sl) (H : Hp) (O : Av) (D : Ends), Rep X.K X.mg B.1 O ρ σ H → SPost X B.1 W D H O (g ρ) → t D σ H
/-- from an expression -/
def R.sr {α : Type} (r : R α) (k : α → En → SR) : SR := match r with
  | .ok a ρ => k a ρ
  | .err c fs ρ => .err c fs ρ
  | .stuck => .stuck
theorem spost_sr {α : Type} {X : Cx} {B : Base} {W : Wi} {D : Ends} {σ : Sl} {ρ : En} {H : Hp} {O : Av} {r : R α} {k : α → En → SR} (R0 : Rep X.K X.mg B O ρ σ H) (p : SPost X B W D H O (r.sr k)) :
    RPost r (fun a ρ1 => ∀ H1, Go X.K X.mg B O σ ρ H ρ1 H1 → SPost X B W D H1 O (k a ρ1)) (ErE X B W O σ ρ H) := by
  cases r with
  | ok a ρ1 => exact fun H1 g => SPost.on (g.kp R0) p
  | err c fs ρ1 => exact fun C od H' g m e => p C od σ H' O (g.kp R0) g.rep m e
  | stuck => exact p
def gNx : G := fun ρ => .nx ρ
def gSeq (g h : G) : G := fun ρ => match g ρ with
  | .nx ρ1 => h ρ1
  | r => r
def gRet (f : F) : G := fun ρ => (f ρ).sr fun d ρ1 => .rt d ρ1
def gRetN : G := fun ρ => .rt .non ρ
def gDrop (f : F) : G := fun ρ => (f ρ).sr fun _ ρ1 => .nx ρ1
def gIf (c : FB) (g h : G) : G := fun ρ => (c ρ).sr fun k ρ1 => if k = true then g ρ1 else h ρ1
def gSet (i : Nat) (f : F) : G := fun ρ => (f ρ).sr fun d ρ1 => .nx (ρ1.set i (some (.dat d)))
def gBrk : G := fun ρ => .bk ρ
def gCont : G := fun ρ => .ct ρ
section
variable {X : Cx} {W : Wi} {st : Stmt} {rest : List Stmt} {g h : G} {e : Expr} {f : F} {pos : Pos}
theorem dss_nil : DSs X W [] gNx := ⟨_, pss_nil, fun B ρ σ H O D R p => p σ H O .refl R⟩
theorem dss_cons (h1 : DS X W st g) (h2 : DSs X W rest h) : DSs X W (st :: rest) (gSeq g h) := by
  obtain ⟨t, p1, i1⟩ := h1
  obtain ⟨u, p2, i2⟩ := h2
  refine ⟨_, pss_cons p1 p2, fun B ρ σ H O D R p => ?_⟩
  refine i1 B ρ σ H O _ R ?_
  unfold gSeq at p
  split at p
  · rename_i ρ1 e
    rw [e]
    exact fun σ' H' O' k r => i2 B ρ1 σ' H' O' D r (SPost.on k p)
  · rename_i hn
    cases q : g ρ with
    | nx ρ1 => exact absurd q (hn ρ1)
    | bk ρ1 => rw [q] at p; exact p
    | ct ρ1 => rw [q] at p; exact p
    | rt d ρ1 => rw [q] at p; exact p
    | rtn ds ρ1 => rw [q] at p; exact p
    | err c fs ρ1 => rw [q] at p; exact p
    | stuck => rw [q] at p; exact p
theorem dss_one (h1 : DS X W st g) : DSs X W [st] g := by
  obtain ⟨t, p1, i1⟩ := h1
  exact ⟨_, pss_one p1, i1⟩
theorem ds_pass : DS X W (.Pass pos) gNx := ⟨_, ps_pass, fun B ρ σ H O D R p => p σ H O .refl R⟩
theorem ds_break : DS X W (.Break pos) gBrk := ⟨_, ps_break, fun B ρ σ H O D R p => p σ H O .refl R⟩
theorem ds_continue : DS X W (.Continue pos) gCont := ⟨_, ps_continue, fun B ρ σ H O D R p => p σ H O .refl R⟩
theorem ds_ret (he : DE X W e f) : DS X W (.Return (some e) pos) (gRet f) := by
  obtain ⟨t, pe, i⟩ := he
  refine ⟨_, ps_ret pe, fun B ρ σ H O D R p => ?_⟩
  exact i B ρ σ H O _ R ((spost_sr R p).mono (fun d ρ1 p v H1 g r => p H1 g v σ H1 O .refl g.rep r) fun _ _ _ e => e)
theorem ds_retN : DS X W (.Return none pos) gRetN := ⟨_, ps_retN, fun B ρ σ H O D R p => p .non σ H O .refl R .non⟩
theorem ds_expr (he : DE X W e f) (hs : swapsWith e none pos.line X.env = pure false := by rfl) : DS X W (.Expr e pos) (gDrop f) := by
  obtain ⟨t, pe, i⟩ := he
  refine ⟨_, ps_expr pe hs, fun B ρ σ H O D R p => ?_⟩
  exact i B ρ σ H O _ R ((spost_sr R p).mono (fun d ρ1 p v H1 g r => p H1 g σ H1 O .refl g.rep) fun _ _ _ e => e)
theorem ds_if {c : Expr} {a b : List Stmt} {fc : FB} (hc : DT X W c fc) (ha : DSs X W a g) (hb : DSs X W b h) : DS X W (.If c a b pos) (gIf fc g h) := by
  obtain ⟨t, pc, ic⟩ := hc
  obtain ⟨u, pa, ia⟩ := ha
  obtain ⟨w, pb, ib⟩ := hb
  refine ⟨_, ps_if pc pa pb, fun B ρ σ H O D R p => ?_⟩
  refine ic B ρ σ H O _ R ((spost_sr R p).mono (fun k ρ1 p H1 g1 => ?_) fun _ _ _ e => e)
  have p := p H1 g1
  cases k with
  | true =>
    rw [if_pos rfl] at p ⊢
    exact ia B ρ1 σ H1 O D g1.rep p
  | false =>
    rw [if_neg Bool.false_ne_true] at p ⊢
    exact ib B ρ1 σ H1 O D g1.rep p
/-- the store of data at a name -/
theorem Rep.setD {K : PySem.W.Frag} {mg : Str → Option Value} {B : Base} {ρ : En} {σ : Sl} {H : Hp} {O : Av} {v : V} {d : D} (R : Rep K mg B O ρ σ H) (i : Nat) (r : Rp K mg H O v d) : Rep K mg B O (ρ.set i (some (.dat d))) (σ.set i (some v)) H where
  len := by rw [List.length_set, List.length_set, R.len]
  slot := fun j s h => by
    by_cases hj : i = j
    · subst hj
      have l : i < (ρ.set i (some (.dat d))).length := (List.getElem?_eq_some_iff.mp h).1
      rw [List.length_set] at l
      rw [List.getElem?_set_self l] at h
      cases h
      exact ⟨v, List.getElem?_set_self (R.len ▸ l), r⟩
    · rw [List.getElem?_set_ne hj] at h
      obtain ⟨w, h1, h2⟩ := R.slot j s h
      exact ⟨w, (List.getElem?_set_ne hj).trans h1, h2⟩
  apart := fun j k s t a h1 h2 m1 m2 e1 e2 => by
    have key : ∀ {j : Nat} {s : Slot}, (ρ.set i (some (.dat d)))[j]? = some (some s) → s.mu = true → i ≠ j := fun {j s} h m e => by
      subst e
      have l : i < (ρ.set i (some (.dat d))).length := (List.getElem?_eq_some_iff.mp h).1
      rw [List.length_set] at l
      rw [List.getElem?_set_self l] at h
      cases h
      cases m
    have n1 := key h1 m1
    have n2 := key h2 m2
    rw [List.getElem?_set_ne n1] at h1 e1
    rw [List.getElem?_set_ne n2] at h2 e2
    exact R.apart j k s t a h1 h2 m1 m2 e1 e2
  base := R.base
  live := R.live
  o0 := R.o0
  b0 := R.b0
  pao := R.pao
theorem ds_set {i : Nat} {x : Str} {pos' : Pos} (hN : X.N.Nodup) (he : DE X W e f) (hi : X.N[i]? = some x := by rfl) (hx : Loc X.env.scope x := by first | exact .inl rfl | exact .inr rfl) (hs : swapsWith e (some (.Name x pos')) pos.line X.env = pure false := by rfl) (hf : X.fn x = true ∨ X.env.scope.names.lookup x = some .local := by first | exact .inl rfl | exact .inr rfl | assumption) :
    DS X W (.Assign [.Name x pos'] e pos) (gSet i f) := by
  obtain ⟨t, pe, ie⟩ := he
  refine ⟨_, ps_set hN hi hx pe hs hf, fun B ρ σ H O D R p => ?_⟩
  exact ie B ρ σ H O _ R ((spost_sr R p).mono (fun d ρ1 p v H1 g r => p H1 g (σ.set i (some v)) H1 O .refl (g.rep.setD i r)) fun _ _ _ e => e)

/-! ### targets -/
def wipeE (ρ : En) : List Nat → En
  | [] => ρ
  | v :: vs => (wipeE ρ vs).set v none
theorem wipeE_get {ρ : En} {i : Nat} {s : Slot} : ∀ {vs : List Nat}, (wipeE ρ vs)[i]? = some (some s) → ρ[i]? = some (some s) ∧ i ∉ vs
  | [], h => ⟨h, fun z => nomatch z⟩
  | v :: vs, h => by
    unfold wipeE at h
    by_cases hv : v = i
    · subst hv
      have l : v < ((wipeE ρ vs).set v none).length := (List.getElem?_eq_some_iff.mp h).1
      rw [List.length_set] at l
      rw [List.getElem?_set_self l] at h
      cases h
    · rw [List.getElem?_set_ne hv] at h
      obtain ⟨h1, h2⟩ := wipeE_get h
      exact ⟨h1, fun z => (List.mem_cons.mp z).elim (fun e => hv e.symm) h2⟩
theorem wipeE_out {ρ : En} {i : Nat} : ∀ {vs : List Nat}, i ∉ vs → (wipeE ρ vs)[i]? = ρ[i]?
  | [], _ => rfl
  | v :: vs, h => by
    unfold wipeE
    rw [List.getElem?_set_ne fun e => h (List.mem_cons.mpr (.inl e.symm))]
    exact wipeE_out fun z => h (List.mem_cons.mpr (.inr z))
theorem wipeE_len (ρ : En) : ∀ vs : List Nat, (wipeE ρ vs).length = ρ.length
  | [] => rfl
  | v :: vs => by
    unfold wipeE
    rw [List.length_set, wipeE_len ρ vs]
theorem set_none_comm {α : Type} (l : List (Option α)) (i j : Nat) (x : Option α) (h : i ≠ j) : (l.set i x).set j none = (l.set j none).set i x := List.set_comm x none h
theorem wipe_set {α : Type} {σ : Sl} {i : Nat} {x : Option V} : ∀ {vs : List Nat}, i ∈ vs → wipe (σ.set i x) vs = wipe σ vs
  | [], h => nomatch h
  | v :: vs, h => by
    unfold wipe
    by_cases e : i ∈ vs
    · rw [wipe_set (α := α) e]
    · have hv : i = v := (List.mem_cons.mp h).elim id fun z => absurd z e
      subst hv
      have out : ∀ {us : List Nat}, i ∉ us → wipe (σ.set i x) us = (wipe σ us).set i x := fun {us} => by
        induction us with
        | nil => exact fun _ => rfl
        | cons u us ih =>
          intro hn
          unfold wipe
          rw [ih fun z => hn (List.mem_cons.mpr (.inr z))]
          exact List.set_comm x none fun z => hn (List.mem_cons.mpr (.inl z))
      rw [out e, List.set_set]
theorem wipeE_set {ρ : En} {i : Nat} {x : Option Slot} : ∀ {vs : List Nat}, i ∈ vs → wipeE (ρ.set i x) vs = wipeE ρ vs
  | [], h => nomatch h
  | v :: vs, h => by
    unfold wipeE
    by_cases e : i ∈ vs
    · rw [wipeE_set e]
    · have hv : i = v := (List.mem_cons.mp h).elim id fun z => absurd z e
      subst hv
      have out : ∀ {us : List Nat}, i ∉ us → wipeE (ρ.set i x) us = (wipeE ρ us).set i x := fun {us} => by
        induction us with
        | nil => exact fun _ => rfl
        | cons u us ih =>
          intro hn
          unfold wipeE
          rw [ih fun z => hn (List.mem_cons.mpr (.inr z))]
          exact List.set_comm x none fun z => hn (List.mem_cons.mpr (.inl z))
      rw [out e, List.set_set]
/-- a store at the slots ts of data -/
structure TgGo (ts : List Nat) (ρ : En) (σ : Sl) (ρ' : En) (σ' : Sl) : Prop where
  s : ∀ vs, (∀ t, t ∈ ts → t ∈ vs) → wipe σ' vs = wipe σ vs
  r : ∀ vs, (∀ t, t ∈ ts → t ∈ vs) → wipeE ρ' vs = wipeE ρ vs
  m : ∀ b, Mu ρ' σ' b → Mu ρ σ b
theorem TgGo.refl {ρ : En} {σ : Sl} {ts : List Nat} : TgGo ts ρ σ ρ σ := ⟨fun _ _ => rfl, fun _ _ => rfl, fun _ m => m⟩
theorem TgGo.trans {ρ ρ1 ρ2 : En} {σ σ1 σ2 : Sl} {ts us : List Nat} (a : TgGo ts ρ σ ρ1 σ1) (b : TgGo us ρ1 σ1 ρ2 σ2) : TgGo (ts ++ us) ρ σ ρ2 σ2 :=
  ⟨fun vs h => (b.s vs fun t z => h t (List.mem_append.mpr (.inr z))).trans (a.s vs fun t z => h t (List.mem_append.mpr (.inl z))),
   fun vs h => (b.r vs fun t z => h t (List.mem_append.mpr (.inr z))).trans (a.r vs fun t z => h t (List.mem_append.mpr (.inl z))), fun x m => a.m x (b.m x m)⟩
theorem mu_setD {ρ : En} {σ : Sl} {i : Nat} {v : V} {d : D} {b : Addr} (m : Mu (ρ.set i (some (.dat d))) (σ.set i (some v)) b) : Mu ρ σ b := by
  obtain ⟨j, s, h1, h2, h3⟩ := m
  by_cases hj : i = j
  · subst hj
    have l : i < (ρ.set i (some (.dat d))).length := (List.getElem?_eq_some_iff.mp h1).1
    rw [List.length_set] at l
    rw [List.getElem?_set_self l] at h1
    cases h1
    cases h2
  · rw [List.getElem?_set_ne hj] at h1 h3
    exact ⟨j, s, h1, h2, h3⟩
theorem TgGo.one {ρ : En} {σ : Sl} {i : Nat} {v : V} {d : D} : TgGo [i] ρ σ (ρ.set i (some (.dat d))) (σ.set i (some v)) :=
  ⟨fun vs h => wipe_set (α := Unit) (h i (List.mem_cons.mpr (.inl rfl))), fun vs h => wipeE_set (h i (List.mem_cons.mpr (.inl rfl))), fun _ m => mu_setD m⟩
/-- a target takes data: what the slots are then -/
def DG (X : Cx) (tg : Expr) (ts : List Nat) (f : D → En → Option En) : Prop := ∃ t : TG, PG X tg t ∧ ∀ (B : Base) (ρ ρ' : En) (σ : Sl) (H : Hp) (O : Av) (v : V) (d : D) (Q : Sl → Hp → Prop), Rep X.K X.mg B O ρ σ H → Rp X.K X.mg H O v d → f d ρ = some ρ' →
  (∀ σ' H', Same H H' → Rep X.K X.mg B O ρ' σ' H' → TgGo ts ρ σ ρ' σ' → Q σ' H') → t v σ H Q
def DGs (X : Cx) (tg : List Expr) (ts : List Nat) (f : List D → En → Option En) : Prop := ∃ t : TGs, PGs X tg t ∧ ∀ (B : Base) (ρ ρ' : En) (σ : Sl) (H : Hp) (O : Av) (vs : List V) (ds : List D) (Q : Sl → Hp → Prop), Rep X.K X.mg B O ρ σ H → RpL X.K X.mg H O vs ds → f ds ρ = some ρ' →
  (∀ σ' H', Same H H' → Rep X.K X.mg B O ρ' σ' H' → TgGo ts ρ σ ρ' σ' → Q σ' H') → t vs σ H Q
def tgName (i : Nat) : D → En → Option En := fun d ρ => some (ρ.set i (some (.dat d)))
def tgNil : List D → En → Option En := fun ds ρ => match ds with
  | [] => some ρ
  | _ => none
def tgCons (f : D → En → Option En) (r : List D → En → Option En) : List D → En → Option En := fun ds ρ => match ds with
  | d :: ds => (f d ρ).bind (r ds)
  | [] => none
def tgTup (n : Nat) (f : List D → En → Option En) : D → En → Option En := fun d ρ => match d with
  | .tup ds => if ds.length = n then f ds ρ else none
  | _ => none
theorem dg_name {i : Nat} {x : Str} (hN : X.N.Nodup) (hi : X.N[i]? = some x := by rfl) (hx : Loc X.env.scope x := by first | exact .inl rfl | exact .inr rfl) (hf : X.fn x = true ∨ X.env.scope.names.lookup x = some .local := by first | exact .inl rfl | exact .inr rfl | assumption) : DG X (.Name x pos) [i] (tgName i) := by
  refine ⟨_, pg_name hN hi hx hf, fun B ρ ρ' σ H O v d Q R r e q => ?_⟩
  cases e
  exact q _ H (Same.refl H) (R.setD i r) .one
theorem dgs_nil : DGs X [] [] tgNil := by
  refine ⟨_, pgs_nil, fun B ρ ρ' σ H O vs ds Q R r e q => ?_⟩
  unfold tgNil at e
  split at e
  · cases e
    have h : vs = [] := List.eq_nil_of_length_eq_zero r.1
    exact ⟨h, q σ H (Same.refl H) R .refl⟩
  · cases e
theorem dgs_cons {tg : Expr} {tgs : List Expr} {ts us : List Nat} {f : D → En → Option En} {r : List D → En → Option En} (h1 : DG X tg ts f) (h2 : DGs X tgs us r) (hs : (assignEach (tg :: tgs) X.env).map (·.2) = assign tg X.env :: (assignEach tgs X.env).map (·.2) := by rfl) : DGs X (tg :: tgs) (ts ++ us) (tgCons f r) := by
  obtain ⟨t, p1, i1⟩ := h1
  obtain ⟨u, p2, i2⟩ := h2
  refine ⟨_, pgs_cons p1 p2 hs, fun B ρ ρ' σ H O vs ds Q R rr e q => ?_⟩
  unfold tgCons at e
  cases ds with
  | nil => cases e
  | cons d ds =>
    cases vs with
    | nil => exact nomatch rr.1
    | cons v vs =>
      obtain ⟨r1, r2⟩ := rr.uncons
      dsimp only at e
      cases q1 : f d ρ with
      | none => rw [q1] at e; cases e
      | some ρ1 =>
        rw [q1] at e
        refine ⟨v, vs, rfl, i1 B ρ ρ1 σ H O v d _ R r1 q1 fun σ1 H1 s R1 g1 => ?_⟩
        exact i2 B ρ1 ρ' σ1 H1 O vs ds Q R1 (r2.kp (Same.kp s)) e fun σ2 H2 s2 R2 g2 => q σ2 H2 (s.trans s2) R2 (g1.trans g2)
theorem dg_tup {es : List Expr} {k n : Nat} {ts : List Nat} {f : List D → En → Option En} (hc : X.calm = true) (h : DGs X es ts f) (hn : (assignEach es X.env).length = n := by rfl) (hst : (assignEach es X.env).findIdx? (·.1) = none := by rfl) : DG X (.Tuple es k pos) ts (tgTup n f) := by
  obtain ⟨t, p, i⟩ := h
  refine ⟨_, pg_tup hc p hn hst, fun B ρ ρ' σ H O v d Q R r e q => ?_⟩
  unfold tgTup at e
  cases r with
  | tup h m el =>
    dsimp only at e
    split at e
    · rename_i hl
      exact ⟨_, _, rfl, h.sq, m.trans hl, i B ρ ρ' σ H O _ _ Q R ⟨m, el⟩ e q⟩
    · cases e
  | _ => cases e
def gAsg (t : D → En → Option En) (f : F) : G := fun ρ => (f ρ).sr fun d ρ1 => match t d ρ1 with
  | some ρ2 => .nx ρ2
  | none => .stuck
theorem ds_asg {tg : Expr} {ts : List Nat} {t : D → En → Option En} (he : DE X W e f) (hg : DG X tg ts t) (hs : swapsWithSole [tg] e pos.line X.env = pure false := by rfl) (hw : swappedStores [tg] e X.env = pure none := by rfl)
    (h1 : (assignEach [tg] X.env).map (·.2) = [assign tg X.env] := by rfl) : DS X W (.Assign [tg] e pos) (gAsg t f) := by
  obtain ⟨te, pe, ie⟩ := he
  obtain ⟨tt, pt, it⟩ := hg
  refine ⟨_, ps_asg pe pt hs hw h1, fun B ρ σ H O D R p => ?_⟩
  refine ie B ρ σ H O _ R ((spost_sr R p).mono (fun d ρ1 p v H1 g r => ?_) fun _ _ _ e => e)
  have p := p H1 g
  cases q : t d ρ1 with
  | none => rw [q] at p; exact p.elim
  | some ρ2 =>
    rw [q] at p
    exact it B.1 ρ1 ρ2 σ H1 O v d _ g.rep r q fun σ' H' s R' _ => p σ' H' O (Same.kp s) R'
/-- a, b = x, y of plain names -/
def gPar (i j : Nat) (f : FL) : G := fun ρ => (f ρ).sr fun ds ρ1 => match ds with
  | [a, b] => .nx ((ρ1.set i (some (.dat a))).set j (some (.dat b)))
  | _ => .stuck
theorem ds_par {i j : Nat} {x y : Str} {a b : Expr} {fl : FL} {px py pt : Pos} {kt k2 pt2} (hc : X.calm = true) (hN : X.N.Nodup) (ha : DA X W [a, b] fl) (hi : X.N[i]? = some x := by rfl) (hj : X.N[j]? = some y := by rfl) (hij : i ≠ j := by decide)
    (hx : X.env.scope.names.lookup x = some .local := by rfl) (hy : X.env.scope.names.lookup y = some .local := by rfl)
    (hw : swappedStores [.Tuple [.Name x px, .Name y py] kt pt] (.Tuple [a, b] k2 pt2) X.env = pure (some [x, y]) := by rfl)
    (hs : swapsWithSole [.Tuple [.Name x px, .Name y py] kt pt] (.Tuple [a, b] k2 pt2) pos.line X.env = pure false := by rfl) :
    DS X W (.Assign [.Tuple [.Name x px, .Name y py] kt pt] (.Tuple [a, b] k2 pt2) pos) (gPar i j fl) := by
  obtain ⟨t, pa, ia⟩ := ha
  refine ⟨_, ps_par hc hN hi hj hij hx hy pa hw hs, fun B ρ σ H O D R p => ?_⟩
  refine ia B ρ σ H O _ R ((spost_sr R p).mono (fun ds ρ1 p vs H1 g r => ?_) fun _ _ _ e => e)
  have p := p H1 g
  match ds, vs, r, p with
  | [d1, d2], [v1, v2], r, p =>
    have r1 := r.uncons
    exact ⟨v1, v2, rfl, p _ H1 O .refl ((g.rep.setD i r1.1).setD j r1.2.uncons.1)⟩
  | [d1, d2], [], r, p => exact nomatch r.1
  | [d1, d2], [_], r, p => exact nomatch r.1
  | [d1, d2], _ :: _ :: _ :: _, r, p => exact nomatch r.1
  | [], _, _, p => exact p.elim
  | [_], _, _, p => exact p.elim
  | _ :: _ :: _ :: _, _, _, p => exact p.elim
end
end DL

set_option Elab.async false
set_option linter.all false
set_option maxRecDepth 100000
/-! DL3: lists of one's own. -/
namespace DL
open PySem PySem.Spec PyProof.Rows L2
section
variable {K : PySem.W.Frag} {mg : Str → Option Value} {B : Base} {O : Av} {ρ : En} {σ : Sl} {H : Hp} {i : Nat} {p : Addr} {vs : List V} {ds : List D} {c c' : Cont}
/-- O with one more, one less -/
def Av.add (O : Av) (p : Addr) : Av := fun a => O a ∨ a = p
def Av.sub (O : Av) (p : Addr) : Av := fun a => O a ∧ a ≠ p
theorem kp_add {o : HO} (h : H p = none) : Kp H O (upd H p o) (O.add p) := fun a u e n => by
  have ne : a ≠ p := ne_of_none e h
  exact ⟨by rw [upd_ne ne]; exact e, fun z => z.elim n ne⟩
theorem kp_sub : Kp H O H (O.sub p) := fun a u e n => ⟨e, fun z => n z.1⟩
/-- a slot that changes goes on where the rest goes on -/
theorem SlotAt.kp {H' : Hp} {O' : Av} {s : Slot} {v : V} (k : Kp H O H' O') (e : ∀ a, v = .ref a → s.mu = true → H' a = H a ∧ O' a) (h : SlotAt K mg B H O s v) : SlotAt K mg B H' O' s v := by
  cases s with
  | dat d => exact Rp.kp k h
  | exc c fs => exact ⟨h.1, h.2.1, h.2.2.kp k⟩
  | own ds =>
    obtain ⟨a, e1, o, n, c⟩ := h
    have := e a e1 rfl
    exact ⟨a, e1, this.2, n, c.kp k this.1⟩
  | par j c =>
    obtain ⟨a, e1, o, n, c'⟩ := h
    have := e a e1 rfl
    exact ⟨a, e1, this.2, n, c'.kp k this.1⟩
theorem Rep.h0 (R : Rep K mg B O ρ σ H) (hp : H p = none) : B.H0 p = none := by
  cases q : B.H0 p with
  | none => rfl
  | some o =>
    by_cases hb : p ∈ B.pa
    · exact absurd hp (R.live p (R.o0 p (R.pao p hb)))
    · rw [R.base p o q hb] at hp
      cases hp
/-- a new list of one's own -/
theorem Rep.setOwn (R : Rep K mg B O ρ σ H) (hp : H p = none) (r : RpL K mg H O vs ds) : Rep K mg B (O.add p) (ρ.set i (some (.own ds))) (σ.set i (some (.ref p))) (upd H p (.lst vs)) where
  len := by rw [List.length_set, List.length_set, R.len]
  slot := fun j s h => by
    by_cases hj : i = j
    · subst hj
      have l : i < (ρ.set i (some (.own ds))).length := (List.getElem?_eq_some_iff.mp h).1
      rw [List.length_set] at l
      rw [List.getElem?_set_self l] at h
      cases h
      exact ⟨.ref p, List.getElem?_set_self (R.len ▸ l), p, rfl, .inr rfl, R.h0 hp, vs, upd_same, r.kp (kp_add hp)⟩
    · rw [List.getElem?_set_ne hj] at h
      obtain ⟨w, h1, h2⟩ := R.slot j s h
      refine ⟨w, (List.getElem?_set_ne hj).trans h1, h2.kp (kp_add hp) fun a e m => ?_⟩
      subst e
      have o : O a := R.mu_O ⟨j, s, h, m, h1⟩
      have ne : a ≠ p := fun e => R.live a o (e ▸ hp)
      exact ⟨upd_ne ne, .inl o⟩
  apart := by
    have old : ∀ {j : Nat} {s : Slot} {a : Addr}, i ≠ j → (ρ.set i (some (.own ds)))[j]? = some (some s) → s.mu = true → (σ.set i (some (.ref p)))[j]? = some (some (.ref a)) →
        ρ[j]? = some (some s) ∧ σ[j]? = some (some (.ref a)) ∧ a ≠ p := fun {j s a} hj h m e => by
      rw [List.getElem?_set_ne hj] at h e
      exact ⟨h, e, fun z => R.live a (R.mu_O ⟨j, s, h, m, e⟩) (z ▸ hp)⟩
    have new : ∀ {a : Addr}, (σ.set i (some (.ref p)))[i]? = some (some (.ref a)) → a = p := fun {a} e => by
      have l : i < (σ.set i (some (V.ref p))).length := (List.getElem?_eq_some_iff.mp e).1
      rw [List.length_set] at l
      rw [List.getElem?_set_self l] at e
      cases e
      rfl
    intro j k s t a h1 h2 m1 m2 e1 e2
    by_cases hj : i = j
    · by_cases hk : i = k
      · exact hj.symm.trans hk
      · obtain ⟨_, _, n⟩ := old hk h2 m2 e2
        subst hj
        exact absurd (new e1) n
    · obtain ⟨h1', e1', n⟩ := old hj h1 m1 e1
      by_cases hk : i = k
      · subst hk
        exact absurd (new e2) n
      · obtain ⟨h2', e2', _⟩ := old hk h2 m2 e2
        exact R.apart j k s t a h1' h2' m1 m2 e1' e2'
  base := fun b o h n => by
    have e := R.base b o h n
    rw [upd_ne (ne_of_none e hp)]
    exact e
  live := fun a o => by
    by_cases e : a = p
    · rw [e, upd_same]
      exact fun z => nomatch z
    · rw [upd_ne e]
      rcases o with o | o
      · exact R.live a o
      · exact absurd o e
  o0 := fun a h => .inl (R.o0 a h)
  b0 := R.b0
  pao := R.pao
/-- what the list of a slot holds is changed -/
def Slot.put : Slot → List D → Option Slot
  | .own _, ds => some (.own ds)
  | .par k (.lst _), ds => some (.par k (.lst ds))
  | _, _ => none
def Slot.list : Slot → Option (List D)
  | .own ds => some ds
  | .par _ (.lst ds) => some ds
  | _ => none
theorem Rep.listAt (R : Rep K mg B O ρ σ H) {s : Slot} (h : ρ[i]? = some (some s)) (l : s.list = some ds) :
    ∃ a vs, σ[i]? = some (some (.ref a)) ∧ O a ∧ H a = some (.lst vs) ∧ RpL K mg H O vs ds ∧ s.mu = true := by
  obtain ⟨v, h1, h2⟩ := R.slot i s h
  cases s with
  | dat d => cases l
  | exc c fs => cases l
  | own xs =>
    cases l
    obtain ⟨a, rfl, o, _, vs, q, r⟩ := h2
    exact ⟨a, vs, h1, o, q, r, rfl⟩
  | par k c =>
    cases c with
    | ins _ _ => cases l
    | lst xs =>
      cases l
      obtain ⟨a, rfl, o, _, vs, q, r⟩ := h2
      exact ⟨a, vs, h1, o, q, r, rfl⟩
theorem put_kd {s s' : Slot} (h : s.put ds = some s') : s'.kd = s.kd ∧ s'.mu = true := by
  cases s with
  | dat d => cases h
  | exc c fs => cases h
  | own xs => cases h; exact ⟨rfl, rfl⟩
  | par k c =>
    cases c with
    | lst xs => cases h; exact ⟨rfl, rfl⟩
    | ins _ _ => cases h
theorem Rep.writeL (R : Rep K mg B O ρ σ H) {s s' : Slot} {a : Addr} (h : ρ[i]? = some (some s)) (hs : σ[i]? = some (some (.ref a))) (hm : s.mu = true) (hp : s.put ds = some s') (r : RpL K mg H O vs ds) :
    Go K mg B O σ ρ H (ρ.set i (some s')) (upd H a (.lst vs)) ∧ Kp H O (upd H a (.lst vs)) O := by
  have hO : O a := R.mu_O ⟨i, s, h, hm, hs⟩
  have k : Kp H O (upd H a (.lst vs)) O := fun b u e n => ⟨by rw [upd_ne fun z : b = a => n (z ▸ hO)]; exact e, n⟩
  have li : i < ρ.length := (List.getElem?_eq_some_iff.mp h).1
  refine ⟨⟨?_, fun b o e n => ?_, ?_⟩, k⟩
  · apply List.ext_getElem?
    intro j
    rw [kinds_get, kinds_get]
    by_cases hj : i = j
    · subst hj
      rw [List.getElem?_set_self li, h]
      simp [(put_kd hp).1]
    · rw [List.getElem?_set_ne hj]
  · rw [upd_ne fun z : b = a => n (z ▸ ⟨i, s, h, hm, hs⟩)]
    exact e
  · exact {
      len := by rw [List.length_set, R.len]
      slot := fun j t ht => by
        by_cases hj : i = j
        · subst hj
          rw [List.getElem?_set_self li] at ht
          cases ht
          obtain ⟨v, h1, h2⟩ := R.slot i s h
          rw [hs] at h1
          cases h1
          refine ⟨.ref a, hs, ?_⟩
          cases s with
          | dat d => cases hm
          | exc c fs => cases hm
          | own xs =>
            cases hp
            obtain ⟨b, e, o, n, _⟩ := h2
            cases e
            exact ⟨a, rfl, o, n, vs, upd_same, r.kp k⟩
          | par q c =>
            cases c with
            | ins _ _ => cases hp
            | lst xs =>
              cases hp
              obtain ⟨b, e, o, n, _⟩ := h2
              cases e
              exact ⟨a, rfl, o, n, vs, upd_same, r.kp k⟩
        · rw [List.getElem?_set_ne hj] at ht
          obtain ⟨w, h1, h2⟩ := R.slot j t ht
          refine ⟨w, h1, h2.kp k fun b e m => ?_⟩
          subst e
          have nb : b ≠ a := fun z => hj (R.apart i j s t a h ht hm m hs (z ▸ h1))
          exact ⟨upd_ne nb, R.mu_O ⟨j, t, ht, m, h1⟩⟩
      apart := fun j q t u b h1 h2 m1 m2 e1 e2 => by
        have key : ∀ {j : Nat} {t : Slot}, (ρ.set i (some s'))[j]? = some (some t) → t.mu = true → ∃ t', ρ[j]? = some (some t') ∧ t'.mu = true := fun {j t} ht m => by
          by_cases hj : i = j
          · subst hj
            exact ⟨s, h, hm⟩
          · rw [List.getElem?_set_ne hj] at ht
            exact ⟨t, ht, m⟩
        obtain ⟨t', a1, a2⟩ := key h1 m1
        obtain ⟨u', b1, b2⟩ := key h2 m2
        exact R.apart j q t' u' b a1 b1 a2 b2 e1 e2
      base := fun b o e n => by
        have e' := R.base b o e n
        have nb : b ≠ a := fun z => by
          obtain ⟨v, h1, h2⟩ := R.slot i s h
          rw [hs] at h1
          cases h1
          cases s with
          | dat d => cases hm
          | exc c fs => cases hm
          | own xs =>
            obtain ⟨b', e1, o1, n1, _⟩ := h2
            cases e1
            rw [z, n1] at e
            cases e
          | par q c =>
            obtain ⟨b', e1, o1, n1, _⟩ := h2
            cases e1
            exact n (z ▸ List.mem_of_getElem? n1)
        rw [upd_ne nb]
        exact e'
      live := fun b o => by
        by_cases e : b = a
        · rw [e, upd_same]
          exact fun z => nomatch z
        · rw [upd_ne e]
          exact R.live b o
      o0 := R.o0
      b0 := R.b0
      pao := R.pao }
/-- a list of one's own is changed no more -/
def frz (i : Nat) (ρ : En) : En := match ρ[i]? with
  | some (some (.own ds)) => ρ.set i (some (.dat (.lst ds)))
  | _ => ρ
theorem Rep.frz (R : Rep K mg B O ρ σ H) (i : Nat) : ∃ O', Kp H O H O' ∧ Rep K mg B O' (frz i ρ) σ H := by
  unfold DL.frz
  split
  · rename_i ds h
    obtain ⟨v, h1, p, rfl, o, n, vs, q, r⟩ := R.slot i _ h
    have li : i < ρ.length := (List.getElem?_eq_some_iff.mp h).1
    have keep : ∀ {j : Nat} {t : Slot}, i ≠ j → (ρ.set i (some (.dat (.lst ds))))[j]? = some (some t) → ρ[j]? = some (some t) := fun {j t} hj ht => by
      rw [List.getElem?_set_ne hj] at ht
      exact ht
    have isI : ∀ {t : Slot}, (ρ.set i (some (.dat (.lst ds))))[i]? = some (some t) → t = .dat (.lst ds) := fun {t} ht => by
      rw [List.getElem?_set_self li] at ht
      cases ht
      rfl
    refine ⟨O.sub p, kp_sub, ?_⟩
    exact {
      len := by rw [List.length_set, R.len]
      slot := fun j t ht => by
        by_cases hj : i = j
        · subst hj
          cases isI ht
          have r' := r.kp (kp_sub (O := O) (p := p))
          exact ⟨.ref p, h1, .lst q (fun z => z.2 rfl) r'.1 r'.2⟩
        · have ht' := keep hj ht
          obtain ⟨w, e1, e2⟩ := R.slot j t ht'
          refine ⟨w, e1, e2.kp kp_sub fun b e m => ?_⟩
          subst e
          exact ⟨rfl, R.mu_O ⟨j, t, ht', m, e1⟩, fun z => hj (R.apart i j _ t p h ht' rfl m h1 (z ▸ e1))⟩
      apart := fun j k s t a x1 x2 m1 m2 e1 e2 => by
        have n1 : i ≠ j := fun z => by subst z; cases isI x1; cases m1
        have n2 : i ≠ k := fun z => by subst z; cases isI x2; cases m2
        exact R.apart j k s t a (keep n1 x1) (keep n2 x2) m1 m2 e1 e2
      base := R.base
      live := fun a o => R.live a o.1
      o0 := fun a x => ⟨R.o0 a x, fun z => R.b0 a x (z ▸ n)⟩
      b0 := R.b0
      pao := R.pao }
  · exact ⟨O, .refl, R⟩
end
section
variable {X : Cx} {W : Wi} {st : Stmt} {sts : List Stmt} {g : G} {e : Expr} {es : List Expr} {f : F} {fl : FL} {pos : Pos}
theorem ds_frz (i : Nat) (h : DS X W st g) : DS X W st (fun ρ => g (frz i ρ)) := by
  obtain ⟨t, p, q⟩ := h
  refine ⟨t, p, fun B ρ σ H O D R x => ?_⟩
  obtain ⟨O', k, R'⟩ := R.frz i
  exact q B _ σ H O' D R' (SPost.on k x)
theorem dss_frz (i : Nat) (h : DSs X W sts g) : DSs X W sts (fun ρ => g (frz i ρ)) := by
  obtain ⟨t, p, q⟩ := h
  refine ⟨t, p, fun B ρ σ H O D R x => ?_⟩
  obtain ⟨O', k, R'⟩ := R.frz i
  exact q B _ σ H O' D R' (SPost.on k x)
/-- an expression that gives a NEW list -/
def DN (X : Cx) (W : Wi) (e : Expr) (f : FL) : Prop := ∃ t : TE, PE X e t ∧ ∀ (B : W.BB) (ρ : En) (σ : Sl) (H : Hp) (O : Av) (Q : VK), Rep X.K X.mg B.1 O ρ σ H →
  RPost (f ρ) (fun ds ρ' => ∀ vs p H', Go X.K X.mg B.1 O σ ρ H ρ' H' → H' p = none → RpL X.K X.mg H' O vs ds → Q (.ref p) (upd H' p (.lst vs))) (ErE X B.1 W O σ ρ H) → t σ H Q
def fOfL (f : FL) : F := fun ρ => (f ρ).bind fun ds ρ1 => .ok (.lst ds) ρ1
theorem DN.de (h : DN X W e fl) : DE X W e (fOfL fl) := by
  obtain ⟨t, p, i⟩ := h
  refine ⟨t, p, fun B ρ σ H O Q R x => ?_⟩
  unfold fOfL at x
  rw [rpost_bind] at x
  refine i B ρ σ H O Q R (x.mono (fun ds ρ1 x vs q H1 g hq r => ?_) fun _ _ _ e => e)
  have s := same_new (o := .lst vs) hq
  have r2 := r.kp (O' := O) (Same.kp s)
  exact x _ _ (g.trans (.same g.rep s)) (.lst upd_same (fresh_not g.rep.live hq) r2.1 r2.2)
def fDisp (f : FL) : FL := fun ρ => (f ρ).bind fun ds ρ1 => if ds.length ≤ sizeLine then .ok ds ρ1 else .stuck
theorem dn_lst (h : DA X W es fl) : DN X W (.List es pos) (fDisp fl) := by
  obtain ⟨t, pa, ia⟩ := h
  refine ⟨_, pe_lst pa, fun B ρ σ H O Q R p => ?_⟩
  unfold fDisp at p
  rw [rpost_bind] at p
  refine ia B ρ σ H O _ R (p.mono (fun ds ρ1 p vs H1 g1 r1 => ?_) fun _ _ _ e => e)
  split at p
  · rename_i hl
    exact ⟨r1.1.symm ▸ hl, fun q hq => p vs q H1 g1 hq r1⟩
  · exact p.elim
def gOwn (i : Nat) (f : FL) : G := fun ρ => (f ρ).sr fun ds ρ1 => .nx (ρ1.set i (some (.own ds)))
theorem ds_own {i : Nat} {x : Str} {pos' : Pos} (hN : X.N.Nodup) (he : DN X W e fl) (hi : X.N[i]? = some x := by rfl) (hx : Loc X.env.scope x := by first | exact .inl rfl | exact .inr rfl) (hs : swapsWith e (some (.Name x pos')) pos.line X.env = pure false := by rfl) (hf : X.fn x = true ∨ X.env.scope.names.lookup x = some .local := by first | exact .inl rfl | exact .inr rfl | assumption) :
    DS X W (.Assign [.Name x pos'] e pos) (gOwn i fl) := by
  obtain ⟨t, pe, ie⟩ := he
  refine ⟨_, ps_set hN hi hx pe hs hf, fun B ρ σ H O D R p => ?_⟩
  refine ie B ρ σ H O _ R ((spost_sr R p).mono (fun ds ρ1 p vs q H1 g hq r => ?_) fun _ _ _ e => e)
  exact p H1 g (σ.set i (some (.ref q))) _ (O.add q) (kp_add hq) (g.rep.setOwn hq r)
/-! what the slot's list is asked -/
def slotList (ρ : En) (i : Nat) : Option (List D) := match ρ[i]? with
  | some (some s) => s.list
  | _ => none
def slotPut (ρ : En) (i : Nat) (ds : List D) : Option En := match ρ[i]? with
  | some (some s) => (s.put ds).map fun s' => ρ.set i (some s')
  | _ => none
theorem slotList_at {ρ : En} {i : Nat} {ds : List D} (h : slotList ρ i = some ds) : ∃ s, ρ[i]? = some (some s) ∧ s.list = some ds := by
  unfold slotList at h
  split at h
  · rename_i s e
    exact ⟨s, e, h⟩
  · cases h
theorem slotPut_at {ρ ρ' : En} {i : Nat} {ds : List D} (h : slotPut ρ i ds = some ρ') : ∃ s s', ρ[i]? = some (some s) ∧ s.put ds = some s' ∧ ρ' = ρ.set i (some s') := by
  unfold slotPut at h
  split at h
  · rename_i s e
    cases q : s.put ds with
    | none => rw [q] at h; cases h
    | some s' => rw [q] at h; cases h; exact ⟨s, s', e, q, rfl⟩
  · cases h
/-- x.append(e) -/
def gApp (i : Nat) (f : F) : G := fun ρ => match slotList ρ i with
  | none => .stuck
  | some _ => (f ρ).sr fun d ρ1 => match slotList ρ1 i with
    | some ds => if ds.length < sizeLine then (match slotPut ρ1 i (ds ++ [d]) with
        | some ρ2 => .nx ρ2
        | none => .stuck) else .stuck
    | none => .stuck
theorem Rep.listOf {B : Base} {O : Av} {ρ : En} {σ : Sl} {H : Hp} {i : Nat} {ds : List D} {K : PySem.W.Frag} {mg : Str → Option Value} (R : Rep K mg B O ρ σ H) (h : slotList ρ i = some ds) :
    ∃ a vs, σ[i]? = some (some (.ref a)) ∧ O a ∧ H a = some (.lst vs) ∧ RpL K mg H O vs ds := by
  obtain ⟨s, h1, h2⟩ := slotList_at h
  obtain ⟨a, vs, e1, e2, e3, e4, _⟩ := R.listAt h1 h2
  exact ⟨a, vs, e1, e2, e3, e4⟩
theorem Rep.putL {B : Base} {O : Av} {ρ ρ' : En} {σ : Sl} {H : Hp} {i : Nat} {a : Addr} {vs : List V} {ds : List D} {K : PySem.W.Frag} {mg : Str → Option Value} (R : Rep K mg B O ρ σ H) (h : slotPut ρ i ds = some ρ') (hs : σ[i]? = some (some (.ref a))) (r : RpL K mg H O vs ds) :
    Go K mg B O σ ρ H ρ' (upd H a (.lst vs)) ∧ Kp H O (upd H a (.lst vs)) O := by
  obtain ⟨s, s', h1, h2, rfl⟩ := slotPut_at h
  exact R.writeL h1 hs (by
    cases s with
    | dat d => cases h2
    | exc c fs => cases h2
    | own xs => rfl
    | par k c => rfl) h2 r
theorem ds_app {i : Nat} {x : Str} {p1 apos cpos : Pos} (he : DE X W e f) (hN : X.N[i]? = some x := by rfl) (hv : Vis X.env.scope x := by first | exact Or.inl rfl | exact Or.inr (Or.inl rfl) | exact Or.inr (Or.inr rfl)) (hd : (x == ("__debug__" : Str)) = false := by decide)
    (hcd : (x == ("__classdict__" : Str)) = false := by decide) (hbase : attributeBase (.Name x p1) "append" X.env (eval (.Name x p1) X.env) = eval (.Name x p1) X.env := by rfl)
    (hfew : ((backTo cpos (starEach [e] X.env)).all (fun x => !x.1) && (backToKw cpos (keywordEach [] X.env)).all (fun x => x.1.isSome)
      && decide (([e] : List Expr).length + ([] : List Keyword).length + (if ([] : List Keyword).isEmpty then 0 else 1) < 30)) = true := by rfl)
    (hline : (apos.endLine == cpos.line) = true := by rfl) (hs : starEach [e] X.env = (false, eval e X.env) :: starEach [] X.env := by rfl) (hplain : (backTo cpos (starEach [] X.env)).any (·.1) = false := by rfl)
    (hsw : swapsWith (.Call (.Attribute (.Name x p1) "append" apos) [e] [] cpos) none pos.line X.env = pure false := by rfl) :
    DS X W (.Expr (.Call (.Attribute (.Name x p1) "append" apos) [e] [] cpos) pos) (gApp i f) := by
  obtain ⟨t, pe, ie⟩ := he
  refine ⟨_, ps_expr (pe_bm PySem.F.plainAttrs_list PySem.F.slot_list_append PySem.F.type_list_append mt_append (pe_var hN hv hd hcd) (pa_cons pe pa_nil hs) hbase hfew hline hs hplain) hsw, fun B ρ σ H O D R p => ?_⟩
  unfold gApp at p
  split at p
  · exact p.elim
  · rename_i ds0 h0
    obtain ⟨a, vs0, e1, _, e3, _⟩ := R.listOf h0
    refine ⟨.ref a, e1, .inl ⟨rfl, _, SqL.of e3⟩, ie B ρ σ H O _ R ((spost_sr R p).mono (fun d ρ1 p y H1 g r => ?_) fun _ _ _ e => e)⟩
    have p := p H1 g
    split at p
    · rename_i ds h
      split at p
      · rename_i hl
        split at p
        · rename_i ρ2 h2
          obtain ⟨a', vs, f1, _, f3, f4⟩ := g.rep.listOf h
          rw [e1] at f1
          cases f1
          refine ⟨a, vs, y, rfl, rfl, f3, f4.1.symm ▸ hl, ?_⟩
          obtain ⟨go, k⟩ := g.rep.putL h2 e1 (f4.app (.cons r .nil))
          exact p σ _ O k go.rep
        · exact p.elim
      · exact p.elim
    · exact p.elim
/-- x[k] = e -/
def gSetIx (i : Nat) (fk f : F) : G := fun ρ => (f ρ).sr fun d ρ1 => match slotList ρ1 i with
  | none => .stuck
  | some _ => (fk ρ1).sr fun k ρ2 => match k, slotList ρ2 i with
    | .int j, some ds => (match ixN ds.length j with
        | some n => (match slotPut ρ2 i (ds.set n d) with
            | some ρ3 => .nx ρ3
            | none => .stuck)
        | none => .stuck)
    | _, _ => .stuck
theorem ds_setix {i : Nat} {x : Str} {p1 tpos : Pos} {k : Expr} {fk : F} (he : DE X W e f) (hk : DE X W k fk) (hN : X.N[i]? = some x := by rfl) (hv : Vis X.env.scope x := by first | exact Or.inl rfl | exact Or.inr (Or.inl rfl) | exact Or.inr (Or.inr rfl)) (hd : (x == ("__debug__" : Str)) = false := by decide)
    (hcd : (x == ("__classdict__" : Str)) = false := by decide)
    (ha : ∀ v, assign (.Subscript (.Name x p1) k tpos) X.env v = (do
      let ov ← holding [v] (eval (.Name x p1) X.env)
      let iv ← holding [v, ov] (eval k X.env)
      standAt tpos
      holding [v, ov, iv] (setItem ov iv v)
      release [v, ov, iv] []) := by intro _; rfl)
    (hs : swapsWithSole [.Subscript (.Name x p1) k tpos] e pos.line X.env = pure false := by rfl) (hw : swappedStores [.Subscript (.Name x p1) k tpos] e X.env = pure none := by rfl)
    (h1 : (assignEach [.Subscript (.Name x p1) k tpos] X.env).map (·.2) = [assign (.Subscript (.Name x p1) k tpos) X.env] := by rfl) :
    DS X W (.Assign [.Subscript (.Name x p1) k tpos] e pos) (gSetIx i fk f) := by
  obtain ⟨t, pe, ie⟩ := he
  obtain ⟨u, pk, ik⟩ := hk
  refine ⟨_, ps_asg pe (pg_sub (pe_var hN hv hd hcd) pk set_list ha) hs hw h1, fun B ρ σ H O D R p => ?_⟩
  unfold gSetIx at p
  refine ie B ρ σ H O _ R ((spost_sr R p).mono (fun d ρ1 p y H1 g r => ?_) fun _ _ _ e => e)
  have p := p H1 g
  split at p
  · exact p.elim
  · rename_i ds0 h0
    obtain ⟨a, vs0, e1, _, e3, _⟩ := g.rep.listOf h0
    refine ⟨.ref a, e1, ik B ρ1 σ H1 O _ g.rep ((spost_sr g.rep p).mono (fun kd ρ2 p z H2 g2 r2 => ?_) fun _ _ _ e => e)⟩
    replace p := p H2 g2
    split at p
    · rename_i j ds h
      split at p
      · rename_i n hn
        split at p
        · rename_i ρ3 h3
          obtain ⟨a', vs, f1, _, f3, f4⟩ := g2.rep.listOf h
          rw [e1] at f1
          cases f1
          cases r2
          refine ⟨a, vs, j, n, rfl, rfl, f3, f4.1.symm ▸ hn, ?_⟩
          obtain ⟨go, kp⟩ := g2.rep.putL h3 e1 (f4.set n (r.kp (g2.kp g.rep)))
          exact p σ _ O kp go.rep
        · exact p.elim
      · exact p.elim
    · exact p.elim
/-- x[k], x a list of one's own -/
def fIxO (i : Nat) (fk : F) : F := fun ρ => match slotList ρ i with
  | none => .stuck
  | some _ => (fk ρ).bind fun k ρ1 => match k, slotList ρ1 i with
    | .int j, some ds => R.of (atI ds j) ρ1
    | _, _ => .stuck
theorem atI_rp {K : PySem.W.Frag} {mg : Str → Option Value} {H : Hp} {O : Av} {vs : List V} {ds : List D} {j : Int} {d : D} (r : RpL K mg H O vs ds) (h : atI ds j = some d) : ∃ v, atI vs j = some v ∧ Rp K mg H O v d := by
  unfold atI at h ⊢
  rw [r.1]
  cases q : ixN ds.length j with
  | none => rw [q] at h; cases h
  | some n =>
    rw [q] at h
    exact r.get h
theorem de_ixo {i : Nat} {x : Str} {p1 : Pos} {k : Expr} {fk : F} (hk : DE X W k fk) (hN : X.N[i]? = some x := by rfl) (hv : Vis X.env.scope x := by first | exact Or.inl rfl | exact Or.inr (Or.inl rfl) | exact Or.inr (Or.inr rfl)) (hd : (x == ("__debug__" : Str)) = false := by decide)
    (hcd : (x == ("__classdict__" : Str)) = false := by decide) (hs : PlainIx k := by exact fun _ _ => rfl) : DE X W (.Subscript (.Name x p1) k pos) (fIxO i fk) := by
  obtain ⟨u, pk, ik⟩ := hk
  refine ⟨_, pe_ix ix_list (pe_var hN hv hd hcd) pk hs, fun B ρ σ H O Q R p => ?_⟩
  unfold fIxO at p
  split at p
  · exact p.elim
  · rename_i ds0 h0
    obtain ⟨a, vs0, e1, _, e3, _⟩ := R.listOf h0
    rw [rpost_bind] at p
    refine ⟨.ref a, e1, ik B ρ σ H O _ R (p.mono (fun kd ρ1 p z H1 g r => ?_) fun _ _ _ e => e)⟩
    split at p
    · rename_i j ds h
      obtain ⟨d, hd, p⟩ := rpost_of p
      obtain ⟨a', vs, f1, _, f3, f4⟩ := g.rep.listOf h
      rw [e1] at f1
      cases f1
      cases r
      obtain ⟨v, hv, rv⟩ := atI_rp f4 hd
      exact ⟨a, vs, j, v, rfl, rfl, SqL.of f3, hv, p v H1 g rv⟩
    · exact p.elim
/-- len(x), x a list of one's own -/
def fLenO (i : Nat) : F := fun ρ => match slotList ρ i with
  | some ds => .ok (.int ds.length) ρ
  | none => .stuck
theorem de_leno {i : Nat} {x : Str} {p1 p' : Pos} (hg : Gl X "len") (hm : X.mg "len" = none) (hN : X.N[i]? = some x := by rfl) (hv : Vis X.env.scope x := by first | exact Or.inl rfl | exact Or.inr (Or.inl rfl) | exact Or.inr (Or.inr rfl)) (hd : (x == ("__debug__" : Str)) = false := by decide)
    (hcd : (x == ("__classdict__" : Str)) = false := by decide) (he : starEach [.Name x p1] X.env = (false, eval (.Name x p1) X.env) :: starEach [] X.env := by rfl) (hpl : (backTo pos (starEach [] X.env)).any (·.1) = false := by rfl) :
    DE X W (.Call (.Name "len" p') [.Name x p1] [] pos) (fLenO i) := by
  refine ⟨_, pe_callB call_len_seq hg hm PySem.boot_len (pa_cons (pe_var hN hv hd hcd) pa_nil he) (by decide) (by decide) he hpl, fun B ρ σ H O Q R p => ?_⟩
  unfold fLenO at p
  split at p
  · rename_i ds h
    obtain ⟨a, vs, e1, _, e3, e4⟩ := R.listOf h
    refine ⟨.ref a, e1, a, vs, rfl, .inl (SqL.of e3), ?_⟩
    have q := p (.int vs.length) H (Go.refl R) (by rw [e4.1]; exact .int _)
    exact q
  · exact p.elim
/-- return of a new list -/
def gRetn (f : FL) : G := fun ρ => (f ρ).sr fun ds ρ1 => .rtn ds ρ1
theorem ds_retn (he : DN X W e fl) : DS X W (.Return (some e) pos) (gRetn fl) := by
  obtain ⟨t, pe, i⟩ := he
  refine ⟨_, ps_ret pe, fun B ρ σ H O D R p => ?_⟩
  exact i B ρ σ H O _ R ((spost_sr R p).mono (fun ds ρ1 p vs q H1 g hq r => p H1 g vs q σ H1 O .refl g.rep hq r) fun _ _ _ e => e)
end
end DL

set_option Elab.async false
set_option linter.all false
set_option maxRecDepth 100000
/-! DL4: walks, for, while, comprehensions. -/
namespace DL
open PySem PySem.Spec PyProof.Rows L2

/-- the walk J gives the data ds, one after another, while what stood at its start goes on -/
def WalkD (K : PySem.W.Frag) (mg : Str → Option Value) (J : It) (ds : List D) (H1 : Hp) (O1 : Av) : Prop := ∀ H O, Kp H1 O1 H O → (∀ z, O z → H z ≠ none) →
  (∀ i d, ds[i]? = some d → J.go i H ∧ ∀ x H', J.yld i H x H' → Same H H' ∧ Rp K mg H' O x d) ∧ J.stop ds.length H
def DI (X : Cx) (W : Wi) (tg iter : Expr) (f : FL) : Prop := ∃ wi : TI, PI X tg iter wi ∧ ∀ (B : W.BB) (ρ : En) (σ : Sl) (H : Hp) (O : Av) (R' : It → Hp → Prop), Rep X.K X.mg B.1 O ρ σ H →
  RPost (f ρ) (fun ds ρ' => ∀ J H1, Go X.K X.mg B.1 O σ ρ H ρ' H1 → WalkD X.K X.mg J ds H1 O → R' J H1) (ErE X B.1 W O σ ρ H) → wi σ H R'
section
variable {X : Cx} {W : Wi} {tg iter e : Expr} {es : List Expr} {f : F} {fl : FL} {pos : Pos}
theorem pi_alt {w1 w2 : TI} (h1 : PI X tg iter w1) (h2 : PI X tg iter w2) : PI X tg iter (fun σ H R => w1 σ H R ∨ w2 σ H R) := ⟨fun pins s σ H R I h => h.elim (h1.run pins s σ H R I) (h2.run pins s σ H R I)⟩
/-- the signs of a text, each a text -/
def signs (x : Str) : List D := x.cps.toList.map fun c => .str ⟨#[c]⟩
def items : D → Option (List D)
  | .lst ds => some ds
  | .slst ds => some ds
  | .tup ds => some ds
  | .str x => some (signs x)
  | _ => none
def fIt (f : F) : FL := fun ρ => (f ρ).bind fun d ρ1 => R.of (items d) ρ1
theorem di_in (he : DE X W e f) : DI X W tg e (fIt f) := by
  obtain ⟨t, pe, ie⟩ := he
  refine ⟨_, pi_alt (pi_alt (pi_list pe) (pi_tup pe)) (pi_str pe), fun B ρ σ H O R' R p => ?_⟩
  unfold fIt at p
  rw [rpost_bind] at p
  have key : ∀ {α : Type}, True := trivial
  cases q : f ρ with
  | stuck => rw [q] at p; exact p.elim
  | err c fs ρ' =>
    rw [q] at p
    refine .inl (.inl (ie B ρ σ H O _ R ?_))
    rw [q]
    exact p
  | ok d ρ1 =>
    rw [q] at p
    obtain ⟨ds, hd, p⟩ := rpost_of p
    cases d with
    | lst xs =>
      cases hd
      refine .inl (.inl (ie B ρ σ H O _ R ?_))
      rw [q]
      intro v H1 g r
      cases r with
      | lst h o n el =>
        refine ⟨_, rfl, ⟨_, SqL.of h⟩, p _ H1 g fun H2 O2 k l => ⟨fun i d hi => ?_, _, SqL.of (k _ _ h o).1, Nat.le_of_eq n⟩⟩
        obtain ⟨v, hv, rv⟩ := RpL.get ⟨n, el⟩ hi
        exact ⟨⟨_, v, SqL.of (k _ _ h o).1, hv⟩, fun x H' y => by
          obtain ⟨rfl, y⟩ := y
          have e := (y _ (SqL.of (k _ _ h o).1)).symm.trans hv
          cases e
          exact ⟨Same.refl _, rv.kp k⟩⟩
    | slst xs =>
      cases hd
      refine .inl (.inl (ie B ρ σ H O _ R ?_))
      rw [q]
      intro v H1 g r
      cases r with
      | slst h n el =>
        refine ⟨_, rfl, ⟨_, h.sq⟩, p _ H1 g fun H2 O2 k l => ⟨fun i d hi => ?_, _, (h.kp k).sq, Nat.le_of_eq n⟩⟩
        obtain ⟨v, hv, rv⟩ := RpL.get ⟨n, el⟩ hi
        exact ⟨⟨_, v, (h.kp k).sq, hv⟩, fun x H' y => by
          obtain ⟨rfl, y⟩ := y
          have e := (y _ (h.kp k).sq).symm.trans hv
          cases e
          exact ⟨Same.refl _, rv.kp k⟩⟩
    | tup xs =>
      cases hd
      refine .inl (.inr (ie B ρ σ H O _ R ?_))
      rw [q]
      intro v H1 g r
      cases r with
      | tup h n el =>
        refine ⟨_, rfl, ⟨_, h.sq⟩, p _ H1 g fun H2 O2 k l => ⟨fun i d hi => ?_, _, (h.kp k).sq, Nat.le_of_eq n⟩⟩
        obtain ⟨v, hv, rv⟩ := RpL.get ⟨n, el⟩ hi
        exact ⟨⟨_, v, (h.kp k).sq, hv⟩, fun x H' y => by
          obtain ⟨rfl, y⟩ := y
          have e := (y _ (h.kp k).sq).symm.trans hv
          cases e
          exact ⟨Same.refl _, rv.kp k⟩⟩
    | str x =>
      cases hd
      refine .inr (ie B ρ σ H O _ R ?_)
      rw [q]
      intro v H1 g r
      cases r with
      | str s =>
        refine ⟨x, rfl, p _ H1 g fun H2 O2 k l => ⟨fun i d hi => ?_, by
          show x.cps.size ≤ (signs x).length
          rw [signs, List.length_map, Array.length_toList]
          exact Nat.le_refl _⟩⟩
        rw [signs, List.getElem?_map] at hi
        cases hc : x.cps.toList[i]? with
        | none => rw [hc] at hi; cases hi
        | some c =>
          rw [hc] at hi
          cases hi
          rw [Array.getElem?_toList] at hc
          refine ⟨(Array.getElem?_eq_some_iff.mp hc).1, fun x' H' y => ?_⟩
          obtain ⟨rfl, c', e1, rfl⟩ := y
          rw [hc] at e1
          cases e1
          exact ⟨Same.refl _, .str _⟩
    | _ => cases hd
def intsL (lo : Int) (n : Nat) : List D := (List.range n).map fun i => .int (lo + (i : Nat))
theorem walk_ints {K : PySem.W.Frag} {mg : Str → Option Value} {lo : Int} {n : Nat} {H1 : Hp} {O1 : Av} : WalkD K mg (Itr lo n) (intsL lo n) H1 O1 := fun H O k l => ⟨fun i d hi => by
  rw [intsL, List.getElem?_map] at hi
  by_cases h : i < n
  · rw [List.getElem?_range h] at hi
    cases hi
    refine ⟨h, fun x H' y => ?_⟩
    obtain ⟨rfl, rfl⟩ := y
    exact ⟨Same.refl _, .int _⟩
  · rw [List.getElem?_eq_none (by rw [List.length_range]; omega)] at hi
    exact (nomatch hi), by
  show n ≤ (intsL lo n).length
  rw [intsL, List.length_map, List.length_range]
  exact Nat.le_refl _⟩
def fRange1 (f : FL) : FL := fun ρ => (f ρ).bind fun ds ρ1 => match ds with
  | [.int j] => if -(2 ^ 62) ≤ j ∧ j < 2 ^ 62 then .ok (intsL 0 j.toNat) ρ1 else .stuck
  | _ => .stuck
def fRange2 (f : FL) : FL := fun ρ => (f ρ).bind fun ds ρ1 => match ds with
  | [.int i, .int j] => if -(2 ^ 62) ≤ i ∧ i < 2 ^ 62 ∧ -(2 ^ 62) ≤ j ∧ j < 2 ^ 62 then .ok (intsL i (j - i).toNat) ρ1 else .stuck
  | _ => .stuck
theorem RpL.one {K : PySem.W.Frag} {mg : Str → Option Value} {H : Hp} {O : Av} {vs : List V} {d : D} (h : RpL K mg H O vs [d]) : ∃ v, vs = [v] ∧ Rp K mg H O v d := by
  match vs, h with
  | [v], h => exact ⟨v, rfl, h.uncons.1⟩
  | [], h => exact nomatch h.1
  | _ :: _ :: _, h => exact nomatch h.1
theorem RpL.two {K : PySem.W.Frag} {mg : Str → Option Value} {H : Hp} {O : Av} {vs : List V} {d d' : D} (h : RpL K mg H O vs [d, d']) : ∃ v w, vs = [v, w] ∧ Rp K mg H O v d ∧ Rp K mg H O w d' := by
  match vs, h with
  | [v, w], h => exact ⟨v, w, rfl, h.uncons.1, h.uncons.2.uncons.1⟩
  | [], h => exact nomatch h.1
  | [_], h => exact nomatch h.1
  | _ :: _ :: _ :: _, h => exact nomatch h.1
theorem Rp.int_inv {K : PySem.W.Frag} {mg : Str → Option Value} {H : Hp} {O : Av} {v : V} {k : Int} (h : Rp K mg H O v (.int k)) : v = .int k := by
  cases h; rfl
theorem Rp.str_inv {K : PySem.W.Frag} {mg : Str → Option Value} {H : Hp} {O : Av} {v : V} {k : Str} (h : Rp K mg H O v (.str k)) : v = .str k := by
  cases h; rfl
theorem Rp.non_inv {K : PySem.W.Frag} {mg : Str → Option Value} {H : Hp} {O : Av} {v : V} (h : Rp K mg H O v .non) : v = .non := by
  cases h; rfl
theorem di_range1 {a : Expr} {p : Pos} (hg : Gl X "range") (hm : X.mg "range" = none) (ha : DA X W [a] fl) (hs : starEach [a] X.env = [(false, eval a X.env)] := by rfl) : DI X W tg (.Call (.Name "range" p) [a] [] pos) (fRange1 fl) := by
  obtain ⟨t, pa, ia⟩ := ha
  refine ⟨_, pi_range1 hg hm pa hs, fun B ρ σ H O R' R p => ?_⟩
  unfold fRange1 at p
  rw [rpost_bind] at p
  refine ia B ρ σ H O _ R (p.mono (fun ds ρ1 p vs H1 g r => ?_) fun _ _ _ e => e)
  split at p
  · rename_i j
    split at p
    · rename_i hj
      obtain ⟨v, rfl, r1⟩ := r.one
      cases r1.int_inv
      exact ⟨j, rfl, hj.1, hj.2, p _ H1 g walk_ints⟩
    · exact p.elim
  · exact p.elim
theorem di_range2 {a b : Expr} {p : Pos} (hg : Gl X "range") (hm : X.mg "range" = none) (ha : DA X W [a, b] fl) (hs : starEach [a, b] X.env = [(false, eval a X.env), (false, eval b X.env)] := by rfl) (hs2 : starEach [b] X.env = [(false, eval b X.env)] := by rfl) : DI X W tg (.Call (.Name "range" p) [a, b] [] pos) (fRange2 fl) := by
  obtain ⟨t, pa, ia⟩ := ha
  refine ⟨_, pi_range2 hg hm pa hs hs2, fun B ρ σ H O R' R p => ?_⟩
  unfold fRange2 at p
  rw [rpost_bind] at p
  refine ia B ρ σ H O _ R (p.mono (fun ds ρ1 p vs H1 g r => ?_) fun _ _ _ e => e)
  split at p
  · rename_i i j
    split at p
    · rename_i hj
      obtain ⟨v, w, rfl, r1, r2⟩ := r.two
      cases r1.int_inv
      cases r2.int_inv
      exact ⟨i, j, rfl, hj, p _ H1 g walk_ints⟩
    · exact p.elim
  · exact p.elim

/-! ### for -/
def forL (t : D → En → Option En) (body : G) : List D → G
  | [], ρ => .nx ρ
  | d :: ds, ρ => match t d ρ with
    | none => .stuck
    | some ρ1 => match body ρ1 with
      | .nx ρ2 => forL t body ds ρ2
      | .ct ρ2 => forL t body ds ρ2
      | .bk ρ2 => .nx ρ2
      | .rt d ρ2 => .rt d ρ2
      | .rtn ds ρ2 => .rtn ds ρ2
      | .err c fs ρ2 => .err c fs ρ2
      | .stuck => .stuck
def gFor (it : FL) (t : D → En → Option En) (body : G) : G := fun ρ => (it ρ).sr fun ds ρ1 => forL t body ds ρ1
theorem ds_for {body : List Stmt} {ts : List Nat} {t : D → En → Option En} {g : G} (hp : PassesOwn (model X.prog X.w) X.A X.env X.xe) (hc : X.calm = true) (hi : DI X W tg iter fl) (hg : DG X tg ts t) (hb : DSs X W body g)
    (hs : ∀ x, foldedSetIterable iter X.env x = pure x := by intro _; rfl) : DS X W (.For tg iter body [] pos) (gFor fl t g) := by
  obtain ⟨wi, pi, ii⟩ := hi
  obtain ⟨tt, pt, it⟩ := hg
  obtain ⟨tb, pb, ib⟩ := hb
  refine ⟨_, ps_for hp hc pi pt pb hs, fun B ρ σ H O D R p => ?_⟩
  refine ii B ρ σ H O _ R ((spost_sr R p).mono (fun ds ρ1 p J H1 g1 wk => ?_) fun _ _ _ e => e)
  have p := p H1 g1
  let Wv : Nat → Nat → Sl → Hp → Prop := fun i m σ' H' => m + i = ds.length ∧ ∃ ρ' O', Kp H1 O H' O' ∧ Rep X.K X.mg B.1 O' ρ' σ' H' ∧ SPost X B.1 W D H' O' (forL t g (ds.drop i) ρ')
  refine ⟨Wv, ⟨ds.length, rfl, ρ1, O, .refl, g1.rep, p⟩, fun i m σ2 H2 hW => ?_⟩
  obtain ⟨hm, ρ2, O2, k2, R2, p2⟩ := hW
  obtain ⟨hgo, hstop⟩ := wk H2 O2 k2 R2.live
  by_cases hi : i < ds.length
  · have hd : ds[i]? = some ds[i] := List.getElem?_eq_getElem hi
    obtain ⟨go, yl⟩ := hgo i _ hd
    rw [List.drop_eq_getElem_cons hi] at p2
    unfold forL at p2
    split at p2
    · exact p2.elim
    · rename_i ρ3 h3
      refine .inr ⟨go, Wv (i + 1) (m - 1), fun σ' H' hN => ⟨m - 1, by omega, hN⟩, fun x H3 hy => ?_⟩
      obtain ⟨s3, r3⟩ := yl x H3 hy
      refine it B.1 ρ2 ρ3 σ2 H3 O2 x ds[i] _ (R2.same s3) r3 h3 fun σ4 H4 s4 R4 _ => ?_
      refine ib B ρ3 σ4 H4 O2 _ R4 ?_
      have k4 : Kp H2 O2 H4 O2 := (Same.kp s3).trans (Same.kp s4)
      split at p2
      · rename_i ρ5 h5
        rw [h5]
        exact fun σ' H' O' k' R' => ⟨by omega, ρ5, O', k2.trans (k4.trans k'), R', SPost.on (k4.trans k') p2⟩
      · rename_i ρ5 h5
        rw [h5]
        exact fun σ' H' O' k' R' => ⟨by omega, ρ5, O', k2.trans (k4.trans k'), R', SPost.on (k4.trans k') p2⟩
      · rename_i ρ5 h5
        rw [h5]
        exact fun σ' H' O' k' R' => p2 σ' H' O' (k4.trans k') R'
      · rename_i d ρ5 h5
        rw [h5]
        exact fun v σ' H' O' k' R' => p2 v σ' H' O' (k4.trans k') R'
      · rename_i d ρ5 h5
        rw [h5]
        exact fun vs q σ' H' O' k' R' => p2 vs q σ' H' O' (k4.trans k') R'
      · rename_i c fs ρ5 h5
        rw [h5]
        exact fun C od σ' H' O' k' R' => p2 C od σ' H' O' (k4.trans k') R'
      · exact p2.elim
  · have hi' : i = ds.length := by omega
    subst hi'
    rw [List.drop_length] at p2
    exact .inl ⟨hstop, p2 σ2 H2 O2 .refl R2⟩

/-! ### while: n turns are enough -/
def whileN (c : FB) (body : G) : Nat → G
  | 0, _ => .stuck
  | n + 1, ρ => (c ρ).sr fun k ρ1 => if k = true then (match body ρ1 with
      | .nx ρ2 => whileN c body n ρ2
      | .ct ρ2 => whileN c body n ρ2
      | .bk ρ2 => .nx ρ2
      | .rt d ρ2 => .rt d ρ2
      | .rtn ds ρ2 => .rtn ds ρ2
      | .err c fs ρ2 => .err c fs ρ2
      | .stuck => .stuck) else .nx ρ1
def gWhile (c : FB) (body : G) (n : En → Nat) : G := fun ρ => whileN c body (n ρ) ρ
theorem ds_while {c : Expr} {fc : FB} {body : List Stmt} {g : G} {n : En → Nat} (hp : PassesOwn (model X.prog X.w) X.A X.env X.xe) (hc : DT X W c fc) (hb : DSs X W body g) : DS X W (.While c body [] pos) (gWhile fc g n) := by
  obtain ⟨tc, pc, ic⟩ := hc
  obtain ⟨tb, pb, ib⟩ := hb
  refine ⟨_, ps_while hp pc pb, fun B ρ σ H O D R p => ?_⟩
  let Wv : Nat → Sl → Hp → Prop := fun m σ' H' => ∃ ρ' O', Rep X.K X.mg B.1 O' ρ' σ' H' ∧ SPost X B.1 W D H' O' (whileN fc g m ρ')
  refine ⟨Wv, ⟨n ρ, ρ, O, R, p⟩, fun m σ2 H2 hW => ?_⟩
  obtain ⟨ρ2, O2, R2, p2⟩ := hW
  cases m with
  | zero => exact p2.elim
  | succ m =>
    refine ic B ρ2 σ2 H2 O2 _ R2 ((spost_sr R2 (by rw [whileN] at p2; exact p2)).mono (fun k ρ3 p3 H3 g3 => ?_) fun _ _ _ e => e)
    have p3 := p3 H3 g3
    cases k with
    | false =>
      rw [if_neg Bool.false_ne_true] at p3 ⊢
      exact p3 σ2 H3 O2 .refl g3.rep
    | true =>
      rw [if_pos rfl] at p3 ⊢
      refine ⟨Wv m, fun σ' H' hN => ⟨m, Nat.lt_succ_self m, hN⟩, ib B ρ3 σ2 H3 O2 _ g3.rep ?_⟩
      split at p3
      · rename_i ρ5 h5
        rw [h5]
        exact fun σ' H' O' k' R' => ⟨ρ5, O', R', SPost.on k' p3⟩
      · rename_i ρ5 h5
        rw [h5]
        exact fun σ' H' O' k' R' => ⟨ρ5, O', R', SPost.on k' p3⟩
      · rename_i ρ5 h5
        rw [h5]
        exact p3
      · rename_i d ρ5 h5
        rw [h5]
        exact p3
      · rename_i d ρ5 h5
        rw [h5]
        exact p3
      · rename_i c fs ρ5 h5
        rw [h5]
        exact p3
      · exact p3.elim
end
end DL

set_option Elab.async false
set_option linter.all false
set_option maxRecDepth 100000
/-! DL5: walks that hand out tuples: enumerate, zip of two and of three, over lists and tuples alike. -/
namespace DL
open PySem PySem.Spec PyProof.Rows L2

/-- a walk that gives a new tuple at each turn, its rows told by what stands in the heap -/
def ItR (Src : Hp → List (List V) → Prop) : It :=
  ⟨fun i H => ∃ rows r, Src H rows ∧ rows[i]? = some r,
   fun i H v H' => ∃ T r, v = .ref T ∧ H T = none ∧ H' = upd H T (.tup r) ∧ ∀ rows, Src H rows → rows[i]? = some r,
   fun i H => ∃ rows, Src H rows ∧ rows.length = i⟩
theorem turn_rows {P : Program} {w : World} {K : PySem.W.Frag} {elts : List Expr} {kk : Nat} {tpos : Pos} (Src : Hp → List (List V) → Prop) (e : Addr) (wr fp : List Addr) (tn : Nat → Heap → Prop) (me : e ∈ fp) (sub : ∀ b, b ∈ wr → b ∈ fp)
    (obj : ∀ i h, tn i h → ∀ b, b ∈ fp → ∃ o, h.get? b = some o ∧ ∀ v, o.data ≠ .cell v)
    (keep : ∀ i h h', tn i h → (∀ b, b ∈ fp → ∀ o, h.get? b = some o → h'.get? b = some o) → tn i h')
    (self : ∀ (A : Around) (i : Nat) (s : Shared) (Q : Value → Shared → Prop) (E : Value → Shared → Prop), tn i s.heap → Q (.ref e) s → wpAny (model P w) A (pyIter (.ref e)) Q E s)
    (src : ∀ (X : Cx), X.prog = P → X.w = w → X.K = K → X.calm = true → ∀ (i : Nat) (pins : List (Addr × Obj)) (s : Shared) (σ : Sl) (H : Hp), Inv X pins σ H s → tn i s.heap → (∀ b, b ∈ fp → H b = none) → ∀ rows, Src H rows →
      (∀ rows', Src H rows' → rows' = rows) ∧
      ∃ f2 Pt St Mid, WalksT P w X.A e f2 wr rows.length Pt St Mid ∧ St i s.heap ∧ (∀ j h, St j h → (∀ b, b ∈ fp → b ∉ wr → s.heap.get? b = h.get? b) → tn j h) ∧
        ∀ j vals, Pt j vals → ∃ r, rows[j]? = some r ∧ r.length ≤ 3 ∧ Vals r vals.toList) :
    Turn P w K (.Tuple elts kk tpos) (ItR Src) fp e tn where
  mem := me
  obj := obj
  keep := keep
  item := by
    intro X hP hw hK hc i pins s σ H E I hf st hg
    obtain ⟨rows, r, hs, hr⟩ := hg
    have lt : i < rows.length := (List.getElem?_eq_some_iff.mp hr).1
    obtain ⟨uq, f2, Pt, St, Mid, WT, s0, back, pt⟩ := src X hP hw hK hc i pins s σ H I st (fun b hb => (hf b hb).1) rows hs
    subst hP hw hK
    refine WT.item i s _ E lt s0 fun T vals h' tk hp hT tup mid k1 => ?_
    refine ⟨_, rfl, WT.go elts kk tpos i T _ _ E mid fun h2 s2 k2 => ?_⟩
    obtain ⟨r', hr', hl, rv⟩ := pt i vals hp
    rw [hr] at hr'
    cases hr'
    have nT : T ∉ wr := WT.apart i T h' mid
    obtain ⟨oT, e1, e2, n, e3⟩ := tup
    have new : ObjOk X.prog X.w (upd H T (.tup r)) h2 T (.tup r) :=
      ⟨Nat.le_trans hl (by decide), vals.toList, rv, oT, k2 T oT nT e1, e2, n, by simpa using e3⟩
    have kk2 : ∀ b ob, b ∉ wr → s.heap.get? b = some ob → h2.get? b = some ob := fun b ob nb q => k2 b ob nb (k1 b ob nb q)
    have I1 : Inv X pins σ (upd H T (.tup r)) { s with heap := h2, toks := tk } := I.turnedNew kk2 (fun b hb => hf b (sub b hb)) hT new
    refine ⟨.ref T, _, I1, rfl, ⟨T, r, rfl, I.hok.fresh hT, rfl, fun rows' h => by rw [uq rows' h]; exact hr⟩, back (i + 1) h2 s2 fun b hb nb => ?_, fun b hb => ?_⟩
    · obtain ⟨ob, q, _⟩ := obj i s.heap st b hb
      rw [q]
      exact (kk2 b ob nb q).symm
    · obtain ⟨ob, q, _⟩ := obj i s.heap st b hb
      have hlt : b < s.heap.objs.size := Heap.lt_size q
      rw [upd_ne (Nat.ne_of_lt (Nat.lt_of_lt_of_le hlt hT))]
      exact (hf b hb).1
  done := by
    intro X hP hw hK hc i pins s σ H E I hf st hg
    obtain ⟨rows, hs, hr⟩ := hg
    obtain ⟨uq, f2, Pt, St, Mid, WT, s0, back, pt⟩ := src X hP hw hK hc i pins s σ H I st (fun b hb => (hf b hb).1) rows hs
    subst hP hw hK
    subst hr
    exact WT.done s _ E s0 fun h' tk k1 => ⟨rfl, I.turnedL k1 fun b hb => hf b (sub b hb)⟩
  self := self
/-- what may be walked beside others: a list or a tuple -/
def Seq (K : PySem.W.Frag) (H : Hp) (a : Addr) (vs : List V) : Prop := SqL K H a vs ∨ SqT K H a vs
/-- an iterator over a list, or over a tuple -/
def SIt (h : Heap) (it a : Addr) (i : Nat) : Prop := h.IsListIter it a i ∨ h.IsTupleIter it a i
def RelIt (l : Bool) (h : Heap) (it a : Addr) (i : Nat) : Prop := match l with
  | true => h.IsListIter it a i
  | false => h.IsTupleIter it a i
def RelSq (l : Bool) (K : PySem.W.Frag) (H : Hp) (a : Addr) (vs : List V) : Prop := match l with
  | true => SqL K H a vs
  | false => SqT K H a vs
def RelIs (l : Bool) (h : Heap) (a : Addr) (its : Array Value) : Prop := match l with
  | true => h.IsList a its
  | false => h.IsTuple a its
def relO (l : Bool) (a : Addr) : Obj := match l with
  | true => { cls := .type "list_iterator", data := .fields #[.ref a, .int 0 0] }
  | false => { cls := .type "tuple_iterator", data := .fields #[.ref a, .int 0 0] }
section
variable {X : Cx} {pins : List (Addr × Obj)} {σ : Sl} {H : Hp} {s : Shared} {a it : Addr} {vs ws : List V} {l : Bool} {h h' : Heap} {i : Nat}
theorem rel_items (I : Inv X pins σ H s) (q : RelSq l X.K H a vs) : ∃ its : List Value, Vals vs its ∧ RelIs l s.heap a its.toArray ∧ vs.length ≤ sizeLine := by
  cases l with
  | true => obtain ⟨its, r, p, z⟩ := I.list q; exact ⟨its, r, p.isList, z⟩
  | false => obtain ⟨its, r, p, z⟩ := I.tuple q; exact ⟨its, r, p, z⟩
theorem rel_inj (I : Inv X pins σ H s) (q : RelSq l X.K H a vs) (q' : RelSq l X.K H a ws) : vs = ws := by
  cases l with
  | true => exact I.list_inj q q'
  | false => exact I.tuple_inj q q'
theorem rel_draws {prog : Program} {w : World} {A : Around} (hh : A.handled = none) (ne : a ≠ it) (its : Array Value) :
    Draws prog w A it [it, a] its.size (fun i v => its[i]? = some v) (fun i h => RelIt l h it a i ∧ RelIs l h a its) := by
  cases l with
  | true => exact Draws.list hh it a ne its
  | false => exact Draws.tuple hh it a ne its
theorem rel_begins (its : Array Value) : Begins (.ref a) (relO l a) fun h => RelIs l h a its := by
  cases l with
  | true => exact begins_list a its
  | false => exact begins_tuple a its
theorem rel_start (e : h.get? it = some (relO l a)) : RelIt l h it a 0 := by
  cases l with
  | true => exact ⟨_, e, rfl, rfl⟩
  | false => exact ⟨_, e, rfl, rfl⟩
theorem rel_obj (r : RelIt l h it a i) : ∃ o, h.get? it = some o ∧ ∀ v, o.data ≠ .cell v := by
  cases l with
  | true => obtain ⟨o, e, _, d⟩ := r; exact ⟨o, e, fun v z => by rw [d] at z; cases z⟩
  | false => obtain ⟨o, e, _, d⟩ := r; exact ⟨o, e, fun v z => by rw [d] at z; cases z⟩
theorem rel_at (r : RelIt l h it a i) (k : ∀ o, h.get? it = some o → h'.get? it = some o) : RelIt l h' it a i := by
  cases l with
  | true => exact Heap.IsListIter.at r k
  | false => exact Heap.IsTupleIter.at r k
theorem rel_isAt {its : Array Value} (r : RelIs l h a its) : ∃ o, h.get? a = some o := by
  cases l with
  | true => obtain ⟨o, e, _⟩ := r; exact ⟨o, e⟩
  | false => obtain ⟨o, e, _⟩ := r; exact ⟨o, e⟩
/-- a tracked or written sequence is no iterator's own thing -/
theorem rel_ne (I : Inv X pins σ H s) (q : RelSq l X.K H a vs) (r : RelIt (l := m) s.heap it b i) : a ≠ it := by
  intro e
  subst e
  obtain ⟨its, _, p, _⟩ := rel_items I q
  cases l with
  | true =>
    obtain ⟨o, e1, c1, _⟩ := p
    cases m with
    | true => obtain ⟨o', e2, c2, _⟩ := r; rw [e1] at e2; cases e2; rw [c1] at c2; exact absurd c2 (by decide)
    | false => obtain ⟨o', e2, c2, _⟩ := r; rw [e1] at e2; cases e2; rw [c1] at c2; exact absurd c2 (by decide)
  | false =>
    obtain ⟨o, e1, c1, _⟩ := p
    cases m with
    | true => obtain ⟨o', e2, c2, _⟩ := r; rw [e1] at e2; cases e2; rw [c1] at c2; exact absurd c2 (by decide)
    | false => obtain ⟨o', e2, c2, _⟩ := r; rw [e1] at e2; cases e2; rw [c1] at c2; exact absurd c2 (by decide)
end
/-! ### zip of two -/
def SrcZ2 (K : PySem.W.Frag) (l1 l2 : Bool) (a b : Addr) : Hp → List (List V) → Prop := fun H rows => ∃ xs ys, RelSq l1 K H a xs ∧ RelSq l2 K H b ys ∧ rows = List.zipWith (fun x y => [x, y]) xs ys
theorem turn_z2 {P : Program} {w : World} {K : PySem.W.Frag} {elts : List Expr} {kk : Nat} {tpos : Pos} {l1 l2 : Bool} {a b z TI TO i1 i2 : Addr} (S : ZipSep2 z TI TO i1 i2 [i1, a] [i2, b]) (na : a ≠ i1) (nb : b ≠ i2) :
    Turn P w K (.Tuple elts kk tpos) (ItR (SrcZ2 K l1 l2 a b)) [z, TI, TO, i1, i2] z
      (fun i h => IsZip h z TI TO .none ∧ IsTupOf2 h TI (.ref i1) (.ref i2) ∧ (∃ p q, IsTupOf2 h TO p q) ∧ RelIt l1 h i1 a i ∧ RelIt l2 h i2 b i) := by
  refine turn_rows (SrcZ2 K l1 l2 a b) z [z, TO, i1, i2] [z, TI, TO, i1, i2] _ (by simp) (fun c hc => ?_) (fun i h st c hc => ?_) (fun i h h' st k => ?_) (fun A i s Q E st h => ?_) (fun X hP hw hK hc i pins s σ H I st hn rows hs => ?_)
  · simp only [List.mem_cons, List.mem_nil_iff, or_false] at hc ⊢
    rcases hc with c1 | c1 | c1 | c1 <;> simp [c1]
  · obtain ⟨hz, ht, ⟨p, q, ho⟩, r1, r2⟩ := st
    simp only [List.mem_cons, List.mem_nil_iff, or_false] at hc
    rcases hc with rfl | rfl | rfl | rfl | rfl
    · exact ⟨_, hz, fun v y => nomatch y⟩
    · exact ⟨_, ht, fun v y => nomatch y⟩
    · exact ⟨_, ho, fun v y => nomatch y⟩
    · exact rel_obj r1
    · exact rel_obj r2
  · obtain ⟨hz, ht, ⟨p, q, ho⟩, r1, r2⟩ := st
    exact ⟨k z (by simp) _ hz, k TI (by simp) _ ht, ⟨p, q, k TO (by simp) _ ho⟩, rel_at r1 (k i1 (by simp)), rel_at r2 (k i2 (by simp))⟩
  · exact wpAny_pyIter_zip st.1 h
  · subst hP hw hK
    obtain ⟨xs, ys, q1, q2, rfl⟩ := hs
    obtain ⟨hz, ht, ho, r1, r2⟩ := st
    obtain ⟨us, v1, p1, _⟩ := rel_items I q1
    obtain ⟨ws, v2, p2, _⟩ := rel_items I q2
    have hh := I.ok.hd hc
    have D1 := rel_draws (l := l1) (prog := X.prog) (w := X.w) (A := X.A.in1) (show X.A.in1.handled = none from hh) na us.toArray
    have D2 := rel_draws (l := l2) (prog := X.prog) (w := X.w) (A := X.A.in1) (show X.A.in1.handled = none from hh) nb ws.toArray
    have WT := WalksT.zipD2 S D1 D2
    have hl : min us.toArray.size ws.toArray.size = (List.zipWith (fun x y => [x, y]) xs ys).length := by
      rw [List.length_zipWith, v1.length, v2.length]
      simp
    rw [hl] at WT
    refine ⟨fun rows' h => ?_, _, _, _, _, WT, ⟨hz, ht, ho, ⟨r1, p1⟩, r2, p2⟩, fun j h st _ => ⟨st.1, st.2.1, st.2.2.1, st.2.2.2.1.1, st.2.2.2.2.1⟩, fun j vals pt => ?_⟩
    · obtain ⟨xs', ys', h1, h2, rfl⟩ := h
      rw [rel_inj I h1 q1, rel_inj I h2 q2]
    · obtain ⟨x1, x2, e1, e2, rfl⟩ := pt
      have e1' : us[j]? = some x1 := by simpa using e1
      have e2' : ws[j]? = some x2 := by simpa using e2
      have g1 : ∃ x, xs[j]? = some x ∧ RelV x x1 := by
        cases hx : xs[j]? with
        | none => rw [v1.none_of hx] at e1'; cases e1'
        | some x =>
          obtain ⟨u, h3, h4⟩ := v1.get hx
          rw [e1'] at h3
          cases h3
          exact ⟨x, rfl, h4⟩
      have g2 : ∃ x, ys[j]? = some x ∧ RelV x x2 := by
        cases hx : ys[j]? with
        | none => rw [v2.none_of hx] at e2'; cases e2'
        | some x =>
          obtain ⟨u, h3, h4⟩ := v2.get hx
          rw [e2'] at h3
          cases h3
          exact ⟨x, rfl, h4⟩
      obtain ⟨x, h3, h4⟩ := g1
      obtain ⟨y, h5, h6⟩ := g2
      exact ⟨[x, y], by rw [List.getElem?_zipWith, h3, h5], by simp, .cons h4 (.cons h6 .nil)⟩
def iZ2 (K : PySem.W.Frag) (ta : TA) : TI := fun σ H R => ta σ H fun vs H1 => ∃ (l1 l2 : Bool) (a b : Addr) (xs ys : List V), vs = [.ref a, .ref b] ∧ RelSq l1 K H1 a xs ∧ RelSq l2 K H1 b ys ∧ R (ItR (SrcZ2 K l1 l2 a b)) H1
theorem pi_z2 {X : Cx} {e e2 : Expr} {ta : TA} {p pos tpos : Pos} {elts : List Expr} {kk : Nat} (hg : Gl X "zip") (hm : X.mg "zip" = none) (ha : PA X [e, e2] ta)
    (hs : starEach [e, e2] X.env = (false, eval e X.env) :: starEach [e2] X.env := by rfl) (hpl : (backTo pos (starEach [e2] X.env)).any (·.1) = false := by rfl) :
    PI X (.Tuple elts kk tpos) (.Call (.Name "zip" p) [e, e2] [] pos) (iZ2 X.K ta) := by
  refine ⟨fun pins s σ H R I h => ?_⟩
  refine Call_ (ld_blt I hg hm boot_zip (PyProof.Rows.callWith_type1 (thn (ha.run pos pins s σ H _ I h) fun us s1 hh => ?_) hs hpl))
  obtain ⟨vs, H1, I1, r1, l1, l2, a, b, xs, ys, ex, q1, q2, q⟩ := hh
  subst ex
  obtain ⟨u1, u2, rfl, ru1, ru2⟩ := vals2 r1
  cases ru1
  cases ru2
  obtain ⟨us1, v1, p1, _⟩ := rel_items I1 q1
  obtain ⟨us2, v2, p2, _⟩ := rel_items I1 q2
  refine zip_begins2 (rel_begins (l := l1) us1.toArray) (rel_begins (l := l2) us2.toArray) p1 p2 fun h' hz ht ho g1 g2 hsz hk => wpAny_pyIter_zip hz ?_
  have I2 : Inv X pins σ H1 { s1 with heap := h' } := I1.kept (t' := s1.toks) hk
  obtain ⟨o1, e1⟩ := rel_isAt p1
  obtain ⟨o2, e2⟩ := rel_isAt p2
  have la := Heap.lt_size e1
  have lb := Heap.lt_size e2
  have S := zip_sep2 (N := s1.heap.objs.size) (fp1 := [a]) (fp2 := [b]) (fun c hc => by rw [List.mem_singleton.mp hc]; exact la) (fun c hc => by rw [List.mem_singleton.mp hc]; exact lb)
  refine ⟨s1.heap.objs.size + 4, [s1.heap.objs.size + 4, s1.heap.objs.size + 2, s1.heap.objs.size + 3, s1.heap.objs.size, s1.heap.objs.size + 1], _, _, H1, rfl, I2,
    turn_z2 S (Nat.ne_of_lt la) (Nat.ne_of_lt (Nat.lt_succ_of_lt lb)), ⟨hz, ht, ⟨_, _, ho⟩, rel_start g1, rel_start g2⟩, fun c hc => ?_, q⟩
  have hle : s1.heap.objs.size ≤ c := by
    simp only [List.mem_cons, List.mem_nil_iff, or_false] at hc
    rcases hc with c1 | c1 | c1 | c1 | c1 <;> rw [c1] <;> first | exact Nat.le_refl _ | exact Nat.le_add_right _ _
  exact I1.fpOk hle (I1.hok.fresh hle)
/-! ### zip of three -/
def zip3 : List V → List V → List V → List (List V)
  | x :: xs, y :: ys, u :: us => [x, y, u] :: zip3 xs ys us
  | _, _, _ => []
theorem zip3_len : ∀ xs ys us : List V, (zip3 xs ys us).length = min (min xs.length ys.length) us.length
  | [], ys, us => by simp [zip3]
  | x :: xs, [], us => by simp [zip3]
  | x :: xs, y :: ys, [] => by simp [zip3]
  | x :: xs, y :: ys, u :: us => by
    rw [zip3, List.length_cons, zip3_len xs ys us, List.length_cons, List.length_cons, List.length_cons]
    omega
theorem zip3_get : ∀ {xs ys us : List V} {i : Nat} {x y u : V}, xs[i]? = some x → ys[i]? = some y → us[i]? = some u → (zip3 xs ys us)[i]? = some [x, y, u]
  | a :: xs, b :: ys, c :: us, 0, x, y, u, h1, h2, h3 => by cases h1; cases h2; cases h3; rfl
  | a :: xs, b :: ys, c :: us, i + 1, x, y, u, h1, h2, h3 => zip3_get (xs := xs) (ys := ys) (us := us) (i := i) h1 h2 h3
  | [], _, _, _, _, _, _, h1, _, _ => nomatch h1
  | _ :: _, [], _, _, _, _, _, _, h2, _ => nomatch h2
  | _ :: _, _ :: _, [], _, _, _, _, _, _, h3 => nomatch h3
def SrcZ3 (K : PySem.W.Frag) (l1 l2 l3 : Bool) (a b c : Addr) : Hp → List (List V) → Prop := fun H rows => ∃ xs ys us, RelSq l1 K H a xs ∧ RelSq l2 K H b ys ∧ RelSq l3 K H c us ∧ rows = zip3 xs ys us
theorem vals_back {xs : List V} {us : List Value} {j : Nat} {u : Value} (r : Vals xs us) (e : us[j]? = some u) : ∃ x, xs[j]? = some x ∧ RelV x u := by
  cases hx : xs[j]? with
  | none => rw [r.none_of hx] at e; cases e
  | some x =>
    obtain ⟨u', h3, h4⟩ := r.get hx
    rw [e] at h3
    cases h3
    exact ⟨x, rfl, h4⟩
theorem turn_z3 {P : Program} {w : World} {K : PySem.W.Frag} {elts : List Expr} {kk : Nat} {tpos : Pos} {l1 l2 l3 : Bool} {a b c z TI TO i1 i2 i3 : Addr} (S : ZipSep3 z TI TO i1 i2 i3 [i1, a] [i2, b] [i3, c]) (na : a ≠ i1) (nb : b ≠ i2) (nc : c ≠ i3) :
    Turn P w K (.Tuple elts kk tpos) (ItR (SrcZ3 K l1 l2 l3 a b c)) [z, TI, TO, i1, i2, i3] z
      (fun i h => IsZip h z TI TO .none ∧ IsTupOf3 h TI (.ref i1) (.ref i2) (.ref i3) ∧ (∃ p q r, IsTupOf3 h TO p q r) ∧ RelIt l1 h i1 a i ∧ RelIt l2 h i2 b i ∧ RelIt l3 h i3 c i) := by
  refine turn_rows (SrcZ3 K l1 l2 l3 a b c) z [z, TO, i1, i2, i3] [z, TI, TO, i1, i2, i3] _ (by simp) (fun x hc => ?_) (fun i h st x hc => ?_) (fun i h h' st k => ?_) (fun A i s Q E st h => ?_) (fun X hP hw hK hc i pins s σ H I st hn rows hs => ?_)
  · simp only [List.mem_cons, List.mem_nil_iff, or_false] at hc ⊢
    rcases hc with c1 | c1 | c1 | c1 | c1 <;> simp [c1]
  · obtain ⟨hz, ht, ⟨p, q, r, ho⟩, r1, r2, r3⟩ := st
    simp only [List.mem_cons, List.mem_nil_iff, or_false] at hc
    rcases hc with rfl | rfl | rfl | rfl | rfl | rfl
    · exact ⟨_, hz, fun v y => nomatch y⟩
    · exact ⟨_, ht, fun v y => nomatch y⟩
    · exact ⟨_, ho, fun v y => nomatch y⟩
    · exact rel_obj r1
    · exact rel_obj r2
    · exact rel_obj r3
  · obtain ⟨hz, ht, ⟨p, q, r, ho⟩, r1, r2, r3⟩ := st
    exact ⟨k z (by simp) _ hz, k TI (by simp) _ ht, ⟨p, q, r, k TO (by simp) _ ho⟩, rel_at r1 (k i1 (by simp)), rel_at r2 (k i2 (by simp)), rel_at r3 (k i3 (by simp))⟩
  · exact wpAny_pyIter_zip st.1 h
  · subst hP hw hK
    obtain ⟨xs, ys, us, q1, q2, q3, rfl⟩ := hs
    obtain ⟨hz, ht, ho, r1, r2, r3⟩ := st
    obtain ⟨xv, v1, p1, _⟩ := rel_items I q1
    obtain ⟨yv, v2, p2, _⟩ := rel_items I q2
    obtain ⟨uv, v3, p3, _⟩ := rel_items I q3
    have hh : X.A.in1.handled = none := I.ok.hd hc
    have D1 := rel_draws (l := l1) (prog := X.prog) (w := X.w) (A := X.A.in1) hh na xv.toArray
    have D2 := rel_draws (l := l2) (prog := X.prog) (w := X.w) (A := X.A.in1) hh nb yv.toArray
    have D3 := rel_draws (l := l3) (prog := X.prog) (w := X.w) (A := X.A.in1) hh nc uv.toArray
    have WT := WalksT.zipD3 S D1 D2 D3
    have hl : min (min xv.toArray.size yv.toArray.size) uv.toArray.size = (zip3 xs ys us).length := by
      rw [zip3_len, v1.length, v2.length, v3.length]
      simp
    rw [hl] at WT
    refine ⟨fun rows' h => ?_, _, _, _, _, WT, ⟨hz, ht, ho, ⟨r1, p1⟩, ⟨r2, p2⟩, r3, p3⟩, fun j h st _ => ⟨st.1, st.2.1, st.2.2.1, st.2.2.2.1.1, st.2.2.2.2.1.1, st.2.2.2.2.2.1⟩, fun j vals pt => ?_⟩
    · obtain ⟨xs', ys', us', h1, h2, h3, rfl⟩ := h
      rw [rel_inj I h1 q1, rel_inj I h2 q2, rel_inj I h3 q3]
    · obtain ⟨x1, x2, x3, e1, e2, e3, rfl⟩ := pt
      obtain ⟨x, h3, h4⟩ := vals_back v1 (by simpa using e1)
      obtain ⟨y, h5, h6⟩ := vals_back v2 (by simpa using e2)
      obtain ⟨u, h7, h8⟩ := vals_back v3 (by simpa using e3)
      exact ⟨[x, y, u], zip3_get h3 h5 h7, by simp, .cons h4 (.cons h6 (.cons h8 .nil))⟩
def iZ3 (K : PySem.W.Frag) (ta : TA) : TI := fun σ H R => ta σ H fun vs H1 => ∃ (l1 l2 l3 : Bool) (a b c : Addr) (xs ys us : List V), vs = [.ref a, .ref b, .ref c] ∧ RelSq l1 K H1 a xs ∧ RelSq l2 K H1 b ys ∧ RelSq l3 K H1 c us ∧ R (ItR (SrcZ3 K l1 l2 l3 a b c)) H1
theorem vals3 {x y z : V} {us : List Value} (r : Vals [x, y, z] us) : ∃ u v w', us = [u, v, w'] ∧ RelV x u ∧ RelV y v ∧ RelV z w' := by
  cases r with
  | cons r1 r =>
    cases r with
    | cons r2 r =>
      cases r with
      | cons r3 r =>
        cases r
        exact ⟨_, _, _, rfl, r1, r2, r3⟩
theorem pi_z3 {X : Cx} {e e2 e3 : Expr} {ta : TA} {p pos tpos : Pos} {elts : List Expr} {kk : Nat} (hg : Gl X "zip") (hm : X.mg "zip" = none) (ha : PA X [e, e2, e3] ta)
    (hs : starEach [e, e2, e3] X.env = (false, eval e X.env) :: starEach [e2, e3] X.env := by rfl) (hpl : (backTo pos (starEach [e2, e3] X.env)).any (·.1) = false := by rfl) :
    PI X (.Tuple elts kk tpos) (.Call (.Name "zip" p) [e, e2, e3] [] pos) (iZ3 X.K ta) := by
  refine ⟨fun pins s σ H R I h => ?_⟩
  refine Call_ (ld_blt I hg hm boot_zip (PyProof.Rows.callWith_type1 (thn (ha.run pos pins s σ H _ I h) fun us s1 hh => ?_) hs hpl))
  obtain ⟨vs, H1, I1, r1, l1, l2, l3, a, b, c, xs, ys, us', ex, q1, q2, q3, q⟩ := hh
  subst ex
  obtain ⟨u1, u2, u3, rfl, ru1, ru2, ru3⟩ := vals3 r1
  cases ru1
  cases ru2
  cases ru3
  obtain ⟨us1, v1, p1, _⟩ := rel_items I1 q1
  obtain ⟨us2, v2, p2, _⟩ := rel_items I1 q2
  obtain ⟨us3, v3, p3, _⟩ := rel_items I1 q3
  refine zip_begins3 (rel_begins (l := l1) us1.toArray) (rel_begins (l := l2) us2.toArray) (rel_begins (l := l3) us3.toArray) p1 p2 p3 fun h' hz ht ho g1 g2 g3 hsz hk => wpAny_pyIter_zip hz ?_
  have I2 : Inv X pins σ H1 { s1 with heap := h' } := I1.kept (t' := s1.toks) hk
  obtain ⟨o1, e1⟩ := rel_isAt p1
  obtain ⟨o2, e2⟩ := rel_isAt p2
  obtain ⟨o3, e3⟩ := rel_isAt p3
  have la := Heap.lt_size e1
  have lb := Heap.lt_size e2
  have lc := Heap.lt_size e3
  have S := zip_sep3 (N := s1.heap.objs.size) (fp1 := [a]) (fp2 := [b]) (fp3 := [c]) (fun x hc => by rw [List.mem_singleton.mp hc]; exact la) (fun x hc => by rw [List.mem_singleton.mp hc]; exact lb) (fun x hc => by rw [List.mem_singleton.mp hc]; exact lc)
  refine ⟨s1.heap.objs.size + 5, [s1.heap.objs.size + 5, s1.heap.objs.size + 3, s1.heap.objs.size + 4, s1.heap.objs.size, s1.heap.objs.size + 1, s1.heap.objs.size + 2], _, _, H1, rfl, I2,
    turn_z3 S (Nat.ne_of_lt la) (Nat.ne_of_lt (Nat.lt_succ_of_lt lb)) (Nat.ne_of_lt (Nat.lt_succ_of_lt (Nat.lt_succ_of_lt lc))), ⟨hz, ht, ⟨_, _, _, ho⟩, rel_start g1, rel_start g2, rel_start g3⟩, fun x hc => ?_, q⟩
  have hle : s1.heap.objs.size ≤ x := by
    simp only [List.mem_cons, List.mem_nil_iff, or_false] at hc
    rcases hc with c1 | c1 | c1 | c1 | c1 | c1 <;> rw [c1] <;> first | exact Nat.le_refl _ | exact Nat.le_add_right _ _
  exact I1.fpOk hle (I1.hok.fresh hle)
/-! ### enumerate -/
def numbered (xs : List V) : List (List V) := (List.range xs.length).zipWith (fun i x => [.int (i : Nat), x]) xs
theorem numbered_get {xs : List V} {i : Nat} {x : V} (h : xs[i]? = some x) : (numbered xs)[i]? = some [.int (i : Nat), x] := by
  have hi : i < xs.length := (List.getElem?_eq_some_iff.mp h).1
  rw [numbered, List.getElem?_zipWith, List.getElem?_range hi, h]
def SrcE (K : PySem.W.Frag) (l : Bool) (a : Addr) : Hp → List (List V) → Prop := fun H rows => ∃ xs, RelSq l K H a xs ∧ rows = numbered xs
theorem turn_e {P : Program} {w : World} {K : PySem.W.Frag} {elts : List Expr} {kk : Nat} {tpos : Pos} {l : Bool} {a e it : Addr} (ne : e ≠ it) (na : a ≠ it) (nae : e ≠ a) :
    Turn P w K (.Tuple elts kk tpos) (ItR (SrcE K l a)) [e, it] e (fun i h => (∃ old, IsEnum h e it (0 + (i : Int)) old) ∧ RelIt l h it a i) := by
  refine turn_rows (SrcE K l a) e [e, it] [e, it] _ (by simp) (fun c hc => hc) (fun i h st c hc => ?_) (fun i h h' st k => ?_) (fun A i s Q E st h => ?_) (fun X hP hw hK hc i pins s σ H I st hn rows hs => ?_)
  · obtain ⟨⟨old, he⟩, r1⟩ := st
    simp only [List.mem_cons, List.mem_nil_iff, or_false] at hc
    rcases hc with rfl | rfl
    · exact ⟨_, he, fun v y => nomatch y⟩
    · exact rel_obj r1
  · obtain ⟨⟨old, he⟩, r1⟩ := st
    exact ⟨⟨old, k e (by simp) _ he⟩, rel_at r1 (k it (by simp))⟩
  · obtain ⟨⟨old, he⟩, r1⟩ := st
    exact wpAny_pyIter_enum he h
  · subst hP hw hK
    obtain ⟨xs, q1, rfl⟩ := hs
    obtain ⟨he, r1⟩ := st
    obtain ⟨xv, v1, p1, _⟩ := rel_items I q1
    have hh : X.A.in1.handled = none := I.ok.hd hc
    have D1 := rel_draws (l := l) (prog := X.prog) (w := X.w) (A := X.A.in1) hh na xv.toArray
    have WT := WalksT.enumFrom 0 D1 e ne (fun z => by
      simp only [List.mem_cons, List.mem_nil_iff, or_false] at z
      exact z.elim ne nae) (by simp)
    have hl : xv.toArray.size = (numbered xs).length := by
      rw [numbered, List.length_zipWith, List.length_range, v1.length]
      simp
    rw [hl] at WT
    refine ⟨fun rows' h => ?_, _, _, _, _, WT, ⟨he, r1, p1⟩, fun j h st _ => ⟨st.1, st.2.1⟩, fun j vals pt => ?_⟩
    · obtain ⟨xs', h1, rfl⟩ := h
      rw [rel_inj I h1 q1]
    · obtain ⟨t, x1, e1, rfl⟩ := pt
      obtain ⟨x, h3, h4⟩ := vals_back v1 (by simpa using e1)
      exact ⟨[.int (j : Nat), x], numbered_get h3, by simp, .cons ⟨t, by rw [Int.zero_add]⟩ (.cons h4 .nil)⟩
theorem meets_enum_tup (t : Addr) (items : Array Value) :
    Meets (Builtin.«enumerate.__new__» ⟨[.type "enumerate", .ref t], []⟩) (fun _ R s => s.heap.IsTuple t items ∧
      R (.ok (.ret (.ref (s.heap.push (relO false t)).objs.size))) { s with heap := (s.heap.push (relO false t)).push { cls := .type "enumerate", data := .fields #[.none, .bool false, .ref s.heap.objs.size, rawInt 0, .none, .none] } }) :=
  .of_wp fun prog w A R s h => by
    obtain ⟨hp, g, d, tk, os⟩ := s
    obtain ⟨hT, h⟩ := h
    have hsub := sub_enumerate
    obtain ⟨ob, hob, _⟩ := id hT
    replace hob : hp.get? t = some ob := hob
    wp_walk using wpAny_loadPart' hob
    refine wpAny_stack_any fun st => wpAny_pure ?_
    split
    · rename_i c _ _ _ _ _
      cases (c == Value.type "enumerate")
      · wp_walk using wpAny_loadPart' hob, wpAny_pyIter_tuple hT
        exact ⟨_, rfl, h⟩
      · wp_walk using wpAny_loadPart' hob, wpAny_pyIter_tuple hT
        exact ⟨_, rfl, h⟩
    · wp_walk using wpAny_loadPart' hob, wpAny_pyIter_tuple hT
      exact ⟨_, rfl, h⟩
theorem call_enum_rel {prog : Program} {w : World} {A : Around} {E : Value → Shared → Prop} {s : Shared} {l : Bool} {a : Addr} {items : Array Value} {Q : Value → Shared → Prop} (p : RelIs l s.heap a items)
    (h : ∀ h', IsEnum h' (s.heap.objs.size + 1) s.heap.objs.size 0 .none → RelIt l h' s.heap.objs.size a 0 → (∀ b o, s.heap.get? b = some o → h'.get? b = some o) → Q (.ref (s.heap.objs.size + 1)) { s with heap := h' }) :
    wpAny (model prog w) A (call (.type "enumerate") [.ref a]) Q E s := by
  cases l with
  | true => exact call_enumerate_list p fun h' e1 e2 _ e4 => h h' e1 e2 e4
  | false =>
    refine callType_new F.called_enumerate (by decide) (F.typeCall_enumerate_1 _) (F.newCall_enumerate_1 _) (fun obj => F.args_object_init_2 obj _) F.entry_enumerate_new (meets_enum_tup a items) ⟨p, ?_⟩
    have hz : (s.heap.push (relO false a)).objs.size = s.heap.objs.size + 1 := Heap.size_push ..
    show _ ∧ _
    rw [hz]
    have he : IsEnum ((s.heap.push (relO false a)).push { cls := .type "enumerate", data := .fields #[.none, .bool false, .ref s.heap.objs.size, rawInt 0, .none, .none] }) (s.heap.objs.size + 1) s.heap.objs.size 0 .none := by
      have q := Heap.get?_push_size (s.heap.push (relO false a)) (o := { cls := .type "enumerate", data := .fields #[.none, .bool false, .ref s.heap.objs.size, rawInt 0, .none, .none] }) rfl
      rw [hz] at q
      exact q
    exact ⟨⟨_, he, rfl⟩, h _ he (rel_start (Heap.get?_push_of_some _ (Heap.get?_push_size _ rfl))) fun b o x => Heap.get?_push_of_some _ (Heap.get?_push_of_some _ x)⟩
def iE (K : PySem.W.Frag) (ta : TA) : TI := fun σ H R => ta σ H fun vs H1 => ∃ (l : Bool) (a : Addr) (xs : List V), vs = [.ref a] ∧ RelSq l K H1 a xs ∧ R (ItR (SrcE K l a)) H1
theorem pi_e {X : Cx} {e : Expr} {ta : TA} {p pos tpos : Pos} {elts : List Expr} {kk : Nat} (hg : Gl X "enumerate") (hm : X.mg "enumerate" = none) (ha : PA X [e] ta) (hs : starEach [e] X.env = [(false, eval e X.env)] := by rfl) :
    PI X (.Tuple elts kk tpos) (.Call (.Name "enumerate" p) [e] [] pos) (iE X.K ta) := by
  refine ⟨fun pins s σ H R I h => ?_⟩
  refine Call_ (ld_blt I hg hm boot_enumerate (PyProof.Rows.callWith_type1 (thn (ha.run pos pins s σ H _ I h) fun us s1 hh => ?_) hs rfl))
  obtain ⟨vs, H1, I1, r1, l, a, xs, ex, q1, q⟩ := hh
  subst ex
  obtain ⟨u1, rfl, ru1⟩ := vals1 r1
  cases ru1
  obtain ⟨us1, v1, p1, _⟩ := rel_items I1 q1
  obtain ⟨o1, e1⟩ := rel_isAt p1
  have la := Heap.lt_size e1
  refine call_enum_rel p1 fun h' he r hk => wpAny_pyIter_enum he ?_
  have I2 : Inv X pins σ H1 { s1 with heap := h' } := I1.kept (t' := s1.toks) hk
  refine ⟨s1.heap.objs.size + 1, [s1.heap.objs.size + 1, s1.heap.objs.size], _, _, H1, rfl, I2, turn_e (Nat.succ_ne_self _) (Nat.ne_of_lt la) (Nat.ne_of_gt (Nat.lt_succ_of_lt la)), ⟨⟨.none, he⟩, r⟩, fun x hc => ?_, q⟩
  have hle : s1.heap.objs.size ≤ x := by
    simp only [List.mem_cons, List.mem_nil_iff, or_false] at hc
    rcases hc with c1 | c1 <;> rw [c1] <;> first | exact Nat.le_refl _ | exact Nat.le_add_right _ _
  exact I1.fpOk hle (I1.hok.fresh hle)
end DL

set_option Elab.async false
set_option linter.all false
set_option maxRecDepth 100000
/-! DL6: enumerate, zip by data; list comprehensions. -/
namespace DL
open PySem PySem.Spec PyProof.Rows L2

def seqOf : D → Option (List D)
  | .lst ds => some ds
  | .slst ds => some ds
  | .tup ds => some ds
  | _ => none
section
variable {K : PySem.W.Frag} {mg : Str → Option Value} {H : Hp} {O : Av} {v : V} {d : D} {ds : List D}
theorem relsq_of (r : Rp K mg H O v d) (e : seqOf d = some ds) : ∃ (l : Bool) (a : Addr) (vs : List V), v = .ref a ∧ (∀ H' O', Kp H O H' O' → RelSq l K H' a vs) ∧ RpL K mg H O vs ds := by
  cases r with
  | lst h o n el => cases e; exact ⟨true, _, _, rfl, fun H' O' k => SqL.of (k _ _ h o).1, n, el⟩
  | slst h n el => cases e; exact ⟨true, _, _, rfl, fun H' O' k => (h.kp k).sq, n, el⟩
  | tup h n el => cases e; exact ⟨false, _, _, rfl, fun H' O' k => (h.kp k).sq, n, el⟩
  | _ => cases e
theorem walk_rows {Src : Hp → List (List V) → Prop} {rows : List (List V)} {drows : List (List D)} (hl : rows.length = drows.length) (he : ∀ (i : Nat) (r : List V) (q : List D), rows[i]? = some r → drows[i]? = some q → RpL K mg H O r q)
    (hs : ∀ H' O', Kp H O H' O' → Src H' rows) : WalkD K mg (ItR Src) (drows.map .tup) H O := fun H' O' k lv => ⟨fun i d hi => by
  rw [List.getElem?_map] at hi
  cases hq : drows[i]? with
  | none => rw [hq] at hi; exact nomatch hi
  | some q =>
    rw [hq] at hi
    cases hi
    have li : i < rows.length := hl ▸ (List.getElem?_eq_some_iff.mp hq).1
    have hr : rows[i]? = some rows[i] := List.getElem?_eq_getElem li
    refine ⟨⟨rows, _, hs H' O' k, hr⟩, fun x H2 y => ?_⟩
    obtain ⟨T, r, rfl, nT, rfl, u⟩ := y
    have e := (u rows (hs H' O' k)).symm.trans hr
    cases e
    have s := same_new (o := .tup rows[i]) nT
    have rl := ((he i _ q hr hq).kp k).kp (Same.kp (O := O') s)
    exact ⟨s, .tup (.inl ⟨.inl upd_same, fresh_not lv nT⟩) rl.1 rl.2⟩, rows, hs H' O' k, by rw [List.length_map]; exact hl⟩
end
def pairs (xs ys : List D) : List (List D) := List.zipWith (fun x y => [x, y]) xs ys
def trips : List D → List D → List D → List (List D)
  | x :: xs, y :: ys, u :: us => [x, y, u] :: trips xs ys us
  | _, _, _ => []
def countD (xs : List D) : List (List D) := (List.range xs.length).zipWith (fun i x => [.int (i : Nat), x]) xs
def fZip2 (f : FL) : FL := fun ρ => (f ρ).bind fun ds ρ1 => match ds with
  | [a, b] => (match seqOf a, seqOf b with
    | some xs, some ys => .ok ((pairs xs ys).map .tup) ρ1
    | _, _ => .stuck)
  | _ => .stuck
def fZip3 (f : FL) : FL := fun ρ => (f ρ).bind fun ds ρ1 => match ds with
  | [a, b, c] => (match seqOf a, seqOf b, seqOf c with
    | some xs, some ys, some us => .ok ((trips xs ys us).map .tup) ρ1
    | _, _, _ => .stuck)
  | _ => .stuck
def fEnum (f : FL) : FL := fun ρ => (f ρ).bind fun ds ρ1 => match ds with
  | [a] => (match seqOf a with
    | some xs => .ok ((countD xs).map .tup) ρ1
    | _ => .stuck)
  | _ => .stuck
theorem trips_get : ∀ {xs ys us : List D} {i : Nat} {q : List D}, (trips xs ys us)[i]? = some q → ∃ x y u, xs[i]? = some x ∧ ys[i]? = some y ∧ us[i]? = some u ∧ q = [x, y, u]
  | [], _, _, _, _, h => nomatch h
  | _ :: _, [], _, _, _, h => nomatch h
  | _ :: _, _ :: _, [], _, _, h => nomatch h
  | x :: xs, y :: ys, u :: us, 0, q, h => by cases h; exact ⟨x, y, u, rfl, rfl, rfl, rfl⟩
  | x :: xs, y :: ys, u :: us, i + 1, q, h => trips_get (xs := xs) (ys := ys) (us := us) (i := i) h
theorem trips_len : ∀ xs ys us : List D, (trips xs ys us).length = min (min xs.length ys.length) us.length
  | [], ys, us => by simp [trips]
  | x :: xs, [], us => by simp [trips]
  | x :: xs, y :: ys, [] => by simp [trips]
  | x :: xs, y :: ys, u :: us => by
    rw [trips, List.length_cons, trips_len xs ys us, List.length_cons, List.length_cons, List.length_cons]
    omega
section
variable {X : Cx} {W : Wi} {e : Expr} {fl : FL} {pos p tpos : Pos} {elts : List Expr} {kk : Nat}
theorem di_zip2 {a b : Expr} (hg : Gl X "zip") (hm : X.mg "zip" = none) (ha : DA X W [a, b] fl) (hs : starEach [a, b] X.env = (false, eval a X.env) :: starEach [b] X.env := by rfl)
    (hpl : (backTo pos (starEach [b] X.env)).any (·.1) = false := by rfl) : DI X W (.Tuple elts kk tpos) (.Call (.Name "zip" p) [a, b] [] pos) (fZip2 fl) := by
  obtain ⟨t, pa, ia⟩ := ha
  refine ⟨_, pi_z2 hg hm pa hs hpl, fun B ρ σ H O R' R p => ?_⟩
  unfold fZip2 at p
  rw [rpost_bind] at p
  refine ia B ρ σ H O _ R (p.mono (fun ds ρ1 p vs H1 g r => ?_) fun _ _ _ e => e)
  split at p
  · rename_i da db
    split at p
    · rename_i xs ys e1 e2
      obtain ⟨v, w, rfl, r1, r2⟩ := r.two
      obtain ⟨l1, a1, vs1, rfl, q1, w1⟩ := relsq_of r1 e1
      obtain ⟨l2, a2, vs2, rfl, q2, w2⟩ := relsq_of r2 e2
      refine ⟨l1, l2, a1, a2, vs1, vs2, rfl, q1 _ _ .refl, q2 _ _ .refl, p _ H1 g (walk_rows (rows := List.zipWith (fun x y => [x, y]) vs1 vs2) ?_ (fun i r q h1 h2 => ?_) fun H' O' k => ⟨_, _, q1 _ _ k, q2 _ _ k, rfl⟩)⟩
      · rw [pairs, List.length_zipWith, List.length_zipWith, w1.1, w2.1]
      · rw [List.getElem?_zipWith] at h1
        rw [pairs, List.getElem?_zipWith] at h2
        cases c1 : vs1[i]? with
        | none => rw [c1] at h1; cases h1
        | some x =>
          cases c2 : vs2[i]? with
          | none => rw [c1, c2] at h1; cases h1
          | some y =>
            obtain ⟨dx, c3, rx⟩ := w1.getV c1
            obtain ⟨dy, c4, ry⟩ := w2.getV c2
            rw [c1, c2] at h1
            rw [c3, c4] at h2
            cases h1
            cases h2
            exact .cons rx (.cons ry .nil)
    · exact p.elim
  · exact p.elim
theorem RpL.three {K : PySem.W.Frag} {mg : Str → Option Value} {H : Hp} {O : Av} {vs : List V} {d d' d2 : D} (h : RpL K mg H O vs [d, d', d2]) : ∃ v w u, vs = [v, w, u] ∧ Rp K mg H O v d ∧ Rp K mg H O w d' ∧ Rp K mg H O u d2 := by
  match vs, h with
  | [v, w, u], h => exact ⟨v, w, u, rfl, h.uncons.1, h.uncons.2.uncons.1, h.uncons.2.uncons.2.uncons.1⟩
  | [], h => exact nomatch h.1
  | [_], h => exact nomatch h.1
  | [_, _], h => exact nomatch h.1
  | _ :: _ :: _ :: _ :: _, h => exact nomatch h.1
theorem di_zip3 {a b c : Expr} (hg : Gl X "zip") (hm : X.mg "zip" = none) (ha : DA X W [a, b, c] fl) (hs : starEach [a, b, c] X.env = (false, eval a X.env) :: starEach [b, c] X.env := by rfl)
    (hpl : (backTo pos (starEach [b, c] X.env)).any (·.1) = false := by rfl) : DI X W (.Tuple elts kk tpos) (.Call (.Name "zip" p) [a, b, c] [] pos) (fZip3 fl) := by
  obtain ⟨t, pa, ia⟩ := ha
  refine ⟨_, pi_z3 hg hm pa hs hpl, fun B ρ σ H O R' R p => ?_⟩
  unfold fZip3 at p
  rw [rpost_bind] at p
  refine ia B ρ σ H O _ R (p.mono (fun ds ρ1 p vs H1 g r => ?_) fun _ _ _ e => e)
  split at p
  · rename_i da db dc
    split at p
    · rename_i xs ys us e1 e2 e3
      obtain ⟨v, w, u, rfl, r1, r2, r3⟩ := r.three
      obtain ⟨l1, a1, vs1, rfl, q1, w1⟩ := relsq_of r1 e1
      obtain ⟨l2, a2, vs2, rfl, q2, w2⟩ := relsq_of r2 e2
      obtain ⟨l3, a3, vs3, rfl, q3, w3⟩ := relsq_of r3 e3
      refine ⟨l1, l2, l3, a1, a2, a3, vs1, vs2, vs3, rfl, q1 _ _ .refl, q2 _ _ .refl, q3 _ _ .refl, p _ H1 g (walk_rows (rows := zip3 vs1 vs2 vs3) ?_ (fun i r q h1 h2 => ?_) fun H' O' k => ⟨_, _, _, q1 _ _ k, q2 _ _ k, q3 _ _ k, rfl⟩)⟩
      · rw [zip3_len, trips_len, w1.1, w2.1, w3.1]
      · obtain ⟨x, y, z, c1, c2, c3, rfl⟩ := trips_get h2
        obtain ⟨vx, b1, rx⟩ := w1.get c1
        obtain ⟨vy, b2, ry⟩ := w2.get c2
        obtain ⟨vz, b3, rz⟩ := w3.get c3
        rw [zip3_get b1 b2 b3] at h1
        cases h1
        exact .cons rx (.cons ry (.cons rz .nil))
    · exact p.elim
  · exact p.elim
theorem di_enum {a : Expr} (hg : Gl X "enumerate") (hm : X.mg "enumerate" = none) (ha : DA X W [a] fl) (hs : starEach [a] X.env = [(false, eval a X.env)] := by rfl) : DI X W (.Tuple elts kk tpos) (.Call (.Name "enumerate" p) [a] [] pos) (fEnum fl) := by
  obtain ⟨t, pa, ia⟩ := ha
  refine ⟨_, pi_e hg hm pa hs, fun B ρ σ H O R' R p => ?_⟩
  unfold fEnum at p
  rw [rpost_bind] at p
  refine ia B ρ σ H O _ R (p.mono (fun ds ρ1 p vs H1 g r => ?_) fun _ _ _ e => e)
  split at p
  · rename_i da
    split at p
    · rename_i xs e1
      obtain ⟨v, rfl, r1⟩ := r.one
      obtain ⟨l1, a1, vs1, rfl, q1, w1⟩ := relsq_of r1 e1
      refine ⟨l1, a1, vs1, rfl, q1 _ _ .refl, p _ H1 g (walk_rows (rows := DL.numbered vs1) ?_ (fun i r q h1 h2 => ?_) fun H' O' k => ⟨_, q1 _ _ k, rfl⟩)⟩
      · rw [DL.numbered, countD, List.length_zipWith, List.length_zipWith, List.length_range, List.length_range, w1.1]
      · rw [countD, List.getElem?_zipWith] at h2
        cases c1 : xs[i]? with
        | none => rw [c1] at h2; cases h : (List.range xs.length)[i]? <;> (rw [h] at h2; cases h2)
        | some x =>
          obtain ⟨vx, b1, rx⟩ := w1.get c1
          rw [numbered_get b1] at h1
          rw [c1, List.getElem?_range (List.getElem?_eq_some_iff.mp c1).1] at h2
          cases h1
          cases h2
          exact .cons (.int _) (.cons rx .nil)
    · exact p.elim
  · exact p.elim

/-! ### comprehensions -/
/-- the canonical readings: the same in every block -/
def tD (K : PySem.W.Frag) (mg : Str → Option Value) (f : F) : TE := fun σ H Q => ∃ B ρ O, Rep K mg B O ρ σ H ∧ RPost (f ρ) (fun d ρ' => ∀ v H', Go K mg B O σ ρ H ρ' H' → Rp K mg H' O v d → Q v H') (fun _ _ _ => False)
def tDT (K : PySem.W.Frag) (mg : Str → Option Value) (f : FB) : TT := fun σ H Q => ∃ B ρ O, Rep K mg B O ρ σ H ∧ RPost (f ρ) (fun b ρ' => ∀ H', Go K mg B O σ ρ H ρ' H' → Q b H') (fun _ _ _ => False)
def tDG (K : PySem.W.Frag) (mg : Str → Option Value) (ts : List Nat) (f : D → En → Option En) : TG := fun v σ H Q => ∃ B ρ ρ' O d, Rep K mg B O ρ σ H ∧ Rp K mg H O v d ∧ f d ρ = some ρ' ∧
  ∀ σ' H', Same H H' → Rep K mg B O ρ' σ' H' → TgGo ts ρ σ ρ' σ' → Q σ' H'
def W0 : Wi := ⟨fun _ _ _ _ => False, fun _ => True⟩
theorem DE.canon {f : F} (h : DE X W0 e f) : PE X e (tD X.K X.mg f) := by
  obtain ⟨t, p, i⟩ := h
  refine ⟨fun pins s σ H Q I hh => p.run pins s σ H Q I ?_⟩
  obtain ⟨B, ρ, O, R, hp⟩ := hh
  exact i ⟨B, trivial⟩ ρ σ H O Q R (hp.mono (fun _ _ h => h) fun _ _ _ z => z.elim)
theorem DT.canon {f : FB} (h : DT X W0 e f) : PT X e (tDT X.K X.mg f) := by
  obtain ⟨t, p, i⟩ := h
  refine ⟨fun pins s σ H Q I hh => p.run pins s σ H Q I ?_⟩
  obtain ⟨B, ρ, O, R, hp⟩ := hh
  exact i ⟨B, trivial⟩ ρ σ H O Q R (hp.mono (fun _ _ h => h) fun _ _ _ z => z.elim)
theorem DG.canon {tg : Expr} {ts : List Nat} {f : D → En → Option En} (h : DG X tg ts f) : PG X tg (tDG X.K X.mg ts f) := by
  obtain ⟨t, p, i⟩ := h
  refine ⟨fun pins s σ H v u Q I r hh => p.run pins s σ H v u Q I r ?_⟩
  obtain ⟨B, ρ, ρ', O, d, R, rv, e, q⟩ := hh
  exact i B ρ ρ' σ H O v d Q R rv e q
def R.bindN {α β : Type} (r : R α) (k : α → En → R β) : R β := match r with
  | .ok a ρ => k a ρ
  | _ => .stuck
theorem rpost_bindN {α β : Type} {r : R α} {k : α → En → R β} {ok : β → En → Prop} {er er' : Str → List (Str × D) → En → Prop} (p : RPost (r.bindN k) ok er) :
    RPost r (fun a ρ => RPost (k a ρ) ok er) er' := by
  cases r with
  | ok a ρ => exact p
  | err c fs ρ => exact False.elim p
  | stuck => exact False.elim p
/-- the block's turns; vs: its own slots -/
def lcL (vs : List Nat) (t : D → En → Option En) (tt : FB) (te : F) : List D → List D → En → R (List D)
  | [], acc, ρ => .ok acc ρ
  | d :: ds, acc, ρ => match t d ρ with
    | none => .stuck
    | some ρ2 => (tt ρ2).bindN fun b ρ3 => if b = true then (te ρ3).bindN fun y ρ4 => if acc.length < sizeLine then lcL vs t tt te ds (acc ++ [y]) (wipeE ρ4 vs) else .stuck
      else lcL vs t tt te ds acc (wipeE ρ3 vs)
/-- behind the block: its own slots are as they were ahead of it -/
def backE (vs : List Nat) (ρ1 ρb : En) : En := (List.range ρ1.length).map fun i => if i ∈ vs then (ρ1[i]?).getD none else (ρb[i]?).getD none
def noMu (vs : List Nat) (ρ : En) : Bool := vs.all fun i => match ρ[i]? with
  | some (some s) => !s.mu
  | _ => true
def fLc (it : FL) (vs : List Nat) (t : D → En → Option En) (tt : FB) (te : F) : FL := fun ρ => (it ρ).bind fun ds ρ1 => if noMu vs ρ1 = true then (lcL vs t tt te ds [] (wipeE ρ1 vs)).bindN fun acc ρb => .ok acc (backE vs ρ1 ρb) else .stuck
def fYes : FB := fun ρ => .ok true ρ
end
section
variable {K : PySem.W.Frag} {mg : Str → Option Value} {B : Base} {O : Av} {ρ ρb : En} {σ : Sl} {H H1 : Hp} {vs : List Nat}
theorem wipe_mem {i : Nat} : ∀ {vs : List Nat} {x : V}, (wipe σ vs)[i]? = some (some x) → σ[i]? = some (some x) ∧ i ∉ vs := fun {vs x} h => wipe_some h
theorem Rep.wipe (R : Rep K mg B O ρ σ H) (vs : List Nat) : Rep K mg B O (wipeE ρ vs) (wipe σ vs) H where
  len := by rw [wipe_length, wipeE_len, R.len]
  slot := fun i s h => by
    obtain ⟨h1, h2⟩ := wipeE_get h
    obtain ⟨v, e1, e2⟩ := R.slot i s h1
    exact ⟨v, (wipe_out h2).trans e1, e2⟩
  apart := fun i j s t a h1 h2 m1 m2 e1 e2 => R.apart i j s t a (wipeE_get h1).1 (wipeE_get h2).1 m1 m2 (wipe_mem e1).1 (wipe_mem e2).1
  base := R.base
  live := R.live
  o0 := R.o0
  b0 := R.b0
  pao := R.pao
theorem mu_wipe {b : Addr} (m : Mu (wipeE ρ vs) (wipe σ vs) b) : Mu ρ σ b := by
  obtain ⟨i, s, h1, h2, h3⟩ := m
  exact ⟨i, s, (wipeE_get h1).1, h2, (wipe_mem h3).1⟩
/-- O grows by a thing of our own that no slot holds -/
theorem Rep.grow {p : Addr} {o : HO} (R : Rep K mg B O ρ σ H) (hp : H p = none) : Rep K mg B (O.add p) ρ σ (upd H p o) where
  len := R.len
  slot := fun i s h => by
    obtain ⟨v, e1, e2⟩ := R.slot i s h
    refine ⟨v, e1, e2.kp (kp_add hp) fun a e m => ?_⟩
    subst e
    have oa : O a := R.mu_O ⟨i, s, h, m, e1⟩
    exact ⟨upd_ne fun z : a = p => R.live a oa (z ▸ hp), .inl oa⟩
  apart := R.apart
  base := fun b o h n => by
    have e := R.base b o h n
    rw [upd_ne (ne_of_none e hp)]
    exact e
  live := fun a oa => by
    by_cases e : a = p
    · rw [e, upd_same]
      exact fun z => nomatch z
    · rw [upd_ne e]
      exact oa.elim (R.live a) fun z => absurd z e
  o0 := fun a h => .inl (R.o0 a h)
  b0 := R.b0
  pao := R.pao
/-- a thing in O that no slot holds is written -/
theorem Rep.poke {p : Addr} {o : HO} (R : Rep K mg B O ρ σ H) (hO : O p) (hm : ¬ Mu ρ σ p) (hb : B.H0 p = none) : Rep K mg B O ρ σ (upd H p o) := by
  have k : Kp H O (upd H p o) O := fun a u e n => ⟨by rw [upd_ne fun z : a = p => n (z ▸ hO)]; exact e, n⟩
  exact {
    len := R.len
    slot := fun i s h => by
      obtain ⟨v, e1, e2⟩ := R.slot i s h
      refine ⟨v, e1, e2.kp k fun a e m => ?_⟩
      subst e
      exact ⟨upd_ne fun z : a = p => hm (z ▸ ⟨i, s, h, m, e1⟩), R.mu_O ⟨i, s, h, m, e1⟩⟩
    apart := R.apart
    base := fun b o h n => by
      rw [upd_ne fun z : b = p => by rw [z, hb] at h; cases h]
      exact R.base b o h n
    live := fun a oa => by
      by_cases e : a = p
      · rw [e, upd_same]
        exact fun z => nomatch z
      · rw [upd_ne e]
        exact R.live a oa
    o0 := R.o0
    b0 := R.b0
    pao := R.pao }
theorem backE_get {i : Nat} {s : Slot} (h : (backE vs ρ ρb)[i]? = some (some s)) : i < ρ.length ∧ ((i ∈ vs ∧ ρ[i]? = some (some s)) ∨ (i ∉ vs ∧ ρb[i]? = some (some s))) := by
  unfold backE at h
  rw [List.getElem?_map] at h
  by_cases hi : i < ρ.length
  · rw [List.getElem?_range hi] at h
    have h : (if i ∈ vs then (ρ[i]?).getD none else (ρb[i]?).getD none) = some s := Option.some.inj h
    refine ⟨hi, ?_⟩
    have key : ∀ {l : En}, (l[i]?).getD none = some s → l[i]? = some (some s) := fun {l} e => by
      cases q : l[i]? with
      | none => rw [q] at e; cases e
      | some x => rw [q] at e; have e : x = some s := e; rw [e]
    split at h
    · rename_i hm
      exact .inl ⟨hm, key h⟩
    · rename_i hm
      exact .inr ⟨hm, key h⟩
  · rw [List.getElem?_eq_none (by rw [List.length_range]; omega)] at h
    cases h
theorem kinds_at {ρ ρ' : En} (h : kinds ρ' = kinds ρ) {i : Nat} {s : Slot} (e : ρ'[i]? = some (some s)) : ∃ t, ρ[i]? = some (some t) ∧ t.kd = s.kd := by
  have q := congrArg (fun l => l[i]?) h
  simp only [kinds_get, e] at q
  cases c : ρ[i]? with
  | none => rw [c] at q; cases q
  | some o =>
    rw [c] at q
    cases o with
    | none => cases q
    | some t => exact ⟨t, rfl, by simpa using q.symm⟩
theorem noMu_at (h : noMu vs ρ = true) {i : Nat} (hi : i ∈ vs) {s : Slot} (e : ρ[i]? = some (some s)) : s.mu = false := by
  have := List.all_eq_true.mp h i hi
  rw [e] at this
  simpa using this
end
section
variable {X : Cx} {elt tg iter : Expr} {ifs : List Expr} {scope : Scope} {own : List (Str × Nat)} {pos : Pos} {fl : FL} {t : D → En → Option En} {ts : List Nat} {tt : FB} {te : F} {W : Wi}
/-- a clause's tests by data -/
def DTs (X : Cx) (ifs : List Expr) (tt : FB) : Prop := PTs X ifs (tDT X.K X.mg tt)
theorem dts_nil : DTs X [] fYes := ⟨fun pins s σ H Q I h => pts_nil.run pins s σ H Q I (by
  obtain ⟨B, ρ, O, R, p⟩ := h
  exact p H (Go.refl R))⟩
theorem dts_one {c : Expr} {tc : FB} (h : DT X W0 c tc) : DTs X [c] tc := pts_one h.canon
/-- what a comprehension keeps from turn to turn -/
structure LcI (K : PySem.W.Frag) (mg : Str → Option Value) (B : Base) (O : Av) (σ : Sl) (ρ1 : En) (H1 : Hp) (D0 : Addr) (vs : List Nat) (ρb : En) (acc : List D) (H : Hp) : Prop where
  rep : Rep K mg B (O.add D0) ρb (wipe σ vs) H
  kd : kinds ρb = kinds (wipeE ρ1 vs)
  fr : ∀ b o, H1 b = some o → ¬ Mu ρ1 σ b → H b = some o
  at_ : ∃ va, H D0 = some (.lst va) ∧ RpL K mg H (O.add D0) va acc
theorem LcI.mu {K : PySem.W.Frag} {mg : Str → Option Value} {B : Base} {O : Av} {σ : Sl} {ρ1 ρb : En} {H1 H : Hp} {D0 : Addr} {vs : List Nat} {acc : List D} (h : LcI K mg B O σ ρ1 H1 D0 vs ρb acc H) {b : Addr} (m : Mu ρb (wipe σ vs) b) : Mu ρ1 σ b :=
  mu_wipe (mu_of_kinds h.kd m)
theorem kinds_wipe {ρ ρ' : En} {vs : List Nat} (h : kinds ρ' = kinds ρ) : kinds (wipeE ρ' vs) = kinds (wipeE ρ vs) := by
  have key : ∀ (l : En) (vs : List Nat), kinds (wipeE l vs) = wipeE (kinds l) vs := fun l vs => by
    induction vs with
    | nil => rfl
    | cons v vs ih =>
      show ((wipeE l vs).set v none).map _ = (wipeE (kinds l) vs).set v none
      rw [List.map_set]
      show (kinds (wipeE l vs)).set v none = _
      rw [ih]
  rw [key, key, h]
/-- behind a turn's test or element -/
theorem LcI.go {K : PySem.W.Frag} {mg : Str → Option Value} {B : Base} {O : Av} {σ σ2 : Sl} {ρ1 ρb ρ2 ρ3 : En} {H1 H H2 H3 : Hp} {D0 : Addr} {vs : List Nat} {acc : List D} (hD : H1 D0 = none) (lv : ∀ b, Mu ρ1 σ b → H1 b ≠ none) (h : LcI K mg B O σ ρ1 H1 D0 vs ρb acc H)
    (s : Same H H2) (hs : wipe σ2 vs = wipe σ vs) (hr : wipeE ρ2 vs = wipeE ρb vs) (hm : ∀ b, Mu ρ2 σ2 b → Mu ρb (wipe σ vs) b) (R2 : Rep K mg B (O.add D0) ρ2 σ2 H2) (g : Go K mg B (O.add D0) σ2 ρ2 H2 ρ3 H3) :
    LcI K mg B O σ ρ1 H1 D0 vs (wipeE ρ3 vs) acc H3 := by
  have hD' : ¬ Mu ρ2 σ2 D0 := fun m => lv D0 (h.mu (hm D0 m)) hD
  have wb : wipeE (wipeE ρb vs) vs = wipeE ρb vs := by
    have key : ∀ (us : List Nat), (∀ u, u ∈ us → u ∈ vs) → wipeE (wipeE ρb vs) us = wipeE ρb vs := fun us => by
      induction us with
      | nil => exact fun _ => rfl
      | cons u us ih =>
        intro hu
        show (wipeE (wipeE ρb vs) us).set u none = _
        rw [ih fun x hx => hu x (List.mem_cons_of_mem _ hx)]
        apply List.ext_getElem?
        intro j
        by_cases e : u = j
        · subst e
          by_cases l : u < (wipeE ρb vs).length
          · rw [List.getElem?_set_self l]
            cases q : (wipeE ρb vs)[u]? with
            | none => exact absurd (List.getElem?_eq_none_iff.mp q) (by omega)
            | some o =>
              cases o with
              | none => rfl
              | some x => exact absurd (hu u (List.mem_cons_self ..)) (wipeE_get q).2
          · rw [List.getElem?_eq_none (by rw [List.length_set]; omega), List.getElem?_eq_none (by omega)]
        · rw [List.getElem?_set_ne e]
    exact key vs fun _ h => h
  obtain ⟨va, e1, e2⟩ := h.at_
  refine ⟨?_, ?_, fun b o e m => ?_, va, ?_, ?_⟩
  · have r := g.rep.wipe vs
    rw [hs] at r
    exact r
  · have k1 : kinds (wipeE ρ3 vs) = kinds (wipeE ρ2 vs) := kinds_wipe g.kd
    rw [k1, hr]
    have k2 : kinds (wipeE ρb vs) = kinds (wipeE (wipeE ρ1 vs) vs) := kinds_wipe h.kd
    rw [k2]
    apply congrArg
    apply List.ext_getElem?
    intro j
    by_cases hj : j ∈ vs
    · have none1 : ∀ (l : En), (wipeE l vs)[j]? = none ∨ (wipeE l vs)[j]? = some none := fun l => by
        cases q : (wipeE l vs)[j]? with
        | none => exact .inl rfl
        | some o =>
          cases o with
          | none => exact .inr rfl
          | some x => exact absurd hj (wipeE_get q).2
      have len : (wipeE (wipeE ρ1 vs) vs).length = (wipeE ρ1 vs).length := wipeE_len _ _
      rcases none1 (wipeE ρ1 vs) with q | q <;> rcases none1 ρ1 with q' | q'
      · rw [q, q']
      · have a1 := List.getElem?_eq_none_iff.mp q
        have a2 := (List.getElem?_eq_some_iff.mp q').1
        omega
      · have a1 := List.getElem?_eq_none_iff.mp q'
        have a2 := (List.getElem?_eq_some_iff.mp q).1
        omega
      · rw [q, q']
    · rw [wipeE_out hj]
  · exact g.fr b o (s _ _ (h.fr b o e m)) fun z => m (h.mu (hm b z))
  · exact g.fr D0 _ (s _ _ e1) hD'
  · exact (e2.kp (Same.kp s)).kp (g.kp R2)
theorem lc_sem {wi : TI} (ii : ∀ (B : W.BB) (ρ : En) (σ : Sl) (H : Hp) (O : Av) (R' : It → Hp → Prop), Rep X.K X.mg B.1 O ρ σ H →
      RPost (fl ρ) (fun ds ρ' => ∀ J H1, Go X.K X.mg B.1 O σ ρ H ρ' H1 → WalkD X.K X.mg J ds H1 O → R' J H1) (ErE X B.1 W O σ ρ H) → wi σ H R') (hts : ∀ t, t ∈ ts → t ∈ own.map (·.2))
    (B : W.BB) (ρ : En) (σ : Sl) (H : Hp) (O : Av) (Q : VK) (R : Rep X.K X.mg B.1 O ρ σ H)
    (p : RPost (fLc fl (own.map (·.2)) t tt te ρ) (fun ds ρ' => ∀ vs p H', Go X.K X.mg B.1 O σ ρ H ρ' H' → H' p = none → RpL X.K X.mg H' O vs ds → Q (.ref p) (upd H' p (.lst vs))) (ErE X B.1 W O σ ρ H)) :
    tLc wi (tDG X.K X.mg ts t) (tDT X.K X.mg tt) (tD X.K X.mg te) (own.map (·.2)) σ H Q := by
  unfold fLc at p
  rw [rpost_bind] at p
  refine ii B ρ σ H O _ R (p.mono (fun ds ρ1 p J H1 g1 wk => ?_) fun _ _ _ e => e)
  intro D0 hD
  split at p
  rotate_left
  · exact p.elim
  rename_i hnm
  have p2 := rpost_bindN (er' := fun _ _ _ => True) p
  clear p
  have R1 := g1.rep
  have lv : ∀ b, Mu ρ1 σ b → H1 b ≠ none := fun b m => R1.live b (R1.mu_O m)
  have nD : ¬ O D0 := fresh_not R1.live hD
  let vs := own.map (·.2)
  let Ok : List D → En → Prop := fun acc ρb => RPost (DL.R.ok acc (backE vs ρ1 ρb)) (fun ds ρ' => ∀ vs p H', Go X.K X.mg B.1 O σ ρ H ρ' H' → H' p = none → RpL X.K X.mg H' O vs ds → Q (.ref p) (upd H' p (.lst vs))) (ErE X B.1 W O σ ρ H)
  let Wv : Nat → Nat → Hp → Prop := fun i m H' => m + i = ds.length ∧ ∃ ρb acc, LcI X.K X.mg B.1 O σ ρ1 H1 D0 vs ρb acc H' ∧ RPost (lcL vs t tt te (ds.drop i) acc ρb) Ok fun _ _ _ => True
  refine ⟨Wv, ⟨ds.length, rfl, wipeE ρ1 vs, [], ⟨(R1.wipe vs).grow hD, rfl, fun b o e _ => same_new hD b o e, [], upd_same, .nil⟩, p2⟩, fun i m H2 hW => ?_⟩
  obtain ⟨hm, ρb, acc, L, pr⟩ := hW
  have kpW : Kp H1 O H2 (O.add D0) := fun a u e n => ⟨L.fr a u e fun z => n (R1.mu_O z), fun z => z.elim n fun z => by rw [z, hD] at e; cases e⟩
  obtain ⟨hgo, hstop⟩ := wk H2 (O.add D0) kpW L.rep.live
  by_cases hi : i < ds.length
  · have hd : ds[i]? = some ds[i] := List.getElem?_eq_getElem hi
    obtain ⟨go, yl⟩ := hgo i _ hd
    rw [List.drop_eq_getElem_cons hi] at pr
    unfold lcL at pr
    split at pr
    · exact pr.elim
    · rename_i ρ2 h2
      refine .inr ⟨go, Wv (i + 1) (m - 1), fun H' hN => ⟨m - 1, by omega, hN⟩, fun x H3 hy => ?_⟩
      obtain ⟨s3, r3⟩ := yl x H3 hy
      refine ⟨B.1, ρb, ρ2, O.add D0, ds[i], L.rep.same s3, r3, h2, fun σ4 H4 s4 R4 tg4 => ?_⟩
      have ws : wipe σ4 vs = wipe σ vs := by
        have e := tg4.s vs hts
        have idem : wipe (wipe σ vs) vs = wipe σ vs := by
          apply List.ext_getElem?
          intro j
          by_cases hj : j ∈ vs
          · have nn : ∀ (l : Sl), (wipe l vs)[j]? = none ∨ (wipe l vs)[j]? = some none := fun l => by
              cases q : (wipe l vs)[j]? with
              | none => exact .inl rfl
              | some o =>
                cases o with
                | none => exact .inr rfl
                | some y => exact absurd hj (wipe_mem q).2
            have len : (wipe (wipe σ vs) vs).length = (wipe σ vs).length := wipe_length _ _
            rcases nn (wipe σ vs) with q | q <;> rcases nn σ with q' | q'
            · rw [q, q']
            · have a1 := List.getElem?_eq_none_iff.mp q
              have a2 := (List.getElem?_eq_some_iff.mp q').1
              omega
            · have a1 := List.getElem?_eq_none_iff.mp q'
              have a2 := (List.getElem?_eq_some_iff.mp q).1
              omega
            · rw [q, q']
          · rw [wipe_out hj]
        rw [e, idem]
      have wr : wipeE ρ2 vs = wipeE ρb vs := tg4.r vs hts
      refine ⟨ws.trans (by rfl), B.1, ρ2, O.add D0, R4, (rpost_bindN (er' := fun _ _ _ => False) pr).mono (fun b ρ3 pr3 H5 g5 => ?_) fun _ _ _ z => z⟩
      have hm2 : ∀ b, Mu ρ2 σ4 b → Mu ρb (wipe σ vs) b := tg4.m
      have L5 := L.go hD lv (s3.trans s4) ws wr hm2 R4 g5
      cases b with
      | false =>
        rw [if_neg Bool.false_ne_true] at pr3
        show (if false = true then _ else _)
        rw [if_neg Bool.false_ne_true]
        exact ⟨by omega, _, acc, L5, pr3⟩
      | true =>
        rw [if_pos rfl] at pr3
        show (if true = true then _ else _)
        rw [if_pos rfl]
        refine ⟨B.1, ρ3, O.add D0, g5.rep, (rpost_bindN (er' := fun _ _ _ => False) pr3).mono (fun y ρ6 pr6 w H6 g6 rw6 => ?_) fun _ _ _ z => z⟩
        have L6 := L.go hD lv (s3.trans s4) ws wr hm2 R4 (g5.trans g6)
        obtain ⟨va, e1, e2⟩ := L6.at_
        split at pr6
        · rename_i hl
          have kp : Kp H6 (O.add D0) (upd H6 D0 (.lst (va ++ [w]))) (O.add D0) := fun a u e n => ⟨by rw [upd_ne fun z : a = D0 => n (.inr z)]; exact e, n⟩
          have nM : ¬ Mu (wipeE ρ6 vs) (wipe σ vs) D0 := fun m => lv D0 (L6.mu m) hD
          have h0 : B.1.H0 D0 = none := R1.h0 hD
          refine ⟨va, e1, e2.1.symm ▸ hl, by omega, _, acc ++ [y], ⟨L6.rep.poke (.inr rfl) nM h0, L6.kd, fun b o e mm => ?_, va ++ [w], upd_same, (e2.app (.cons rw6 .nil)).kp kp⟩, pr6⟩
          rw [upd_ne fun z : b = D0 => by rw [z, hD] at e; cases e]
          exact L6.fr b o e mm
        · exact pr6.elim
  · have hi' : i = ds.length := by omega
    subst hi'
    rw [List.drop_length] at pr
    refine .inl ⟨hstop, ?_⟩
    obtain ⟨va, e1, e2⟩ := L.at_
    -- the heap ahead of the list
    let Hc : Hp := fun b => if b = D0 then none else H2 b
    have hc0 : Hc D0 = none := if_pos rfl
    have hcn : ∀ b, b ≠ D0 → Hc b = H2 b := fun b n => if_neg n
    have back : upd Hc D0 (.lst va) = H2 := by
      funext b
      by_cases e : b = D0
      · rw [e, upd_same, e1]
      · rw [upd_ne e, hcn b e]
    have kpc : Kp H2 (O.add D0) Hc O := fun a u e n => ⟨by rw [hcn a fun z => n (.inr z)]; exact e, fun z => n (.inl z)⟩
    have kd1 : kinds (backE vs ρ1 ρb) = kinds ρ1 := by
      apply List.ext_getElem?
      intro j
      rw [kinds_get, kinds_get, backE, List.getElem?_map]
      by_cases hj : j < ρ1.length
      · rw [List.getElem?_range hj]
        have e0 : ρ1[j]? = some ρ1[j] := List.getElem?_eq_getElem hj
        by_cases hv : j ∈ vs
        · simp [hv, e0]
        · have e := congrArg (fun l => l[j]?) L.kd
          simp only [kinds_get, wipeE_out hv, e0] at e
          cases q : ρb[j]? with
          | none => rw [q] at e; cases e
          | some x =>
            rw [q] at e
            simp only [Option.map_some, hv, if_false, q, e0, Option.getD_some]
            exact e
      · rw [List.getElem?_eq_none (by rw [List.length_range]; omega), List.getElem?_eq_none (by omega)]
        rfl
    have slotOf : ∀ {j : Nat} {s : Slot}, (backE vs ρ1 ρb)[j]? = some (some s) → s.mu = true → ∃ t, ρ1[j]? = some (some t) ∧ t.mu = true ∧ ρb[j]? = some (some s) ∧ j ∉ vs := fun {j s} h m => by
      obtain ⟨t, h1, h2⟩ := kinds_at kd1 h
      have mt : t.mu = true := mu_kd h2 ▸ m
      rcases (backE_get h).2 with ⟨hv, e⟩ | ⟨hv, e⟩
      · rw [noMu_at hnm hv e] at m
        cases m
      · exact ⟨t, h1, mt, e, hv⟩
    have nDa : ∀ {j : Nat} {t : Slot} {a : Addr}, ρ1[j]? = some (some t) → t.mu = true → σ[j]? = some (some (.ref a)) → a ≠ D0 := fun {j t a} h m e z => lv a ⟨j, t, h, m, e⟩ (z ▸ hD)
    have Rf : Rep X.K X.mg B.1 O (backE vs ρ1 ρb) σ Hc := {
      len := by rw [backE, List.length_map, List.length_range, R1.len]
      slot := fun j s h => by
        rcases (backE_get h).2 with ⟨hv, e⟩ | ⟨hv, e⟩
        · have ms := noMu_at hnm hv e
          obtain ⟨v, s1, s2⟩ := R1.slot j s e
          refine ⟨v, s1, ?_⟩
          cases s with
          | dat d => exact Rp.kp kpc (Rp.kp kpW s2)
          | exc c fs => exact ⟨s2.1, s2.2.1, (s2.2.2.kp kpW).kp kpc⟩
          | own _ => cases ms
          | par _ _ => cases ms
        · obtain ⟨v, s1, s2⟩ := L.rep.slot j s e
          rw [wipe_out hv] at s1
          refine ⟨v, s1, s2.kp kpc fun a ea m => ?_⟩
          subst ea
          obtain ⟨t, t1, t2, _, _⟩ := slotOf h m
          have na := nDa t1 t2 s1
          exact ⟨hcn a na, R1.mu_O ⟨j, t, t1, t2, s1⟩⟩
      apart := fun j k s u a h1 h2 m1 m2 x1 x2 => by
        obtain ⟨t, t1, t2, _, _⟩ := slotOf h1 m1
        obtain ⟨t', t1', t2', _, _⟩ := slotOf h2 m2
        exact R1.apart j k t t' a t1 t1' t2 t2' x1 x2
      base := fun b o h n => by
        have e := L.rep.base b o h n
        rw [hcn b fun z => by rw [z, R1.h0 hD] at h; cases h]
        exact e
      live := fun a oa => by
        rw [hcn a fun z => nD (z ▸ oa)]
        exact L.rep.live a (.inl oa)
      o0 := R1.o0
      b0 := R1.b0
      pao := R1.pao }
    have gf : Go X.K X.mg B.1 O σ ρ H (backE vs ρ1 ρb) Hc := ⟨kd1.trans g1.kd, fun b o e m => by
      have e1 := g1.fr b o e m
      rw [hcn b fun z => by rw [z, hD] at e1; cases e1]
      exact L.fr b o e1 fun z => m (mu_of_kinds g1.kd z), Rf⟩
    have q := pr va D0 Hc gf hc0 (e2.kp kpc)
    rw [back] at q
    exact q

theorem dn_lc (hc : X.calm = true) (hN : X.N.Nodup) (hi : DI X W tg iter fl) (ok : BlkOk X.N X.env.scope scope own) (hts : ∀ t, t ∈ ts → t ∈ own.map (·.2))
    (hg : ∀ (s : Shared) (H : Hp) (C : Addr) (cl : List (Str × Addr)) (fp : List Addr), DG (X.blk s H scope (compEnvC scope cl C X.env) fp) tg ts t) (ht : ∀ (s : Shared) (H : Hp) (C : Addr) (cl : List (Str × Addr)) (fp : List Addr), DTs (X.blk s H scope (compEnvC scope cl C X.env) fp) ifs tt)
    (he : ∀ (s : Shared) (H : Hp) (C : Addr) (cl : List (Str × Addr)) (fp : List Addr), DE (X.blk s H scope (compEnvC scope cl C X.env) fp) W0 elt te) (hs : ∀ x, foldedSetIterable iter X.env x = pure x := by intro _; rfl) :
    DN X W (.ListComp elt [⟨tg, iter, ifs, 0⟩] scope pos) (fLc fl (own.map (·.2)) t tt te) := by
  obtain ⟨wi, pi, ii⟩ := hi
  exact ⟨_, pe_lc hc hN pi ok (g := tDG X.K X.mg ts t) (tt := tDT X.K X.mg tt) (te := tD X.K X.mg te) (fun s H C cl fp => (hg s H C cl fp).canon) ht (fun s H C cl fp => (he s H C cl fp).canon) hs, fun B ρ σ H O Q R p => lc_sem ii hts B ρ σ H O Q R p⟩
/-- name = [..] where the name is a plain local -/
theorem ds_setlc {i : Nat} {y : Str} {py spos : Pos} (hc : X.calm = true) (hN : X.N.Nodup) (hi : DI X W tg iter fl) (ok : BlkOk X.N X.env.scope scope own) (hts : ∀ t, t ∈ ts → t ∈ own.map (·.2))
    (hg : ∀ (s : Shared) (H : Hp) (C : Addr) (cl : List (Str × Addr)) (fp : List Addr), DG (X.blk s H scope (compEnvC scope cl C X.env) fp) tg ts t) (ht : ∀ (s : Shared) (H : Hp) (C : Addr) (cl : List (Str × Addr)) (fp : List Addr), DTs (X.blk s H scope (compEnvC scope cl C X.env) fp) ifs tt)
    (he : ∀ (s : Shared) (H : Hp) (C : Addr) (cl : List (Str × Addr)) (fp : List Addr), DE (X.blk s H scope (compEnvC scope cl C X.env) fp) W0 elt te) (hy : X.N[i]? = some y := by rfl) (hyl : X.env.scope.names.lookup y = some .local := by rfl)
    (hsw : swapsWith (.ListComp elt [⟨tg, iter, ifs, 0⟩] scope pos) (some (.Name y py)) spos.line X.env = pure true := by exact sw_true rfl rfl rfl (by decide +kernel)) (hs : ∀ x, foldedSetIterable iter X.env x = pure x := by intro _; rfl) :
    DS X W (.Assign [.Name y py] (.ListComp elt [⟨tg, iter, ifs, 0⟩] scope pos) spos) (gSet i (fOfL (fLc fl (own.map (·.2)) t tt te))) := by
  obtain ⟨wi, pi, ii⟩ := hi
  refine ⟨_, ps_setLc hc hN hy hyl hsw pi ok (g := tDG X.K X.mg ts t) (tt := tDT X.K X.mg tt) (te := tD X.K X.mg te) (fun s H C cl fp => (hg s H C cl fp).canon) ht (fun s H C cl fp => (he s H C cl fp).canon) hs, fun B ρ σ H O D R p => ?_⟩
  refine lc_sem ii hts B ρ σ H O _ R ?_
  have p2 := spost_sr R p
  unfold fOfL at p2
  rw [rpost_bind] at p2
  refine p2.mono (fun ds ρ1 p3 vs q H1 g hq r => ?_) fun _ _ _ e => e
  have s := same_new (o := .lst vs) hq
  have r2 := r.kp (O' := O) (Same.kp s)
  have g2 := g.trans (.same g.rep s)
  exact p3 _ g2 (σ.set i (some (.ref q))) _ O .refl (g2.rep.setD i (.lst upd_same (fresh_not g.rep.live hq) r2.1 r2.2))
/-- .. and the list is one's own from here on -/
theorem ds_ownlc {i : Nat} {y : Str} {py spos : Pos} (hc : X.calm = true) (hN : X.N.Nodup) (hi : DI X W tg iter fl) (ok : BlkOk X.N X.env.scope scope own) (hts : ∀ t, t ∈ ts → t ∈ own.map (·.2))
    (hg : ∀ (s : Shared) (H : Hp) (C : Addr) (cl : List (Str × Addr)) (fp : List Addr), DG (X.blk s H scope (compEnvC scope cl C X.env) fp) tg ts t) (ht : ∀ (s : Shared) (H : Hp) (C : Addr) (cl : List (Str × Addr)) (fp : List Addr), DTs (X.blk s H scope (compEnvC scope cl C X.env) fp) ifs tt)
    (he : ∀ (s : Shared) (H : Hp) (C : Addr) (cl : List (Str × Addr)) (fp : List Addr), DE (X.blk s H scope (compEnvC scope cl C X.env) fp) W0 elt te) (hy : X.N[i]? = some y := by rfl) (hyl : X.env.scope.names.lookup y = some .local := by rfl)
    (hsw : swapsWith (.ListComp elt [⟨tg, iter, ifs, 0⟩] scope pos) (some (.Name y py)) spos.line X.env = pure true := by exact sw_true rfl rfl rfl (by decide +kernel)) (hs : ∀ x, foldedSetIterable iter X.env x = pure x := by intro _; rfl) :
    DS X W (.Assign [.Name y py] (.ListComp elt [⟨tg, iter, ifs, 0⟩] scope pos) spos) (gOwn i (fLc fl (own.map (·.2)) t tt te)) := by
  obtain ⟨wi, pi, ii⟩ := hi
  refine ⟨_, ps_setLc hc hN hy hyl hsw pi ok (g := tDG X.K X.mg ts t) (tt := tDT X.K X.mg tt) (te := tD X.K X.mg te) (fun s H C cl fp => (hg s H C cl fp).canon) ht (fun s H C cl fp => (he s H C cl fp).canon) hs, fun B ρ σ H O D R p => ?_⟩
  refine lc_sem ii hts B ρ σ H O _ R ((spost_sr R p).mono (fun ds ρ1 p3 vs q H1 g hq r => ?_) fun _ _ _ e => e)
  exact p3 H1 g (σ.set i (some (.ref q))) _ (O.add q) (kp_add hq) (g.rep.setOwn hq r)
end
end DL

set_option Elab.async false
set_option linter.all false
set_option maxRecDepth 100000
set_option autoImplicit false
/-! DLg: defs whose runs know that no repr is under way. -/
namespace DL
open PySem PySem.Spec PyProof.Rows L2
/-- room, and nothing guards -/
structure Room (k : Nat) (A : Around) : Prop extends L2.Room k A where
  gd : A.guards = some []
instance roomCoe {k : Nat} {A : Around} : CoeOut (DL.Room k A) (L2.Room k A) := ⟨fun r => r.toRoom⟩
theorem Room.mono {j k : Nat} {A : Around} (r : DL.Room k A) (h : j ≤ k) : DL.Room j A := { toRoom := L2.Room.mono r.toRoom h, gd := r.gd }
theorem Room.deeper {k : Nat} {A : Around} (r : DL.Room (k + 1) A) (e : PySem.Env) : DL.Room k (A.deeper e) := { toRoom := L2.Room.deeper r.toRoom e, gd := r.gd }
theorem Room.in1 {k : Nat} {A : Around} (r : DL.Room (k + 1) A) : DL.Room k A.in1 := { toRoom := L2.Room.in1 r.toRoom, gd := r.gd }
theorem Room.make {k : Nat} {A : Around} (r : DL.Room (k + 1) A) (C : Addr) (vs : List Value) (ks : List (Str × Value)) : DL.Room k (A.under (.builtin "type.__call__" ⟨.ref C :: vs, ks⟩)) :=
  { toRoom := L2.Room.make r.toRoom C vs ks, gd := by
      have no : ¬ "type.__call__" ∈ guardIds := by decide +kernel
      simp [Around.under, Code.guards, Code.isGuard, pushGuards, r.gd, no] }
/-- a def keeps its promise wherever no repr is under way -/
structure FnOk (P : Program) (w : World) (K : PySem.W.Frag) (mg : Str → Option Value) (base : Heap) (CX : CXT) (k : Nat) (f : Addr) (fd : FuncData) (ps : List Str) (sp : Sp) : Prop where
  len : ∀ xs H Q E, sp xs H Q E → xs.length = ps.length
  run : ∀ (A : Around) (up : List PySem.Env) (s : Shared) (H : Hp) (as : Args) (ws : List Value) (xs : List V) (Q : VK) (E : XK), DL.Room k A → Env0 P w K mg base A up s H → BindsTo s fd as (ps.zip ws) → Vals xs ws →
    sp xs H Q E → codeAny (model P w) A (.call (.ref f) as) (CR CX up P w H s Q E) s
section
variable {P : Program} {w : World} {K : PySem.W.Frag} {mg : Str → Option Value} {base : Heap} {CX : CXT} {k : Nat} {f : Addr} {fd : FuncData} {ps : List Str} {sp : Sp}
theorem FnOk.of (F : L2.FnOk P w K mg base CX k f fd ps sp) : DL.FnOk P w K mg base CX k f fd ps sp where
  len := F.len
  run := fun A up s H as ws xs Q E r e b v h => F.run A up s H as ws xs Q E r.toRoom e b v h
theorem FnOk.imp {sp' : Sp} (F : DL.FnOk P w K mg base CX k f fd ps sp) (h : ∀ xs H Q E, sp' xs H Q E → sp xs H Q E) : DL.FnOk P w K mg base CX k f fd ps sp' where
  len := fun xs H Q E z => F.len xs H Q E (h xs H Q E z)
  run := fun A up s H as ws xs Q E r e b v z => F.run A up s H as ws xs Q E r e b v (h xs H Q E z)
theorem fn_body {nm qual : Str} {params : Arguments} {body : List Stmt} {scope : Scope} {dV kV doc pm cdv ct oc : Value} {an od : Option Addr} {osl : Array (Option Value)} {N : List Str}
    (lk : K.lookup f = some ⟨oc, od, .func (PySem.W.fnOf nm qual params body scope dV kV doc pm an cdv ct), osl⟩) (hcd : PySem.W.codeIn K cdv qual = true) (S : FnScope N ps scope) (hlen : ∀ xs H Q E, sp xs H Q E → xs.length = ps.length)
    (hbody : ∀ (A : Around) (up : List PySem.Env) (s : Shared) (H : Hp) (xs : List V) (Q : VK) (E : XK), DL.Room k (A.deeper (envOfC qual scope s.heap.objs.size f cdv)) → sp xs H Q E →
      ∃ t, PSs (cxOf CX P w K mg base N qual scope f cdv A up s H E) body t ∧ t { nx := fun _ H' => Q .non H', rt := Q } (start N xs) H) :
    DL.FnOk P w K mg base CX (k + 1) f (PySem.W.fnOf nm qual params body scope dV kV doc pm an cdv ct) ps sp where
  len := hlen
  run := fun A up s H as ws xs Q E hr e0 hb rv hsp => by
    have n0 := hlen xs H Q E hsp
    have keep := fun b o e => (e0.bs b o e).1
    have KS : K.In s.heap := e0.mod.kin.keeps keep
    have NL : s.heap.NoLimit := e0.mod.nolimit.keeps keep
    refine codeAny_call_function hr.toRoom.depth (KS _ _ lk) rfl S.co S.gen rfl (PySem.W.codeRec_of KS hcd) (hb _ _ _ _ (wpAny_newFunctionEnv_cells S.kind (fun y hy => ?_) fun en he s1 x => ?_))
    · obtain ⟨n, v⟩ := y
      rcases S.par n (List.of_mem_zip hy).1 with q | q
      · exact Or.inl q
      · exact Or.inr ⟨q, PySem.W.cellsFrom_some _ _ _ (Or.inl q)⟩
    cases he
    refine ⟨NL.keeps x.toInCall.keep, codeAny_func ?_⟩
    obtain ⟨t, pt, ht⟩ := hbody A up s H xs Q E (Room.deeper hr _) hsp
    have inv : Inv (cxOf CX P w K mg base N qual scope f cdv A up s H E) [] (start N xs) H s1 := inv_start S hr.hd e0 n0 rv x
    refine wpAny_mono (pt.run [] s1 (start N xs) H _ inv ht) (fun out s2 z => ?_) fun er s2 z => z
    have close : ∀ {σ2 : L2.St} {H2 : Hp} {v : V} {u : Value}, Inv (cxOf CX P w K mg base N qual scope f cdv A up s H E) [] σ2 H2 s2 → RelV v u → Q v H2 → CE up P w H s Q u s2 := fun {σ2 H2 v u} J r q => ⟨v, H2, J.os, J.bare, J.base, J.hok, r, q⟩
    match out, z with
    | .next, ⟨σ2, H2, J, q⟩ => exact close (v := V.non) (u := Value.none) J rfl q
    | .ret u, ⟨v, σ2, H2, J, r, q⟩ => exact close J r q
    | .brk, ⟨_, _, _, q⟩ => exact q.elim
    | .cont, ⟨_, _, _, q⟩ => exact q.elim
theorem fun_body {x qual : Str} {st : Stmt} {N : List Str} (F : L2.Fun K x qual st f fd) (S : FnScope N ps (defScope st)) (hlen : ∀ xs H Q E, sp xs H Q E → xs.length = ps.length)
    (hbody : ∀ (cdv : Value) (A : Around) (up : List PySem.Env) (s : Shared) (H : Hp) (xs : List V) (Q : VK) (E : XK), DL.Room k (A.deeper (envOfC qual (defScope st) s.heap.objs.size f cdv)) → sp xs H Q E →
      ∃ t, PSs (cxOf CX P w K mg base N qual (defScope st) f cdv A up s H E) (defBody st) t ∧ t { nx := fun _ H' => Q .non H', rt := Q } (start N xs) H) : DL.FnOk P w K mg base CX (k + 1) f fd ps sp := by
  obtain ⟨_, _, _, _, _, _, cdv, _, _, rfl, lk, hcd⟩ := F.ex
  exact fn_body lk hcd S hlen (hbody cdv)
theorem funD_body {x qual : Str} {params : Arguments} {body : List Stmt} {scope : Scope} {dvs : List V} {kws : List (Str × V)} {N : List Str} (F : FunD K x qual params body scope dvs kws f fd) (S : FnScope N ps scope) (hlen : ∀ xs H Q E, sp xs H Q E → xs.length = ps.length)
    (hbody : ∀ (cdv : Value) (A : Around) (up : List PySem.Env) (s : Shared) (H : Hp) (xs : List V) (Q : VK) (E : XK), DL.Room k (A.deeper (envOfC qual scope s.heap.objs.size f cdv)) → sp xs H Q E →
      ∃ t, PSs (cxOf CX P w K mg base N qual scope f cdv A up s H E) body t ∧ t { nx := fun _ H' => Q .non H', rt := Q } (start N xs) H) : DL.FnOk P w K mg base CX (k + 1) f fd ps sp := by
  obtain ⟨_, _, _, _, _, _, _, cdv, _, _, rfl, lk, hcd, _, _⟩ := F.ex
  exact fn_body lk hcd S hlen (hbody cdv)
end
section
variable {X : Cx} {CX : CXT} {k : Nat} {f : Addr} {fd : FuncData} {ps : List Str} {sp : Sp} {dvs : List V} {ds : List Value} {x : Str} {p pos : Pos} {e : Expr} {es : List Expr} {t : TA}
theorem run_gD {pins : List (Addr × Obj)} {σ : L2.St} {H : Hp} {s : Shared} {Q : VK} {us : List Value} {vs : List V} {E : L2.St → XK} (F : DL.FnOk X.prog X.w X.K X.mg X.base CX k f fd ps sp) (hr : DL.Room k X.A) (hb : Binds X.K fd ps ds) (hd : Vals dvs ds) (hx : PassesAt CX X σ (E σ))
    (I : Inv X pins σ H s) (r : Vals vs us) (h : sp (vs ++ dvs) H Q (E σ)) : wpAny (model X.prog X.w) X.A (call (.ref f) us) (EP X pins σ Q) X.xe s := by
  have all := r.append hd
  have n0 : (us ++ ds).length = ps.length := all.length.symm.trans (F.len _ _ _ _ h)
  refine wpAny_call (codeAny_mono (F.run X.A X.stack s H ⟨us, []⟩ _ _ Q (E σ) hr I.env0 (hb s us I.kIn n0) all h) fun out s' z => ?_)
  match out, z with
  | .error er, z => exact hx pins H s er s' I z
  | .ok (.ret u), z => exact I.after z
  | .ok .next, z => exact z.elim
  | .ok .brk, z => exact z.elim
  | .ok .cont, z => exact z.elim
theorem pe_gD {E : L2.St → XK} (F : DL.FnOk X.prog X.w X.K X.mg X.base CX k f fd ps sp) (hr : DL.Room k X.A) (hg : Gl X x) (hm : X.mg x = some (.ref f)) (hk : PySem.W.keepIn X.K (.ref f) = true) (hb : Binds X.K fd ps ds) (hd : Vals dvs ds) (hx : ∀ σ, PassesAt CX X σ (E σ))
    (ha : PA X (e :: es) t) (hdb : (x == ("__debug__" : Str)) = false := by decide) (he : starEach (e :: es) X.env = (false, eval e X.env) :: starEach es X.env := by rfl) (hpl : (backTo pos (starEach es X.env)).any (·.1) = false := by rfl) :
    PE X (.Call (.Name x p) (e :: es) [] pos) (tCallSD sp dvs E t) where
  run := fun pins s σ H Q I h => by
    refine wpAny_Call_Name_kw (ld_glob I hg hm (PySem.W.callWith_K (h₀ := X.base) I.ok.mod.kin hk (thn (ha.run pos pins s σ H _ I h) fun ws s1 z => ?_) he hpl) hdb)
    obtain ⟨xs, H1, I1, r, q⟩ := z
    exact ⟨I1.kIn, run_gD F hr hb hd (hx σ) I1 r q⟩
theorem run_g {pins : List (Addr × Obj)} {σ : L2.St} {H : Hp} {s : Shared} {Q : VK} {us : List Value} {vs : List V} {E : XK} (F : DL.FnOk X.prog X.w X.K X.mg X.base CX k f fd ps sp) (hr : DL.Room k X.A) (hb : Binds X.K fd ps ds) (hd : Vals dvs ds) (hx : Passes CX X E)
    (I : Inv X pins σ H s) (r : Vals vs us) (h : sp (vs ++ dvs) H Q E) : wpAny (model X.prog X.w) X.A (call (.ref f) us) (EP X pins σ Q) X.xe s :=
  run_gD (E := fun _ => E) F hr hb hd (fun pins H s er s' I z => hx pins σ H s er s' I z) I r h
end
section
variable {X : Cx} {CX : CXT} {k : Nat} {C p g a dx : Addr} {fs : List (Str × V)} {f : Str} {fd : FuncData} {ps : List Str} {sp : Sp} {dvs : List V} {ds : List Value} {E : XK} {e : Expr} {pos : Pos} {ta : TE}
/-- a property, read -/
theorem prop_g {pins : List (Addr × Obj)} {σ : L2.St} {H : Hp} {s : Shared} {Q : VK} {b : Bool} {E' : Value → Shared → Prop} (I : Inv X pins σ H s) (ea : H a = some (.ins C dx fs)) (c : Cls X.K C) (hp : PropOf X.K C f p g)
    (F : DL.FnOk X.prog X.w X.K X.mg X.base CX k g fd ps sp) (hr : DL.Room (k + 1) X.A) (hb : Binds X.K fd ps ds) (hd : Vals dvs ds) (hx : Passes CX X.nox E) (h : sp (.ref a :: dvs) H Q E) :
    wpAny (model X.prog X.w) X.A (getAttr (.ref a) f b) (EP X pins σ Q) E' s := by
  obtain ⟨_, own, _⟩ := ins_get I.hok ea
  obtain ⟨_, J, _⟩ := own.look
  obtain ⟨rest, rc⟩ := hp.rec_
  obtain ⟨cd, hc, _⟩ := PySem.W.any_some c.hd
  have pg := PySem.W.plainGet_of (c.get f)
  have I1 := I.tok (s.toks + 1)
  have n0 : ([Value.ref a] ++ ds).length = ps.length := by
    have := F.len _ _ _ _ h
    rw [← this, List.length_cons, hd.length]
    rfl
  refine PySem.W.get_bind I.kIn J pg.1 (PySem.W.findObj_data (by rw [hc]; rfl) hp.at_ hp.get hp.tak) pg.2 (wpAny_call (PySem.W.prop_get (s := { s with toks := s.toks + 1 }) I.kIn rc
    (codeAny_mono (F.run X.A.in1 X.stack { s with toks := s.toks + 1 } H ⟨[.ref a], []⟩ (.ref a :: ds) (.ref a :: dvs) Q E (Room.in1 hr) I1.env0.in1 (hb _ [.ref a] I1.kIn n0) (.cons rfl hd) h) fun out s' z => ?_)))
  match out, z with
  | .error er, z => exact (hx pins σ H { s with toks := s.toks + 1 } er s' (I1.wish _) z).elim
  | .ok (.ret u), z =>
    obtain ⟨v, H2, I2, r, q⟩ := I1.after z
    show wpAny _ _ (handedOut u) _ _ _
    rw [PySem.W.handedOut_of (handed_of r)]
    exact wpAny_pure ⟨v, H2, I2, r, q⟩
  | .ok .next, z => exact z.elim
  | .ok .brk, z => exact z.elim
  | .ok .cont, z => exact z.elim
theorem pe_gProp (he : PE X e ta) (c : Cls X.K C) (hp : PropOf X.K C f p g) (F : DL.FnOk X.prog X.w X.K X.mg X.base CX k g fd ps sp) (hr : DL.Room (k + 1) X.A) (hb : Binds X.K fd ps ds) (hd : Vals dvs ds) (hx : Passes CX X.nox E)
    (hab : attributeBase e f X.env (eval e X.env) = eval e X.env) : PE X (.Attribute e f pos) (tProp C sp dvs E ta) where
  run := fun pins s σ H Q I h => by
    refine attr_of hab (thn (he.run pins s σ H _ I h) fun u s1 z => ?_)
    obtain ⟨x, H1, I1, rx, a1, dx1, fs1, ex, ea, q⟩ := z
    cases ex
    cases (show u = Value.ref a1 from rx)
    exact prop_g I1 ea c hp F hr hb hd hx q
end
end DL

set_option Elab.async false
set_option linter.all false
set_option maxRecDepth 100000
set_option autoImplicit false
/-! DLe: the law's promise, asked where no repr is under way. -/
namespace DL
open PySem PySem.Spec PyProof.Rows L2
section
variable {P : Program} {w : World} {K : PySem.W.Frag} {mg mb : Str → Option Value} {CX : CXT} {k : Nat} {fa a : Addr} {fd : FuncData} {x : Str} {sp : Sp} {t0 : Shared} {us : List Value} {ns : List Int} {H : Hp}
/-- the heap as it stands, the script alone tracked -/
structure Trk (P : Program) (w : World) (K : PySem.W.Frag) (t0 : Shared) (a : Addr) (H : Hp) : Prop where
  ok : HOk P w H t0.heap
  one : ∀ b, H b ≠ none → b = a
  off : H a ≠ none → K.lookup a = none
  only : Only H
theorem Trk.gone (T : Trk P w K t0 a H) {b : Addr} (h : b ≠ a) : H b = none := by
  cases q : H b with
  | none => rfl
  | some u => exact absurd (T.one b (by rw [q]; simp)) h
theorem law_g (T : Trk P w K t0 a H) (ha : t0.heap.get? a = some { cls := .type "list", data := .seq us.toArray }) (KX : K.In t0.heap) (hns : t0.heap.Ns mainGlobals mg) (hb : t0.heap.Ns builtinsNs mb) (hbb : ∀ x : Str, x ≠ "__name__" → mb x = bootBuiltins x)
    (hlim : t0.heap.NoLimit) (hg : t0.gens = #[]) (hr : DL.Room k callerA) (F : ∀ base : Heap, K.In base → base.Ns mainGlobals mg → DL.FnOk P w K mg base CX k fa fd [x] sp) (hbind : ∀ (s : Shared) (u : Value), BindsTo s fd ⟨[u], []⟩ [(x, u)])
    (hsp : sp [.ref a] H (fun v _ => v = .bl true) fun _ _ _ => False) (hCX : ∀ e s', CX [] H t0 (fun _ _ _ => False) e s' → False) :
    codeAny (model P w) callerA (.call (.ref fa) ⟨[.ref a], []⟩) (fun r s' => r = .ok (.ret (.bool true)) ∧ OldK t0.heap s'.heap ∧ s'.os = t0.os ∧ AllBare s'.gens) t0 := by
  have kt : ∀ {b : Addr} {o : Obj}, t0.heap.get? b = some o → H b = none → (hidT t0.heap H).get? b = some o := fun e n => hidT_get e n
  have dicts : ∀ {b : Addr} {m : Str → Option Value}, t0.heap.Ns b m → (hidT t0.heap H).Ns b m := fun {b m} q => by
    obtain ⟨o, es, ep, e, d, r⟩ := q
    refine ⟨o, es, ep, kt e ?_, d, r⟩
    by_cases hba : b = a
    · cases hba
      cases ha.symm.trans e
      cases (show Data.seq us.toArray _ = Data.dict es ep from d)
    · exact T.gone hba
  have kin : K.In (hidT t0.heap H) := fun b o e => kt (KX b o e) (by
    by_cases hba : b = a
    · cases hba
      cases q : H a with
      | none => rfl
      | some u => cases (T.off (by rw [q]; simp)).symm.trans e
    · exact T.gone hba)
  obtain ⟨mc, c1, c2⟩ := hlim
  have e0 : Env0 P w K mg (hidT t0.heap H) callerA [] t0 H :=
    ⟨rfl, ⟨kin, dicts hns, ⟨mb, dicts hb, hbb⟩, ⟨mc, dicts c1, c2⟩⟩, fun b o e => of_hidT e, Nat.le_of_eq (hidT_size _ _), trivial, fun b hb => (List.not_mem_nil (show b ∈ ([] : List Addr) from hb)).elim, T.ok, .of_eq hg⟩
  refine codeAny_mono ((F _ kin (dicts hns)).run callerA [] t0 H _ [.ref a] [.ref a] _ _ hr e0 (hbind t0 (.ref a)) (.cons rfl .nil) hsp) fun out s' z => ?_
  match out, z with
  | .error e, z => exact (hCX e s' z).elim
  | .ok .next, z => exact z.elim
  | .ok .brk, z => exact z.elim
  | .ok .cont, z => exact z.elim
  | .ok (.ret u), ⟨v, H', os, bare, un, hok', rv, q⟩ =>
    cases (show v = V.bl true from q)
    cases (show u = Value.bool true from rv)
    refine ⟨rfl, OldK.of_keep fun b o e => ?_, os, bare⟩
    rcases T.only b with n | ⟨ob, xs, n⟩
    · exact un.keep b o e n (fun z => (List.not_mem_nil (show b ∈ ([] : List Addr) from z)).elim) List.not_mem_nil
    · have e1 := (T.ok b _ n).1
      have e2 := (hok' b _ (un.frzs b ob _ n)).1
      rw [← Option.some.inj (e1.symm.trans e)]
      exact e2
theorem law_G (ha : t0.heap.get? a = some { cls := .type "list", data := .seq us.toArray }) (hi : IntsAre us ns) (hl : ns.length ≤ sizeLine) (KX : K.In t0.heap) (hns : t0.heap.Ns mainGlobals mg) (hb : t0.heap.Ns builtinsNs mb) (hbb : ∀ x : Str, x ≠ "__name__" → mb x = bootBuiltins x)
    (hlim : t0.heap.NoLimit) (hg : t0.gens = #[]) (hr : DL.Room k callerA) (F : ∀ base : Heap, K.In base → base.Ns mainGlobals mg → DL.FnOk P w K mg base CX k fa fd [x] sp) (hbind : ∀ (s : Shared) (u : Value), BindsTo s fd ⟨[u], []⟩ [(x, u)])
    (hsp : ∀ H : Hp, Only H → SqL K H a (ns.map V.int) → sp [.ref a] H (fun v _ => v = .bl true) fun _ _ _ => False) (hCX : ∀ H e s', CX [] H t0 (fun _ _ _ => False) e s' → False) :
    codeAny (model P w) callerA (.call (.ref fa) ⟨[.ref a], []⟩) (fun r s' => r = .ok (.ret (.bool true)) ∧ OldK t0.heap s'.heap ∧ s'.os = t0.os ∧ AllBare s'.gens) t0 := by
  have rv := vals_ints hi
  have n0 : us.length = ns.length := hi.length
  have go : ∀ H : Hp, Trk P w K t0 a H → SqL K H a (ns.map V.int) → codeAny (model P w) callerA (.call (.ref fa) ⟨[.ref a], []⟩) (fun r s' => r = .ok (.ret (.bool true)) ∧ OldK t0.heap s'.heap ∧ s'.os = t0.os ∧ AllBare s'.gens) t0 :=
    fun H T q => law_g T ha KX hns hb hbb hlim hg hr F hbind (hsp H T.only q) (hCX H)
  cases hk : K.lookup a with
  | some o =>
    cases ha.symm.trans (KX a o hk)
    refine go h0 ⟨fun b u z => (nomatch z), fun b z => absurd rfl z, fun z => absurd rfl z, fun _ => .inl rfl⟩ (.inr ⟨_, us.toArray, _, hk, rfl, rfl, rfl, ?_, by simpa using rv⟩)
    rw [List.size_toArray, n0]
    exact hl
  | none =>
    obtain ⟨H1, self, gone⟩ : ∃ H1 : Hp, H1 a = some (.frz { cls := .type "list", data := .seq us.toArray } (.lst (ns.map V.int))) ∧ ∀ b, b ≠ a → H1 b = none :=
      ⟨fun b => if b = a then some (.frz { cls := .type "list", data := .seq us.toArray } (.lst (ns.map V.int))) else none, if_pos rfl, fun b n => if_neg n⟩
    refine go H1 ⟨fun b u z => ?_, fun b z => ?_, fun _ => hk, fun b => ?_⟩ (.inl (.inr ⟨_, self⟩))
    · by_cases q : b = a
      · cases q
        cases self.symm.trans z
        exact ⟨ha, by rw [List.length_map]; exact hl, us, _, rv, ha⟩
      · cases (gone b q).symm.trans z
    · by_cases q : b = a
      · exact q
      · exact absurd (gone b q) z
    · by_cases q : b = a
      · cases q
        exact .inr ⟨_, _, self⟩
      · exact .inl (gone b q)
end
/-- the end of a law that is given whole numbers of known size -/
theorem walk_g {l : PySem.W.OpenLaw} {n k : Nat} {q : Program} {loose : List Str} {XP : (Str → Option Value) → Heap → Prop} {YP : World → Heap → Prop} {d : DefRec} {K : Params → PySem.W.Frag} {CX : World → CXT} {sp : World → Sp} {x : Str}
    (hn : l.most = some n) (hn2 : n ≤ sizeLine) (hdf : d.params.defaults = []) (hr : DL.Room k callerA) (hY : ∀ (w : World) (h : Heap), YP w h → (K w.params).In h)
    (F : ∀ (w : World) (mg : Str → Option Value) (fa : Addr) (h : Heap), (K w.params).In h → h.Ns mainGlobals mg → mg d.name = some (.ref fa) →
      ∃ fd : FuncData, (∀ (s : Shared) (u : Value), BindsTo s fd ⟨[u], []⟩ [(x, u)]) ∧ ∀ base : Heap, (K w.params).In base → base.Ns mainGlobals mg → DL.FnOk l.prog w (K w.params) mg base (CX w) k fa fd [x] (sp w))
    (hsp : ∀ (w : World) (H : Hp) (a : Addr) (ns : List Int), ns.length ≤ n → (∀ z ∈ ns, Builtin.Int.intBits z ≤ 1048576) → Only H → SqL (K w.params) H a (ns.map V.int) → sp w [.ref a] H (fun v _ => v = .bl true) fun _ _ _ => False)
    (hCX : ∀ (w : World) (H : Hp) (s : Shared) (e : Value) (s' : Shared), CX w [] H s (fun _ _ _ => False) e s' → False) : PySem.W.WalkO q loose XP YP l.row.toRowW d [] (fun f vs => PySem.call f vs) :=
  Att.attach_callB hn hdf fun w _ t mg _ fa _ _ _ _ a _ ns G Y _ _ _ hmg obj hin few bits gens => by
    have KX := hY w _ Y
    obtain ⟨fd, hb, hF⟩ := F w mg fa _ KX G.T.g hmg
    exact law_G obj hin (Nat.le_trans few hn2) KX G.T.g G.T.b G.T.builtins G.T.nolimit gens hr hF hb (fun H oH sH => hsp w H a ns few bits oH sH) fun H e s' => hCX w H t e s'
theorem room_caller {k : Nat} (h : L2.Room k callerA) : DL.Room k callerA := { toRoom := h, gd := rfl }
end DL

set_option Elab.async false
set_option linter.all false
set_option maxRecDepth 100000
/-! DL7: defs by data: the promise, the call, the raise. -/
namespace DL
open PySem PySem.Spec PyProof.Rows L2

inductive FR where
  | ok (d : D) (m : Option Cont)
  /-- a new list -/
  | okn (ds : List D) (m : Option Cont)
  | err (c : Str) (fs : List (Str × D)) (m : Option Cont)
  | stuck
abbrev Fn := List Slot → FR
def MutAt (K : PySem.W.Frag) (mg : Str → Option Value) (H : Hp) (O : Av) (pa : List Addr) (m : Option Cont) : Prop := ∀ a, pa[0]? = some a → ∃ c, m = some c ∧ ContAt K mg H O a c
def FPost (K : PySem.W.Frag) (mg : Str → Option Value) (H : Hp) (O : Av) (pa : List Addr) (Q : VK) (E : XK) : FR → Prop
  | .ok d m => ∀ v H', (∀ b o, H b = some o → b ∉ pa → H' b = some o) → Rp K mg H' O v d → MutAt K mg H' O pa m → Q v H'
  | .okn ds m => ∀ vs p H', (∀ b o, H b = some o → b ∉ pa → H' b = some o) → H' p = none → RpL K mg H' O vs ds → MutAt K mg H' O pa m → Q (.ref p) (upd H' p (.lst vs))
  | .err c fs m => ∀ C od H', (∀ b o, H b = some o → b ∉ pa → H' b = some o) → mg c = some (.ref C) → ErrAt K mg H' O od fs → MutAt K mg H' O pa m → E (.ref C) od H'
  | .stuck => False
/-- the promise of a def whose worth is told by m; at most its first argument changes -/
def spD (K : PySem.W.Frag) (mg : Str → Option Value) (n : Nat) (m : Fn) : Sp := fun vs H Q E => ∃ (ss : List Slot) (O : Av) (pa : List Addr), vs.length = n ∧ pa.length ≤ 1 ∧ Rep K mg ⟨H, O, pa, 0, none, .none⟩ O (ss.map some) (vs.map some) H ∧
  (∀ a, pa[0]? = some a → ∃ c, ss[0]? = some (.par 0 c)) ∧ FPost K mg H O pa Q E (m ss)
/-- what the first parameter holds at the end -/
def Slot.cont0 : Slot → Option Cont
  | .par 0 c => some c
  | _ => none
def Slot.isPar : Slot → Bool
  | .par _ _ => true
  | _ => false
def fin (ρ : En) : Option Cont := ρ[0]?.bind fun o => o.bind Slot.cont0
def isPar (ss : List Slot) : Bool := (ss[0]?.map Slot.isPar).getD false
/-- a def by its body: nl names beside the parameters -/
def mkFn (g : G) (nl : Nat) : Fn := fun ss => match g (ss.map some ++ List.replicate nl none) with
  | .nx ρ => if isPar ss = true then (match fin ρ with
      | some c => .ok .non (some c)
      | none => .stuck) else .ok .non none
  | .rt d ρ => if isPar ss = true then (match fin ρ with
      | some c => .ok d (some c)
      | none => .stuck) else .ok d none
  | .rtn ds ρ => if isPar ss = true then (match fin ρ with
      | some c => .okn ds (some c)
      | none => .stuck) else .okn ds none
  | .err c fs ρ => if isPar ss = true then (match fin ρ with
      | some c' => .err c fs (some c')
      | none => .stuck) else .err c fs none
  | _ => .stuck
section
variable {P : Program} {w : World} {K : PySem.W.Frag} {mg : Str → Option Value} {base : Heap}
theorem Rep.start {B : Base} {O : Av} {ss : List Slot} {vs : List V} {H : Hp} (R : Rep K mg B O (ss.map some) (vs.map some) H) (nl : Nat) : Rep K mg B O (ss.map some ++ List.replicate nl none) (vs.map some ++ List.replicate nl none) H := by
  have hl : vs.length = ss.length := by simpa using R.len
  have cut : ∀ {i : Nat} {s : Slot}, (ss.map some ++ List.replicate nl none)[i]? = some (some s) → i < ss.length ∧ (ss.map some)[i]? = some (some s) := fun {i s} h => by
    by_cases hi : i < ss.length
    · rw [List.getElem?_append_left (by simpa using hi)] at h
      exact ⟨hi, h⟩
    · rw [List.getElem?_append_right (by simpa using hi)] at h
      have := List.mem_of_getElem? h
      rw [List.mem_replicate] at this
      cases this.2
  have cutV : ∀ {i : Nat}, i < ss.length → (vs.map some ++ List.replicate nl none)[i]? = (vs.map some)[i]? := fun {i} h => List.getElem?_append_left (by simp; omega)
  exact {
    len := by simp [hl]
    slot := fun i s h => by
      obtain ⟨hi, e⟩ := cut h
      obtain ⟨v, e1, e2⟩ := R.slot i s e
      exact ⟨v, (cutV hi).trans e1, e2⟩
    apart := fun i j s t a h1 h2 m1 m2 e1 e2 => by
      obtain ⟨hi, x1⟩ := cut h1
      obtain ⟨hj, x2⟩ := cut h2
      rw [cutV hi] at e1
      rw [cutV hj] at e2
      exact R.apart i j s t a x1 x2 m1 m2 e1 e2
    base := R.base
    live := R.live
    o0 := R.o0
    b0 := R.b0
    pao := R.pao }
/-- the wish of a def's body -/
def WD (E : XK) : Wi := ⟨fun cls d _ H => E cls d H, fun _ => True⟩
theorem body_end {X : Cx} {H H' : Hp} {O O' : Av} {pa : List Addr} {ss : List Slot} {ρ : En} {σ : Sl} (hpa : ∀ a, pa[0]? = some a → ∃ c, ss[0]? = some (Slot.par 0 c)) (hl : pa.length ≤ 1) (hnp : isPar ss = true → ∃ a, pa[0]? = some a)
    (R : Rep X.K X.mg ⟨H, O, pa, 0, none, .none⟩ O' ρ σ H') : (∀ b o, H b = some o → b ∉ pa → H' b = some o) ∧ (∀ v d, Rp X.K X.mg H' O' v d → Rp X.K X.mg H' O v d) ∧ Kp H' O' H' O ∧
      (isPar ss = true → ∀ c, fin ρ = some c → MutAt X.K X.mg H' O pa (some c)) ∧ (isPar ss = false → ∀ m, MutAt X.K X.mg H' O pa m) := by
  have k : Kp H' O' H' O := fun a u e n => ⟨e, fun z => n (R.o0 a z)⟩
  refine ⟨R.base, fun v d r => r.kp k, k, fun hp c hc a ha => ⟨c, rfl, ?_⟩, fun hp m a ha => ?_⟩
  · unfold fin at hc
    cases q : ρ[0]? with
    | none => rw [q] at hc; cases hc
    | some o =>
      rw [q] at hc
      have e : ρ[0]? = some (some (.par 0 c)) := by
        rw [q]
        cases o with
        | none => cases hc
        | some s =>
          cases s with
          | par k c' =>
            cases k with
            | zero => cases hc; rfl
            | succ k => cases hc
          | _ => cases hc
      obtain ⟨v, _, a', rfl, _, e2, e3⟩ := R.slot 0 _ e
      have e2 : pa[0]? = some a' := e2
      rw [ha] at e2
      cases e2
      exact e3.kp k rfl
  · obtain ⟨c, e⟩ := hpa a ha
    unfold isPar at hp
    rw [e] at hp
    cases hp
theorem spD_len {n : Nat} {m : Fn} : ∀ vs H Q E, spD K mg n m vs H Q E → vs.length = n := fun vs H Q E h => by
  obtain ⟨_, _, _, h, _⟩ := h
  exact h
/-- what a body gives is what its def promises -/
theorem body_ok {X : Cx} {g : G} {body : List Stmt} {N ps : List Str} {vs : List V} {H : Hp} {Q : VK} {E : XK} (hb : DSs X (WD E) body g) (hn : ps.length ≤ N.length)
    (h : spD X.K X.mg ps.length (mkFn g (N.length - ps.length)) vs H Q E) : ∃ t, PSs X body t ∧ t { nx := fun _ H' => Q .non H', rt := Q } (L2.start N vs) H := by
  obtain ⟨ss, O, pa, hl, hp1, R, hpa, p⟩ := h
  obtain ⟨t, pt, it⟩ := hb
  have hnp : isPar ss = true → ∃ a, pa[0]? = some a := fun hp => by
    unfold DL.isPar at hp
    cases q : ss[0]? with
    | none => rw [q] at hp; cases hp
    | some s =>
      rw [q] at hp
      cases s with
      | par k c =>
        obtain ⟨v, _, a, _, _, e2, _⟩ := R.slot 0 (.par k c) (by rw [List.getElem?_map, q]; rfl)
        have e2 : pa[k]? = some a := e2
        have hk : k < pa.length := (List.getElem?_eq_some_iff.mp e2).1
        have : k = 0 := by omega
        subst this
        exact ⟨a, e2⟩
      | _ => cases hp
  refine ⟨t, pt, it ⟨⟨H, O, pa, 0, none, .none⟩, trivial⟩ (ss.map some ++ List.replicate (N.length - ps.length) none) _ H O _ (by
    have r := R.start (N.length - ps.length)
    unfold L2.start
    rw [hl]
    exact r) ?_⟩
  unfold mkFn at p
  have fin0 : ∀ {ρ : En} {σ : Sl} {H' : Hp} {O' : Av}, Rep X.K X.mg ⟨H, O, pa, 0, none, .none⟩ O' ρ σ H' → _ := fun {ρ σ H' O'} R' => body_end (X := X) (ss := ss) hpa hp1 hnp R'
  cases q : g (ss.map some ++ List.replicate (N.length - ps.length) none) with
  | stuck => rw [q] at p; exact p.elim
  | bk ρ => rw [q] at p; exact p.elim
  | ct ρ => rw [q] at p; exact p.elim
  | nx ρ =>
    rw [q] at p
    intro σ' H' O' k' R'
    obtain ⟨f1, f2, f3, f4, f5⟩ := fin0 R'
    dsimp only at p
    cases hs : isPar ss with
    | true =>
      rw [hs, if_pos rfl] at p
      cases hf : fin ρ with
      | none => rw [hf] at p; exact p.elim
      | some c =>
        rw [hf] at p
        exact p .non H' f1 .non (f4 hs c hf)
    | false =>
      rw [hs, if_neg Bool.false_ne_true] at p
      exact p .non H' f1 .non (f5 hs none)
  | rt d ρ =>
    rw [q] at p
    intro v σ' H' O' k' R' rv
    obtain ⟨f1, f2, f3, f4, f5⟩ := fin0 R'
    dsimp only at p
    cases hs : isPar ss with
    | true =>
      rw [hs, if_pos rfl] at p
      cases hf : fin ρ with
      | none => rw [hf] at p; exact p.elim
      | some c =>
        rw [hf] at p
        exact p v H' f1 (f2 v d rv) (f4 hs c hf)
    | false =>
      rw [hs, if_neg Bool.false_ne_true] at p
      exact p v H' f1 (f2 v d rv) (f5 hs none)
  | rtn ds ρ =>
    rw [q] at p
    intro vs q' σ' H' O' k' R' hq rv
    obtain ⟨f1, f2, f3, f4, f5⟩ := fin0 R'
    dsimp only at p
    cases hs : isPar ss with
    | true =>
      rw [hs, if_pos rfl] at p
      cases hf : fin ρ with
      | none => rw [hf] at p; exact p.elim
      | some c =>
        rw [hf] at p
        exact p vs q' H' f1 hq (rv.kp f3) (f4 hs c hf)
    | false =>
      rw [hs, if_neg Bool.false_ne_true] at p
      exact p vs q' H' f1 hq (rv.kp f3) (f5 hs none)
  | err c fs ρ =>
    rw [q] at p
    intro C od σ' H' O' k' R' m1 er
    obtain ⟨f1, f2, f3, f4, f5⟩ := fin0 R'
    dsimp only at p
    cases hs : isPar ss with
    | true =>
      rw [hs, if_pos rfl] at p
      cases hf : fin ρ with
      | none => rw [hf] at p; exact p.elim
      | some c' =>
        rw [hf] at p
        exact p C od H' f1 m1 (er.kp f3) (f4 hs c' hf)
    | false =>
      rw [hs, if_neg Bool.false_ne_true] at p
      exact p C od H' f1 m1 (er.kp f3) (f5 hs none)
/-- THE RULE: a def by data -/
theorem fnd {x qual : Str} {st : Stmt} {f : Addr} {fd : FuncData} {N ps : List Str} {k : Nat} {g : G} (F : L2.Fun K x qual st f fd) (S : FnScope N ps (defScope st)) (hn : ps.length ≤ N.length)
    (hb : ∀ (cdv : Value) (A : Around) (outer : List PySem.Env) (s : Shared) (H : Hp) (E : XK), Room k (A.deeper (envOfC qual (defScope st) s.heap.objs.size f cdv)) →
      DSs (cxOf (L2.CX P w) P w K mg base N qual (defScope st) f cdv A outer s H E) (WD E) (defBody st) g) :
    FnOk P w K mg base (L2.CX P w) (k + 1) f fd ps (spD K mg ps.length (mkFn g (N.length - ps.length))) :=
  fun_body F S spD_len fun cdv A outer s H vs Q E hr h => body_ok (hb cdv A outer s H E hr) hn h
/-- .. with defaults -/
theorem fndD {x qual : Str} {params : Arguments} {body : List Stmt} {scope : Scope} {dvs : List V} {kws : List (Str × V)} {f : Addr} {fd : FuncData} {N ps : List Str} {k : Nat} {g : G} (F : FunD K x qual params body scope dvs kws f fd) (S : FnScope N ps scope) (hn : ps.length ≤ N.length)
    (hb : ∀ (cdv : Value) (A : Around) (outer : List PySem.Env) (s : Shared) (H : Hp) (E : XK), Room k (A.deeper (envOfC qual scope s.heap.objs.size f cdv)) →
      DSs (cxOf (L2.CX P w) P w K mg base N qual scope f cdv A outer s H E) (WD E) body g) :
    FnOk P w K mg base (L2.CX P w) (k + 1) f fd ps (spD K mg ps.length (mkFn g (N.length - ps.length))) :=
  funD_body F S spD_len fun cdv A outer s H vs Q E hr h => body_ok (hb cdv A outer s H E hr) hn h
end
/-! ### calls -/
def fCall (n : Nat) (m : Fn) (dv : List D) (f : FL) : F := fun ρ => (f ρ).bind fun ds ρ1 => if (ds ++ dv).length = n then (match m ((ds ++ dv).map .dat) with
  | .ok d _ => .ok d ρ1
  | .okn ds _ => .ok (.lst ds) ρ1
  | .err c fs _ => .err c fs ρ1
  | .stuck => .stuck) else .stuck
/-- .. the call of a def that makes a new list -/
def fCallN (n : Nat) (m : Fn) (dv : List D) (f : FL) : FL := fun ρ => (f ρ).bind fun ds ρ1 => if (ds ++ dv).length = n then (match m ((ds ++ dv).map .dat) with
  | .okn ds _ => .ok ds ρ1
  | .err c fs _ => .err c fs ρ1
  | _ => .stuck) else .stuck
section
variable {X : Cx} {W : Wi} {k : Nat} {f : Addr} {fd : FuncData} {ps : List Str} {m : Fn} {dvs : List V} {ds : List Value} {dd : List D} {x : Str} {p pos : Pos} {e : Expr} {es : List Expr} {fl : FL}
theorem rep_dats {K : PySem.W.Frag} {mg : Str → Option Value} {H : Hp} {O : Av} {vs : List V} {ds : List D} (lv : ∀ z, O z → H z ≠ none) (r : RpL K mg H O vs ds) : Rep K mg ⟨H, O, [], 0, none, .none⟩ O ((ds.map Slot.dat).map some) (vs.map some) H where
  len := by simp [r.1]
  slot := fun i s h => by
    rw [List.getElem?_map, List.getElem?_map] at h
    cases q : ds[i]? with
    | none => rw [q] at h; cases h
    | some d =>
      rw [q] at h
      cases h
      obtain ⟨v, h1, h2⟩ := r.get q
      exact ⟨v, by rw [List.getElem?_map, h1]; rfl, h2⟩
  apart := fun i j s t a h1 h2 m1 m2 e1 e2 => by
    rw [List.getElem?_map, List.getElem?_map] at h1
    cases q : ds[i]? with
    | none => rw [q] at h1; cases h1
    | some d =>
      rw [q] at h1
      cases h1
      cases m1
  base := fun b o h _ => h
  live := lv
  o0 := fun _ h => h
  b0 := lv
  pao := fun a h => nomatch h
theorem same_of {H H' : Hp} (h : ∀ b o, H b = some o → b ∉ ([] : List Addr) → H' b = some o) : Same H H' := fun b o e => h b o e fun z => nomatch z
/-- a call with data alone, from the promise -/
theorem call_post {K : PySem.W.Frag} {mg : Str → Option Value} {H : Hp} {O : Av} {vs : List V} {ds : List D} {n : Nat} {Q : VK} {E : XK} (lv : ∀ z, O z → H z ≠ none) (hn : ds.length = n) (r : RpL K mg H O vs ds)
    (q : match m (ds.map Slot.dat) with
      | .ok d _ => ∀ v H', Same H H' → Rp K mg H' O v d → Q v H'
      | .okn ds _ => ∀ vs p H', Same H H' → H' p = none → RpL K mg H' O vs ds → Q (.ref p) (upd H' p (.lst vs))
      | .err c fs _ => ∀ C od H', Same H H' → mg c = some (.ref C) → ErrAt K mg H' O od fs → E (.ref C) od H'
      | .stuck => False) : spD K mg n m vs H Q E := by
  refine ⟨ds.map Slot.dat, O, [], r.1.trans hn, Nat.zero_le _, rep_dats lv r, fun a h => (nomatch h), ?_⟩
  cases c : m (ds.map Slot.dat) with
  | ok d _ => rw [c] at q; exact fun v H' fr rv _ => q v H' (same_of fr) rv
  | okn ds _ => rw [c] at q; exact fun vs p H' fr hp rv _ => q vs p H' (same_of fr) hp rv
  | err c fs _ => rw [c] at q; exact fun C od H' fr m1 er _ => q C od H' (same_of fr) m1 er
  | stuck => rw [c] at q; exact q.elim
/-- f(e, ..) with data alone; the defaults dvs fill up -/
theorem de_call (F : FnOk X.prog X.w X.K X.mg X.base (L2.CX X.prog X.w) k f fd ps (spD X.K X.mg ps.length m)) (hr : Room k X.A) (hm : X.mg x = some (.ref f)) (hk : PySem.W.keepIn X.K (.ref f) = true) (hb : Binds X.K fd ps ds) (hd : Vals dvs ds)
    (hdd : ∀ H O, (∀ z, O z → H z ≠ none) → RpL X.K X.mg H O dvs dd) (tk : Takes X W.w) (ha : DA X W (e :: es) fl) (hg : Gl X x := by rfl) (hdb : (x == ("__debug__" : Str)) = false := by decide)
    (he : starEach (e :: es) X.env = (false, eval e X.env) :: starEach es X.env := by rfl) (hpl : (backTo pos (starEach es X.env)).any (·.1) = false := by rfl) :
    DE X W (.Call (.Name x p) (e :: es) [] pos) (fCall ps.length m dd fl) := by
  obtain ⟨t, pa, ia⟩ := ha
  refine ⟨_, pe_gD F hr hg hm hk hb hd (fun σ => passAt tk σ) pa hdb he hpl, fun B ρ σ H O Q R p => ?_⟩
  unfold fCall at p
  rw [rpost_bind] at p
  refine ia B ρ σ H O _ R (p.mono (fun as ρ1 p vs H1 g r => ?_) fun _ _ _ e => e)
  have rd := r.app (hdd H1 O g.rep.live)
  split at p
  · rename_i hn
    refine call_post g.rep.live hn rd ?_
    cases c : m ((as ++ dd).map Slot.dat) with
    | ok d _ =>
      rw [c] at p
      exact fun v H2 s rv => p v H2 (g.trans (.same g.rep s)) rv
    | okn ds _ =>
      rw [c] at p
      intro vs q H2 s hq rv
      have g2 := g.trans (.same g.rep s)
      have s2 := same_new (o := .lst vs) hq
      have r2 := rv.kp (O' := O) (Same.kp s2)
      exact p _ _ (g2.trans (.same g2.rep s2)) (.lst upd_same (fresh_not g2.rep.live hq) r2.1 r2.2)
    | err c fs _ =>
      rw [c] at p
      exact fun C od H2 s m1 er => p C od H2 (g.trans (.same g.rep s)) m1 er
    | stuck => rw [c] at p; exact p.elim
  · exact p.elim
theorem dn_call (F : FnOk X.prog X.w X.K X.mg X.base (L2.CX X.prog X.w) k f fd ps (spD X.K X.mg ps.length m)) (hr : Room k X.A) (hm : X.mg x = some (.ref f)) (hk : PySem.W.keepIn X.K (.ref f) = true) (hb : Binds X.K fd ps ds) (hd : Vals dvs ds)
    (hdd : ∀ H O, (∀ z, O z → H z ≠ none) → RpL X.K X.mg H O dvs dd) (tk : Takes X W.w) (ha : DA X W (e :: es) fl) (hg : Gl X x := by rfl) (hdb : (x == ("__debug__" : Str)) = false := by decide)
    (he : starEach (e :: es) X.env = (false, eval e X.env) :: starEach es X.env := by rfl) (hpl : (backTo pos (starEach es X.env)).any (·.1) = false := by rfl) :
    DN X W (.Call (.Name x p) (e :: es) [] pos) (fCallN ps.length m dd fl) := by
  obtain ⟨t, pa, ia⟩ := ha
  refine ⟨_, pe_gD F hr hg hm hk hb hd (fun σ => passAt tk σ) pa hdb he hpl, fun B ρ σ H O Q R p => ?_⟩
  unfold fCallN at p
  rw [rpost_bind] at p
  refine ia B ρ σ H O _ R (p.mono (fun as ρ1 p vs H1 g r => ?_) fun _ _ _ e => e)
  have rd := r.app (hdd H1 O g.rep.live)
  split at p
  · rename_i hn
    refine call_post g.rep.live hn rd ?_
    cases c : m ((as ++ dd).map Slot.dat) with
    | ok d _ => rw [c] at p; exact p.elim
    | okn ds _ =>
      rw [c] at p
      exact fun vs q H2 s hq rv => p vs q H2 (g.trans (.same g.rep s)) hq rv
    | err c fs _ =>
      rw [c] at p
      exact fun C od H2 s m1 er => p C od H2 (g.trans (.same g.rep s)) m1 er
    | stuck => rw [c] at p; exact p.elim
  · exact p.elim
/-- the context of a def's body: what it takes, what it lets pass -/
theorem tkD {P : Program} {w : World} {K : PySem.W.Frag} {mg : Str → Option Value} {base : Heap} {N : List Str} {qual : Str} {scope : Scope} {f : Addr} {cd : Value} {A : Around} {outer : List PySem.Env} {s : Shared} {H : Hp} {E : XK} :
    Takes (cxOf (L2.CX P w) P w K mg base N qual scope f cd A outer s H E) (WD E).w := takes_of rfl rfl rfl rfl
theorem hpD {P : Program} {w : World} {K : PySem.W.Frag} {mg : Str → Option Value} {base : Heap} {N : List Str} {qual : Str} {scope : Scope} {f : Addr} {cd : Value} {A : Around} {outer : List PySem.Env} {s : Shared} {H : Hp} {E : XK} :
    PassesOwn (model P w) (cxOf (L2.CX P w) P w K mg base N qual scope f cd A outer s H E).A (cxOf (L2.CX P w) P w K mg base N qual scope f cd A outer s H E).env (cxOf (L2.CX P w) P w K mg base N qual scope f cd A outer s H E).xe := passes_of rfl
end
end DL

set_option Elab.async false
set_option linter.all false
set_option maxRecDepth 100000
/-! DL8: calls that change a list, own errors raised and caught. -/
namespace DL
open PySem PySem.Spec PyProof.Rows L2

/-! ### a call whose first argument is a list that it changes -/
def Slot.listC : Slot → Option (List D) := Slot.list
def fCallM (n : Nat) (m : Fn) (i : Nat) (f : FL) : F := fun ρ => match slotList ρ i with
  | none => .stuck
  | some _ => (f ρ).bind fun ds ρ1 => match slotList ρ1 i with
    | none => .stuck
    | some xs => if ds.length + 1 = n then (match m (.par 0 (.lst xs) :: ds.map .dat) with
      | .ok d (some (.lst ys)) => (match slotPut ρ1 i ys with
        | some ρ2 => .ok d ρ2
        | none => .stuck)
      | .okn ds2 (some (.lst ys)) => (match slotPut ρ1 i ys with
        | some ρ2 => .ok (.lst ds2) ρ2
        | none => .stuck)
      | .err c fs (some (.lst ys)) => (match slotPut ρ1 i ys with
        | some ρ2 => .err c fs ρ2
        | none => .stuck)
      | _ => .stuck) else .stuck
section
variable {K : PySem.W.Frag} {mg : Str → Option Value} {B : Base} {O : Av} {ρ ρ' : En} {σ : Sl} {H H' : Hp} {i : Nat} {a : Addr} {vs : List V} {ds : List D}
/-- behind a call that changed the list at a -/
theorem Rep.afterL (R : Rep K mg B O ρ σ H) (h : slotPut ρ i ds = some ρ') (hs : σ[i]? = some (some (.ref a))) (fr : ∀ b o, H b = some o → b ≠ a → H' b = some o) (e : H' a = some (.lst vs)) (r : RpL K mg H' O vs ds) : Go K mg B O σ ρ H ρ' H' := by
  -- first the store alone, then the new things
  obtain ⟨s, s', h1, h2, rfl⟩ := slotPut_at h
  have hm : s.mu = true := by
    cases s with
    | dat d => cases h2
    | exc c fs => cases h2
    | own xs => rfl
    | par k c => rfl
  have hO : O a := R.mu_O ⟨i, s, h1, hm, hs⟩
  have k : Kp H O H' O := fun b u e n => ⟨fr b u e fun z => n (z ▸ hO), n⟩
  have li : i < ρ.length := (List.getElem?_eq_some_iff.mp h1).1
  have kd : kinds (ρ.set i (some s')) = kinds ρ := by
    apply List.ext_getElem?
    intro j
    rw [kinds_get, kinds_get]
    by_cases hj : i = j
    · subst hj
      rw [List.getElem?_set_self li, h1]
      simp [(put_kd h2).1]
    · rw [List.getElem?_set_ne hj]
  refine ⟨kd, fun b o e m => fr b o e fun z => m (z ▸ ⟨i, s, h1, hm, hs⟩), ?_⟩
  exact {
    len := by rw [List.length_set, R.len]
    slot := fun j t ht => by
      by_cases hj : i = j
      · subst hj
        rw [List.getElem?_set_self li] at ht
        cases ht
        obtain ⟨v, g1, g2⟩ := R.slot i s h1
        rw [hs] at g1
        cases g1
        refine ⟨.ref a, hs, ?_⟩
        cases s with
        | dat d => cases hm
        | exc c fs => cases hm
        | own xs =>
          cases h2
          obtain ⟨b, e1, o, n, _⟩ := g2
          cases e1
          exact ⟨a, rfl, o, n, vs, e, r⟩
        | par q c =>
          cases c with
          | ins _ _ => cases h2
          | lst xs =>
            cases h2
            obtain ⟨b, e1, o, n, _⟩ := g2
            cases e1
            exact ⟨a, rfl, o, n, vs, e, r⟩
      · rw [List.getElem?_set_ne hj] at ht
        obtain ⟨w, g1, g2⟩ := R.slot j t ht
        refine ⟨w, g1, g2.kp k fun b e1 m => ?_⟩
        subst e1
        have nb : b ≠ a := fun z => hj (R.apart i j s t a h1 ht hm m hs (z ▸ g1))
        refine ⟨?_, R.mu_O ⟨j, t, ht, m, g1⟩⟩
        cases q : H b with
        | none => exact absurd q (R.live b (R.mu_O ⟨j, t, ht, m, g1⟩))
        | some u => exact fr b u q nb
    apart := fun j q t u b x1 x2 m1 m2 e1 e2 => by
      have key : ∀ {j : Nat} {t : Slot}, (ρ.set i (some s'))[j]? = some (some t) → t.mu = true → ∃ t', ρ[j]? = some (some t') ∧ t'.mu = true := fun {j t} ht m => by
        by_cases hj : i = j
        · subst hj
          exact ⟨s, h1, hm⟩
        · rw [List.getElem?_set_ne hj] at ht
          exact ⟨t, ht, m⟩
      obtain ⟨t', a1, a2⟩ := key x1 m1
      obtain ⟨u', b1, b2⟩ := key x2 m2
      exact R.apart j q t' u' b a1 b1 a2 b2 e1 e2
    base := fun b o e1 n => by
      have e' := R.base b o e1 n
      refine fr b o e' fun z => ?_
      obtain ⟨v, g1, g2⟩ := R.slot i s h1
      rw [hs] at g1
      cases g1
      cases s with
      | dat d => cases hm
      | exc c fs => cases hm
      | own xs =>
        obtain ⟨b', f1, o1, n1, _⟩ := g2
        cases f1
        rw [z, n1] at e1
        cases e1
      | par q c =>
        obtain ⟨b', f1, o1, n1, _⟩ := g2
        cases f1
        exact n (z ▸ List.mem_of_getElem? n1)
    live := fun b o => by
      by_cases z : b = a
      · rw [z, e]
        exact fun y => nomatch y
      · cases q : H b with
        | none => exact absurd q (R.live b o)
        | some u => rw [fr b u q z]; exact fun y => nomatch y
    o0 := R.o0
    b0 := R.b0
    pao := R.pao }
theorem rep_mut {n : List D} {ws : List V} (lv : ∀ z, O z → H z ≠ none) (hO : O a) (e : H a = some (.lst vs)) (r : RpL K mg H O vs ds) (rn : RpL K mg H O ws n) :
    Rep K mg ⟨H, O, [a], 0, none, .none⟩ O ((Slot.par 0 (.lst ds) :: n.map Slot.dat).map some) ((V.ref a :: ws).map some) H := by
  have R0 := rep_dats lv rn
  exact {
    len := by simp [rn.1]
    slot := fun i s h => by
      cases i with
      | zero =>
        have h : some (some (Slot.par 0 (.lst ds))) = some (some s) := h
        cases h
        exact ⟨.ref a, rfl, a, rfl, hO, rfl, vs, e, r⟩
      | succ i =>
        obtain ⟨v, h1, h2⟩ := R0.slot i s h
        refine ⟨v, h1, ?_⟩
        have hd : ∃ d, s = .dat d := by
          have h : ((n.map Slot.dat).map some)[i]? = some (some s) := h
          rw [List.getElem?_map, List.getElem?_map] at h
          cases q : n[i]? with
          | none => rw [q] at h; cases h
          | some d => rw [q] at h; cases h; exact ⟨d, rfl⟩
        obtain ⟨d, rfl⟩ := hd
        exact h2
    apart := fun i j s t b h1 h2 m1 m2 e1 e2 => by
      have z : ∀ {i : Nat} {s : Slot}, ((Slot.par 0 (.lst ds) :: n.map Slot.dat).map some)[i]? = some (some s) → s.mu = true → i = 0 := fun {i s} h m => by
        cases i with
        | zero => rfl
        | succ i =>
          have h : ((n.map Slot.dat).map some)[i]? = some (some s) := h
          rw [List.getElem?_map, List.getElem?_map] at h
          cases q : n[i]? with
          | none => rw [q] at h; cases h
          | some d => rw [q] at h; cases h; cases m
      rw [z h1 m1, z h2 m2]
    base := fun b o h _ => h
    live := lv
    o0 := fun _ h => h
    b0 := lv
    pao := fun b h => by rw [List.mem_singleton.mp h]; exact hO }
end
section
variable {X : Cx} {W : Wi} {k : Nat} {f : Addr} {fd : FuncData} {ps : List Str} {m : Fn} {x y : Str} {p p2 pos : Pos} {e : Expr} {es : List Expr} {fl : FL} {i : Nat}
/-- f(y, e, ..), y a list that the call changes -/
theorem de_callM (F : FnOk X.prog X.w X.K X.mg X.base (L2.CX X.prog X.w) k f fd ps (spD X.K X.mg ps.length m)) (hr : Room k X.A) (hm : X.mg x = some (.ref f)) (hk : PySem.W.keepIn X.K (.ref f) = true) (hb : Binds X.K fd ps [])
    (tk : Takes X W.w) (ha : DA X W es fl) (hN : X.N[i]? = some y := by rfl) (hv : Vis X.env.scope y := by first | exact Or.inl rfl | exact Or.inr (Or.inl rfl) | exact Or.inr (Or.inr rfl)) (hd : (y == ("__debug__" : Str)) = false := by decide)
    (hcd : (y == ("__classdict__" : Str)) = false := by decide) (hg : Gl X x := by rfl) (hdb : (x == ("__debug__" : Str)) = false := by decide)
    (he : starEach (.Name y p2 :: es) X.env = (false, eval (.Name y p2) X.env) :: starEach es X.env := by rfl) (hpl : (backTo pos (starEach es X.env)).any (·.1) = false := by rfl) :
    DE X W (.Call (.Name x p) (.Name y p2 :: es) [] pos) (fCallM ps.length m i fl) := by
  obtain ⟨t, pa, ia⟩ := ha
  refine ⟨_, pe_gD F hr hg hm hk hb .nil (fun σ => passAt tk σ) (pa_cons (pe_var hN hv hd hcd) pa he) hdb he hpl, fun B ρ σ H O Q R p => ?_⟩
  unfold fCallM at p
  split at p
  · exact p.elim
  · rename_i xs0 h0
    obtain ⟨a, vs0, e1, hO, e3, _⟩ := R.listOf h0
    rw [rpost_bind] at p
    refine ⟨.ref a, e1, ia B ρ σ H O _ R (p.mono (fun ds ρ1 p ws H1 g r => ?_) fun _ _ _ e => e)⟩
    split at p
    · exact p.elim
    · rename_i xs h1
      obtain ⟨a', vs, f1, _, f3, f4⟩ := g.rep.listOf h1
      rw [e1] at f1
      cases f1
      split at p
      · rename_i hn
        refine ⟨Slot.par 0 (.lst xs) :: ds.map Slot.dat, O, [a], ?_, Nat.le_refl _, ?_, fun b hb => ⟨_, rfl⟩, ?_⟩
        · rw [List.append_nil, List.length_cons, r.1]
          exact hn
        · rw [List.append_nil]
          exact rep_mut g.rep.live hO f3 f4 r
        · have fr' : ∀ {H2 : Hp}, (∀ b o, H1 b = some o → b ∉ [a] → H2 b = some o) → ∀ b o, H1 b = some o → b ≠ a → H2 b = some o := fun h b o e n => h b o e fun z => n (List.mem_singleton.mp z)
          split at p
          · rename_i d ys q
            split at p
            · rename_i ρ2 h2
              rw [q]
              intro v H2 fr rv mt
              obtain ⟨c, ec, ca⟩ := mt a rfl
              cases ec
              obtain ⟨vs2, e2, r2⟩ := ca
              exact p v H2 (g.trans (g.rep.afterL h2 e1 (fr' fr) e2 r2)) rv
            · exact p.elim
          · rename_i ds2 ys q
            split at p
            · rename_i ρ2 h2
              rw [q]
              intro vs9 q9 H2 fr hq rv mt
              obtain ⟨c, ec, ca⟩ := mt a rfl
              cases ec
              obtain ⟨vs2, e2, r2⟩ := ca
              have g2 := g.trans (g.rep.afterL h2 e1 (fr' fr) e2 r2)
              have s2 := same_new (o := .lst vs9) hq
              have r9 := rv.kp (O' := O) (Same.kp s2)
              exact p _ _ (g2.trans (.same g2.rep s2)) (.lst upd_same (fresh_not g2.rep.live hq) r9.1 r9.2)
            · exact p.elim
          · rename_i c fs ys q
            split at p
            · rename_i ρ2 h2
              rw [q]
              intro C od H2 fr m1 er mt
              obtain ⟨c', ec, ca⟩ := mt a rfl
              cases ec
              obtain ⟨vs2, e2, r2⟩ := ca
              exact p C od H2 (g.trans (g.rep.afterL h2 e1 (fr' fr) e2 r2)) m1 er
            · exact p.elim
          · exact p.elim
      · exact p.elim
end

/-! ### own errors with one or two fields -/
/-- the promise of such an __init__ -/
def spX (K : PySem.W.Frag) (fs : List Str) : Sp := fun vs H Q _ => ∃ (a C : Addr) (ws : List V), vs = .ref a :: ws ∧ ws.length = fs.length ∧ OexC K C ∧ (∀ f, f ∈ fs → PySem.W.findIn K (.ref C) f = some none) ∧ H a = some (exo a C none) ∧
  ∀ d H', H d = none → d ≠ a → (∀ b, b ≠ a → b ≠ d → H' b = H b) → H' a = some (exo a C (some d)) → H' d = some (exd d (fs.zip ws).reverse) → Q .non H'
section
variable {P : Program} {w : World} {K : PySem.W.Frag} {mg : Str → Option Value} {base : Heap}
theorem exd_ne_own {dx x : Addr} {fs : List (Str × V)} : exd dx fs ≠ .own x := exd_own
theorem ok_init1 {x qual f1 p1 : Str} {st : Stmt} {f : Addr} {fd : FuncData} {k : Nat} {q1 q2 q3 q4 : Pos} (F : L2.Fun K x qual st f fd) (S : FnScope ["self", p1] ["self", p1] (defScope st))
    (hb : defBody st = [.Assign [.Attribute (.Name "self" q1) f1 q2] (.Name p1 q3) q4])
    (hs : ∀ (A : Around) (outer : List PySem.Env) (s : Shared) (H : Hp) (E : XK) (cdv : Value), swapsWith (.Name p1 q3) (some (.Attribute (.Name "self" q1) f1 q2)) q4.line (cxOf (L2.CX P w) P w K mg base ["self", p1] qual (defScope st) f cdv A outer s H E).env = pure false)
    (v0 : Vis (defScope st) "self") (v1 : Vis (defScope st) p1) (n1 : (p1 == ("__debug__" : Str)) = false) (n2 : (p1 == ("__classdict__" : Str)) = false) : L2.FnOk P w K mg base (L2.CX P w) (k + 1) f fd ["self", p1] (spX K [f1]) := by
  refine F.okX S (fun vs H Q E h => ?_) fun cdv A outer s H vs Q E hr h => ?_
  · obtain ⟨a, C, ws, rfl, hl, _⟩ := h
    rw [List.length_cons, hl]
    rfl
  · obtain ⟨a, C, ws, rfl, hl, T, nf, e, q⟩ := h
    obtain ⟨y, rfl⟩ : ∃ y, ws = [y] := by
      match ws, hl with
      | [y], _ => exact ⟨y, rfl⟩
    rw [hb]
    refine ⟨_, pss_one (ps_ost (pe_var (i := 0) rfl v0) (pe_var (i := 1) rfl v1 n1 n2) (hs A outer s H E cdv)), ?_⟩
    refine ⟨y, rfl, .ref a, rfl, a, C, rfl, T, nf f1 (by simp), .inl ⟨e, fun d hd ne => ?_⟩⟩
    refine q d _ hd ne (fun b h1 h2 => ?_) upd_same ?_
    · rw [upd_ne h1, upd_ne h2]
    · rw [upd_ne ne, upd_same]
      rfl
theorem ok_init2 {x qual f1 f2 p1 p2 : Str} {st : Stmt} {f : Addr} {fd : FuncData} {k : Nat} {q1 q2 q3 q4 q5 q6 q7 q8 : Pos} (F : L2.Fun K x qual st f fd) (S : FnScope ["self", p1, p2] ["self", p1, p2] (defScope st))
    (hb : defBody st = [.Assign [.Attribute (.Name "self" q1) f1 q2] (.Name p1 q3) q4, .Assign [.Attribute (.Name "self" q5) f2 q6] (.Name p2 q7) q8])
    (hs : ∀ (A : Around) (outer : List PySem.Env) (s : Shared) (H : Hp) (E : XK) (cdv : Value), swapsWith (.Name p1 q3) (some (.Attribute (.Name "self" q1) f1 q2)) q4.line (cxOf (L2.CX P w) P w K mg base ["self", p1, p2] qual (defScope st) f cdv A outer s H E).env = pure false)
    (hs2 : ∀ (A : Around) (outer : List PySem.Env) (s : Shared) (H : Hp) (E : XK) (cdv : Value), swapsWith (.Name p2 q7) (some (.Attribute (.Name "self" q5) f2 q6)) q8.line (cxOf (L2.CX P w) P w K mg base ["self", p1, p2] qual (defScope st) f cdv A outer s H E).env = pure false)
    (v0 : Vis (defScope st) "self") (v1 : Vis (defScope st) p1) (v2 : Vis (defScope st) p2) (n1 : (p1 == ("__debug__" : Str)) = false) (n2 : (p1 == ("__classdict__" : Str)) = false) (n3 : (p2 == ("__debug__" : Str)) = false) (n4 : (p2 == ("__classdict__" : Str)) = false) :
    L2.FnOk P w K mg base (L2.CX P w) (k + 1) f fd ["self", p1, p2] (spX K [f1, f2]) := by
  refine F.okX S (fun vs H Q E h => ?_) fun cdv A outer s H vs Q E hr h => ?_
  · obtain ⟨a, C, ws, rfl, hl, _⟩ := h
    rw [List.length_cons, hl]
    rfl
  · obtain ⟨a, C, ws, rfl, hl, T, nf, e, q⟩ := h
    obtain ⟨y, z, rfl⟩ : ∃ y z, ws = [y, z] := by
      match ws, hl with
      | [y, z], _ => exact ⟨y, z, rfl⟩
    rw [hb]
    refine ⟨_, pss_cons (ps_ost (pe_var (i := 0) rfl v0) (pe_var (i := 1) rfl v1 n1 n2) (hs A outer s H E cdv)) (pss_one (ps_ost (pe_var (i := 0) rfl v0) (pe_var (i := 2) rfl v2 n3 n4) (hs2 A outer s H E cdv))), ?_⟩
    refine ⟨y, rfl, .ref a, rfl, a, C, rfl, T, nf f1 (by simp), .inl ⟨e, fun d hd ne => ?_⟩⟩
    have ed : (upd (upd H d (exd d [(f1, y)])) a (exo a C (some d))) d = some (exd d [(f1, y)]) := by rw [upd_ne ne, upd_same]
    refine ⟨z, rfl, .ref a, rfl, a, C, rfl, T, nf f2 (by simp), .inr ⟨d, _, upd_same, ed, by simp, ?_⟩⟩
    refine q d _ hd ne (fun b h1 h2 => ?_) ?_ upd_same
    · rw [upd_ne h2, upd_ne h1, upd_ne h2]
    · rw [upd_ne ne.symm, upd_same]
end
/-- raise C(e, ..) -/
def gRaise (c : Str) (fs : List Str) (f : FL) : G := fun ρ => (f ρ).sr fun ds ρ1 => if ds.length = fs.length then .err c (fs.zip ds) ρ1 else .stuck
/-- what is known of an own error class -/
structure ErrC (K : PySem.W.Frag) (mg : Str → Option Value) (c : Str) (C fI : Addr) (fs : List Str) : Prop where
  oex : OexC K C
  at_ : mg c = some (.ref C)
  no : ∀ f, f ∈ fs → PySem.W.findIn K (.ref C) f = some none
  init : PySem.W.findIn K (.ref C) "__init__" = some (some (.ref fI))
  ty : PySem.W.typeIn K (.ref fI) = some (.type "function")
  nd : fs.Nodup
  few : fs.length ≤ 900
theorem lookup_zip_rev {α : Type} : ∀ {fs : List Str} {ws : List α} {f : Str} {i : Nat} {x : α}, fs.Nodup → fs[i]? = some f → ws[i]? = some x → (fs.zip ws).reverse.lookup f = some x := by
  intro fs ws f i x nd h1 h2
  have mem : (f, x) ∈ (fs.zip ws).reverse := by
    rw [List.mem_reverse]
    exact List.mem_of_getElem? (i := i) (by rw [List.getElem?_zip_eq_some]; exact ⟨h1, h2⟩)
  have uniq : ∀ y, (f, y) ∈ (fs.zip ws).reverse → y = x := fun y hy => by
    rw [List.mem_reverse] at hy
    obtain ⟨j, hj⟩ := List.mem_iff_getElem?.mp hy
    rw [List.getElem?_zip_eq_some] at hj
    have e : i = j := (List.getElem?_inj (List.getElem?_eq_some_iff.mp h1).1 nd).mp (h1.trans hj.1.symm)
    subst e
    have := hj.2
    rw [h2] at this
    exact (Option.some.inj this).symm
  generalize (fs.zip ws).reverse = l at mem uniq
  induction l with
  | nil => cases mem
  | cons p l ih =>
    obtain ⟨g, y⟩ := p
    by_cases e : f = g
    · subst e
      rw [uniq y (List.mem_cons_self ..)]
      simp [List.lookup]
    · have hb : (f == g) = false := by simpa using e
      rw [List.lookup_cons, hb]
      refine ih ?_ fun z hz => uniq z (List.mem_cons_of_mem _ hz)
      rcases List.mem_cons.mp mem with h | h
      · cases h
        exact absurd rfl e
      · exact h
theorem lookup_zip {α : Type} : ∀ {fs : List Str} {ws : List α} {f : Str} {x : α}, (fs.zip ws).lookup f = some x → ∃ i : Nat, fs[i]? = some f ∧ ws[i]? = some x
  | [], _, _, _, h => by simp at h
  | _ :: _, [], _, _, h => by simp at h
  | g :: fs, y :: ws, f, x, h => by
    rw [List.zip_cons_cons, List.lookup_cons] at h
    by_cases e : f = g
    · subst e
      simp at h
      exact ⟨0, rfl, by rw [h]; rfl⟩
    · have hb : (f == g) = false := by simpa using e
      rw [hb] at h
      obtain ⟨i, h1, h2⟩ := lookup_zip h
      exact ⟨i + 1, h1, h2⟩
section
variable {X : Cx} {W : Wi} {c : Str} {C fI : Addr} {fs : List Str} {k : Nat} {fd : FuncData} {ps : List Str} {p pos pos2 : Pos} {e : Expr} {es : List Expr} {fl : FL}
theorem ds_raise (hc : X.calm = true) (T : ErrC X.K X.mg c C fI fs) (F : L2.FnOk X.prog X.w X.K X.mg X.base (L2.CX X.prog X.w) k fI fd ps (spX X.K fs)) (hr : Room (k + 1) X.A) (hb : Binds X.K fd ps []) (tk : Takes X W.w) (ha : DA X W (e :: es) fl) (hg : Gl X c := by rfl)
    (hdb : (c == ("__debug__" : Str)) = false := by decide) (he : starEach (e :: es) X.env = (false, eval e X.env) :: starEach es X.env := by rfl) (hpl : (backTo pos (starEach es X.env)).any (·.1) = false := by rfl) :
    DS X W (.Raise (some (.Call (.Name c p) (e :: es) [] pos)) none pos2) (gRaise c fs fl) := by
  obtain ⟨t, pa, ia⟩ := ha
  refine ⟨_, ps_raise hc tk (pmk_oex T.oex T.init T.ty F hr hb .nil (fun _ _ _ _ _ _ _ h => by
    obtain ⟨_, _, _, _, _, _, _, _, _, _, _, _, z⟩ := h
    exact z.elim) hg T.at_ pa hdb he hpl), fun B ρ σ H O D R p => ?_⟩
  refine ia B ρ σ H O _ R ((spost_sr R p).mono (fun ds ρ1 p vs H1 g r => ?_) fun _ _ _ e => e)
  have p := p H1 g
  split at p
  · rename_i hl
    refine ⟨by rw [r.1, hl]; exact Nat.le_trans T.few (by decide), fun a ha => ⟨a, C, vs, by rw [List.append_nil], r.1.trans hl, T.oex, T.no, upd_same, fun d H2 hd ne o1 o2 o3 => ?_⟩⟩
    have hd1 : H1 d = none := by
      rw [upd_ne ne] at hd
      exact hd
    refine ⟨rfl, d, _, o2, o3, hd1, ?_⟩
    -- the heap behind it: what stood, and the exception's own dict
    let H3 : Hp := upd (del H2 a) d (.xd (fs.zip vs).reverse)
    have s3 : Same H1 H3 := fun b o eb => by
      have n1 : b ≠ a := ne_of_none eb ha
      have n2 : b ≠ d := ne_of_none eb hd1
      show upd (del H2 a) d _ b = some o
      rw [upd_ne n2, del_ne n1, o1 b n1 n2, upd_ne n1]
      exact eb
    have k3 : Kp H1 O H3 O := Same.kp s3
    refine p C (some d) σ H3 O k3 (g.rep.same s3) T.at_ (.inr ⟨d, (fs.zip vs).reverse, rfl, upd_same, fresh_not g.rep.live hd1, fun f x hx => ?_⟩)
    obtain ⟨i, i1, i2⟩ := lookup_zip hx
    obtain ⟨v, v1, v2⟩ := r.get i2
    exact ⟨v, lookup_zip_rev T.nd i1 v1, v2.kp k3⟩
  · exact p.elim
end
end DL

set_option Elab.async false
set_option linter.all false
set_option maxRecDepth 100000
/-! DL9: try. -/
namespace DL
open PySem PySem.Spec PyProof.Rows L2

def Slot.isExc : Slot → Bool
  | .exc _ _ => true
  | _ => false
def noExc (ρ : En) : Bool := ρ.all fun o => match o with
  | some s => !s.isExc
  | none => true
theorem noExc_at {ρ : En} (h : noExc ρ = true) {i : Nat} {s : Slot} (e : ρ[i]? = some (some s)) : s.isExc = false := by
  have := List.all_eq_true.mp h _ (List.mem_of_getElem? e)
  simpa using this
section
variable {K : PySem.W.Frag} {mg : Str → Option Value} {B : Base} {O : Av} {ρ : En} {σ : Sl} {H : Hp} {i : Nat} {a : Addr} {od : Option Addr} {c : Str} {fs : List (Str × D)}
theorem SlotAt.rebase {B' : Base} {s : Slot} {v : V} (h : SlotAt K mg B H O s v) (n : s.isExc = false) (e0 : B'.H0 = B.H0) (e1 : B'.pa = B.pa) : SlotAt K mg B' H O s v := by
  cases s with
  | dat d => exact h
  | own ds => obtain ⟨a, h1, h2, h3, h4⟩ := h; exact ⟨a, h1, h2, e0 ▸ h3, h4⟩
  | par k c => obtain ⟨a, h1, h2, h3, h4⟩ := h; exact ⟨a, h1, h2, e1 ▸ h3, h4⟩
  | exc c fs => cases n
theorem Rep.rebase {xa : Addr} {xd : Option Addr} {xc : Value} (R : Rep K mg B O ρ σ H) (n : noExc ρ = true) : Rep K mg { B with xa := xa, xd := xd, xc := xc } O ρ σ H where
  len := R.len
  slot := fun j s h => by
    obtain ⟨v, h1, h2⟩ := R.slot j s h
    exact ⟨v, h1, h2.rebase (noExc_at n h) rfl rfl⟩
  apart := R.apart
  base := R.base
  live := R.live
  o0 := R.o0
  b0 := R.b0
  pao := R.pao
theorem Rep.unbase {xa : Addr} {xd : Option Addr} {xc : Value} (R : Rep K mg { B with xa := xa, xd := xd, xc := xc } O ρ σ H) (n : noExc ρ = true) : Rep K mg B O ρ σ H where
  len := R.len
  slot := fun j s h => by
    obtain ⟨v, h1, h2⟩ := R.slot j s h
    exact ⟨v, h1, h2.rebase (noExc_at n h) rfl rfl⟩
  apart := R.apart
  base := R.base
  live := R.live
  o0 := R.o0
  b0 := R.b0
  pao := R.pao
/-- a name is given a value that is no list of one's own -/
theorem Rep.setS {v : V} {s : Slot} (R : Rep K mg B O ρ σ H) (hm : s.mu = false) (r : SlotAt K mg B H O s v) : Rep K mg B O (ρ.set i (some s)) (σ.set i (some v)) H where
  len := by rw [List.length_set, List.length_set, R.len]
  slot := fun j t h => by
    by_cases hj : i = j
    · subst hj
      have l : i < (ρ.set i (some s)).length := (List.getElem?_eq_some_iff.mp h).1
      rw [List.length_set] at l
      rw [List.getElem?_set_self l] at h
      cases h
      exact ⟨v, List.getElem?_set_self (R.len ▸ l), r⟩
    · rw [List.getElem?_set_ne hj] at h
      obtain ⟨w, h1, h2⟩ := R.slot j t h
      exact ⟨w, (List.getElem?_set_ne hj).trans h1, h2⟩
  apart := fun j k t u b h1 h2 m1 m2 e1 e2 => by
    have key : ∀ {j : Nat} {t : Slot}, (ρ.set i (some s))[j]? = some (some t) → t.mu = true → i ≠ j := fun {j t} h m e => by
      subst e
      have l : i < (ρ.set i (some s)).length := (List.getElem?_eq_some_iff.mp h).1
      rw [List.length_set] at l
      rw [List.getElem?_set_self l] at h
      cases h
      rw [hm] at m
      cases m
    have n1 := key h1 m1
    have n2 := key h2 m2
    rw [List.getElem?_set_ne n1] at h1 e1
    rw [List.getElem?_set_ne n2] at h2 e2
    exact R.apart j k t u b h1 h2 m1 m2 e1 e2
  base := R.base
  live := R.live
  o0 := R.o0
  b0 := R.b0
  pao := R.pao
/-- a name goes -/
theorem Rep.drop (R : Rep K mg B O ρ σ H) (i : Nat) : Rep K mg B O (ρ.set i none) (σ.set i none) H where
  len := by rw [List.length_set, List.length_set, R.len]
  slot := fun j t h => by
    by_cases hj : i = j
    · subst hj
      have l : i < (ρ.set i none).length := (List.getElem?_eq_some_iff.mp h).1
      rw [List.length_set] at l
      rw [List.getElem?_set_self l] at h
      cases h
    · rw [List.getElem?_set_ne hj] at h
      obtain ⟨w, h1, h2⟩ := R.slot j t h
      exact ⟨w, (List.getElem?_set_ne hj).trans h1, h2⟩
  apart := fun j k t u b h1 h2 m1 m2 e1 e2 => by
    have key : ∀ {j : Nat} {t : Slot}, (ρ.set i none)[j]? = some (some t) → i ≠ j := fun {j t} h e => by
      subst e
      have l : i < (ρ.set i none).length := (List.getElem?_eq_some_iff.mp h).1
      rw [List.length_set] at l
      rw [List.getElem?_set_self l] at h
      cases h
    have n1 := key h1
    have n2 := key h2
    rw [List.getElem?_set_ne n1] at h1 e1
    rw [List.getElem?_set_ne n2] at h2 e2
    exact R.apart j k t u b h1 h2 m1 m2 e1 e2
  base := R.base
  live := R.live
  o0 := R.o0
  b0 := R.b0
  pao := R.pao
end
/-- the canonical reading of a block -/
def tDS (X : Cx) (W : Wi) (g : G) : TS := fun D σ H => ∃ (B : W.BB) (ρ : En) (O : Av), Rep X.K X.mg B.1 O ρ σ H ∧ SPost X B.1 W D H O (g ρ)
theorem SPost.cx {X X' : Cx} {B : Base} {W : Wi} {D : Ends} {H : Hp} {O : Av} (hK : X'.K = X.K) (hm : X'.mg = X.mg) : ∀ {r : SR}, SPost X B W D H O r → SPost X' B W D H O r
  | .nx ρ', p => fun σ' H' O' k R => p σ' H' O' k (by rw [hK, hm] at R; exact R)
  | .bk ρ', p => fun σ' H' O' k R => p σ' H' O' k (by rw [hK, hm] at R; exact R)
  | .ct ρ', p => fun σ' H' O' k R => p σ' H' O' k (by rw [hK, hm] at R; exact R)
  | .rt d ρ', p => fun v σ' H' O' k R r => p v σ' H' O' k (by rw [hK, hm] at R; exact R) (by rw [hK, hm] at r; exact r)
  | .rtn ds ρ', p => fun vs q σ' H' O' k R hq r => p vs q σ' H' O' k (by rw [hK, hm] at R; exact R) hq (by rw [hK, hm] at r; exact r)
  | .err c fs ρ', p => fun C od σ' H' O' k R m er => p C od σ' H' O' k (by rw [hK, hm] at R; exact R) (by rw [hm] at m; exact m) (by rw [hK, hm] at er; exact er)
  | .stuck, p => p
theorem DSs.canon {X X' : Cx} {W : Wi} {st : List Stmt} {g : G} (hK : X'.K = X.K) (hm : X'.mg = X.mg) (h : DSs X' W st g) : PSs X' st (tDS X W g) := by
  obtain ⟨t, p, i⟩ := h
  refine ⟨fun pins s σ H D I hh => p.run pins s σ H D I ?_⟩
  obtain ⟨B, ρ, O, R, hp⟩ := hh
  exact i B ρ σ H O D (by rw [hK, hm]; exact R) (SPost.cx hK hm hp)
/-- the wish of an except suite that is not left by an error; the handled exception is at a -/
def WS (a : Addr) (cls : Value) (d : Option Addr) : Wi := ⟨fun _ _ _ _ => False, fun B => B.xa = a ∧ B.xd = d ∧ B.xc = cls⟩
/-- what a suite with a name does -/
def suiteAs (i : Nat) (g : G) (c : Str) (fs : List (Str × D)) : G := fun ρ => if noExc ρ = true then (match g (ρ.set i (some (.exc c fs))) with
  | .nx ρ2 => if noExc (ρ2.set i none) = true then .nx (ρ2.set i none) else .stuck
  | .rt d ρ2 => if noExc (ρ2.set i none) = true then .rt d (ρ2.set i none) else .stuck
  | .rtn ds ρ2 => if noExc (ρ2.set i none) = true then .rtn ds (ρ2.set i none) else .stuck
  | .bk ρ2 => if noExc (ρ2.set i none) = true then .bk (ρ2.set i none) else .stuck
  | .ct ρ2 => if noExc (ρ2.set i none) = true then .ct (ρ2.set i none) else .stuck
  | _ => .stuck) else .stuck
def gTryAs (body : G) (cat : Str → Option Bool) (i : Nat) (g : G) : G := fun ρ => match body ρ with
  | .err c fs ρ1 => (match cat c with
    | some true => suiteAs i g c fs ρ1
    | some false => .err c fs ρ1
    | none => .stuck)
  | r => r
section
variable {X : Cx} {W : Wi} {x n : Str} {cv : Value} {i : Nat} {body suite : List Stmt} {b₀ : Stmt} {np pos pos' : Pos} {gb gs : G} {cat : Str → Option Bool}
theorem ds_try_as (hs : X.stack = X.env :: X.outer) (hf : X.env.frame = some X.env.locals) (hN : X.N.Nodup) (hc : Names X x cv) (tk : Takes X W.w)
    (hcat : ∀ c b C, cat c = some b → X.mg c = some (.ref C) → PySem.W.exmOne X.K (.ref C) cv = some b)
    (hb : ∀ (Wx : WX) (pn : List (Addr × Obj)) (xe : Value → Shared → Prop), Takes (X.tr pn xe) Wx → PassesOwn (model X.prog X.w) X.A X.env xe → DSs (X.tr pn xe) ⟨Wx, W.b⟩ body gb)
    (hsu : ∀ (a : Addr) (oe : Obj) (cls : Value) (d : Option Addr) (pn : List (Addr × Obj)), Zc cls d oe → (∃ vs, oe.data = .fields vs) → DSs (X.suite a ((a, oe) :: pn)) (WS a cls d) (b₀ :: suite) gs)
    (hi : X.N[i]? = some n := by rfl) (hln : X.env.kindOf n = some .local := by rfl) :
    DS X W (.Try body [.ExceptHandler (some (.Name x np)) (some n) (b₀ :: suite) pos'] [] [] pos) (gTryAs gb cat i gs) := by
  refine ⟨_, ps_try_as (tb := fun Wx => tDS X ⟨Wx, W.b⟩ gb) (ts := fun a cls d => tDS X (WS a cls d) gs) hs hf hN hi hln hc tk (fun Wx pn xe t p => (hb Wx pn xe t p).canon rfl rfl) (fun a oe cls d pn hz hv => (hsu a oe cls d pn hz hv).canon rfl rfl), fun B ρ σ H O D R p => ?_⟩
  refine ⟨B, ρ, O, R, ?_⟩
  unfold gTryAs at p
  cases q : gb ρ with
  | nx ρ1 => rw [q] at p; exact p
  | bk ρ1 => rw [q] at p; exact p
  | ct ρ1 => rw [q] at p; exact p
  | rt d ρ1 => rw [q] at p; exact p
  | rtn ds ρ1 => rw [q] at p; exact p
  | stuck => rw [q] at p; exact p
  | err c fs ρ1 =>
    rw [q] at p
    intro C od σ1 H1 O1 k1 R1 m1 er
    dsimp only at p
    cases qc : cat c with
    | none => rw [qc] at p; exact p.elim
    | some b =>
      rw [qc] at p
      refine ⟨b, hcat c b C qc m1, fun hbt a ha => ?_, fun hbf => ?_⟩
      · subst hbt
        unfold suiteAs at p
        dsimp only at p
        split at p
        rotate_left
        · exact p.elim
        rename_i hne
        let B' : Base := { B.1 with xa := a, xd := od, xc := .ref C }
        have R2 : Rep X.K X.mg B' O1 (ρ1.set i (some (.exc c fs))) (σ1.set i (some (.ref a))) H1 := (R1.rebase hne).setS rfl ⟨rfl, ⟨C, m1, rfl⟩, er⟩
        refine ⟨⟨B', rfl, rfl, rfl⟩, _, O1, R2, ?_⟩
        have back : ∀ {ρ2 : En} {σ2 : Sl} {H2 : Hp} {O2 : Av}, noExc (ρ2.set i none) = true → Rep X.K X.mg B' O2 ρ2 σ2 H2 → Rep X.K X.mg B.1 O2 (ρ2.set i none) (σ2.set i none) H2 := fun {ρ2 σ2 H2 O2} n2 R' => (R'.drop i).unbase n2
        cases qs : gs (ρ1.set i (some (.exc c fs))) with
        | stuck => rw [qs] at p; exact p.elim
        | err c fs ρ2 => rw [qs] at p; exact p.elim
        | nx ρ2 =>
          rw [qs] at p
          dsimp only at p
          split at p
          · rename_i n2
            exact fun σ2 H2 O2 k2 R' => p _ H2 O2 (k1.trans k2) (back n2 R')
          · exact p.elim
        | bk ρ2 =>
          rw [qs] at p
          dsimp only at p
          split at p
          · rename_i n2
            exact fun σ2 H2 O2 k2 R' => p _ H2 O2 (k1.trans k2) (back n2 R')
          · exact p.elim
        | ct ρ2 =>
          rw [qs] at p
          dsimp only at p
          split at p
          · rename_i n2
            exact fun σ2 H2 O2 k2 R' => p _ H2 O2 (k1.trans k2) (back n2 R')
          · exact p.elim
        | rt d ρ2 =>
          rw [qs] at p
          dsimp only at p
          split at p
          · rename_i n2
            exact fun v σ2 H2 O2 k2 R' rv => p v _ H2 O2 (k1.trans k2) (back n2 R') rv
          · exact p.elim
        | rtn ds ρ2 =>
          rw [qs] at p
          dsimp only at p
          split at p
          · rename_i n2
            exact fun vs q2 σ2 H2 O2 k2 R' hq rv => p vs q2 _ H2 O2 (k1.trans k2) (back n2 R') hq rv
          · exact p.elim
      · subst hbf
        exact p C od σ1 H1 O1 k1 R1 m1 er
/-- e.f of the handled exception -/
def fXf (i : Nat) (c0 f : Str) : F := fun ρ => match ρ[i]? with
  | some (some (.exc c fs)) => if c = c0 then (match fs.lookup f with
    | some d => .ok d ρ
    | none => .stuck) else .stuck
  | _ => .stuck
end
theorem de_xf {X : Cx} {a : Addr} {oe : Obj} {cls : Value} {d : Option Addr} {pn : List (Addr × Obj)} {C0 : Addr} {n f c0 : Str} {np pos : Pos} {i : Nat} (T : XfC X.K C0) (hno : PySem.W.findIn X.K (.ref C0) f = some none) (hz : Zc cls d oe) (hv : ∃ vs, oe.data = .fields vs) (hcls : X.mg c0 = some (.ref C0))
    (hN : X.N[i]? = some n := by rfl) (hvis : Vis X.env.scope n := by first | exact Or.inl rfl | exact Or.inr (Or.inl rfl) | exact Or.inr (Or.inr rfl)) (hd : (n == ("__debug__" : Str)) = false := by decide) (hcd : (n == ("__classdict__" : Str)) = false := by decide)
    (hb : attributeBase (.Name n np) f (X.suite a ((a, oe) :: pn)).env (eval (.Name n np) (X.suite a ((a, oe) :: pn)).env) = eval (.Name n np) (X.suite a ((a, oe) :: pn)).env := by rfl) :
    DE (X.suite a ((a, oe) :: pn)) (WS a cls d) (.Attribute (.Name n np) f pos) (fXf i c0 f) := by
  refine ⟨_, pe_xf T hno hz hv (pe_var (i := i) hN hvis hd hcd) hb, fun B ρ σ H O Q R p => ?_⟩
  unfold fXf at p
  split at p
  · rename_i c fs h
    split at p
    · rename_i hcc
      subst hcc
      split at p
      · rename_i dd hl
        obtain ⟨v, h1, e1, ⟨C1, m1, m2⟩, er⟩ := R.slot i _ h
        have ba : B.1.xa = a := B.2.1
        have bd : B.1.xd = d := B.2.2.1
        have bc : B.1.xc = cls := B.2.2.2
        have m1 : X.mg c = some (.ref C1) := m1
        rw [hcls] at m1
        cases m1
        rw [ba] at e1
        rw [bd] at er
        rcases er with ⟨_, e⟩ | ⟨ad, xfs, e2, e3, _, e4⟩
        · rw [e] at hl
          cases hl
        · obtain ⟨v', l1, r1⟩ := e4 f dd hl
          exact ⟨v, h1, e1, bc.symm.trans m2, ad, xfs, v', e2, e3, l1, p v' H (Go.refl R) r1⟩
      · exact p.elim
    · exact p.elim
  · exact p.elim
end DL

set_option Elab.async false
set_option linter.all false
set_option maxRecDepth 100000
/-! DLA: operations by data. -/
namespace DL
open PySem PySem.Spec PyProof.Rows L2

def intOp (C : Int → Int → Bool) (g : Int → Int → D) : D → D → Option D := fun a b => match a, b with
  | .int i, .int j => if C i j = true then some (g i j) else none
  | _, _ => none
def intOp0 (g : Int → Int → D) : D → D → Option D := fun a b => match a, b with
  | .int i, .int j => some (g i j)
  | _, _ => none
section
variable {X : Cx}
theorem op2I {f : Value → Value → Sem Value} {C : Int → Int → Prop} {c : Int → Int → Bool} {g : Int → Int → V} {gd : Int → Int → D} (h : OpR X f (rI C g)) (hc : ∀ i j, c i j = true → C i j) (r : ∀ i j H O, Rp X.K X.mg H O (g i j) (gd i j)) : Op2 X f (intOp c gd) := by
  refine ⟨_, h, fun H O x y a b d Q lv rx ry e q => ?_⟩
  unfold intOp at e
  split at e
  · rename_i i j
    split at e
    · rename_i hcc
      cases e
      exact ⟨i, j, rx.int_inv, ry.int_inv, hc i j hcc, q _ H (Same.refl H) (r i j H O)⟩
    · cases e
  · cases e
theorem op2I0 {f : Value → Value → Sem Value} {g : Int → Int → V} {gd : Int → Int → D} (h : OpR X f (rI0 g)) (r : ∀ i j H O, Rp X.K X.mg H O (g i j) (gd i j)) : Op2 X f (intOp0 gd) := by
  refine ⟨_, h, fun H O x y a b d Q lv rx ry e q => ?_⟩
  unfold intOp0 at e
  split at e
  · rename_i i j
    cases e
    exact ⟨i, j, rx.int_inv, ry.int_inv, q _ H (Same.refl H) (r i j H O)⟩
  · cases e
def addI := intOp0 fun i j => .int (i + j)
def subI := intOp0 fun i j => .int (i - j)
def mulC (i j : Int) : Bool := decide (Builtin.Int.intBits i ≤ 60000000) && decide (Builtin.Int.intBits j ≤ 60000000)
def mulI := intOp mulC fun i j => .int (i * j)
def modI := intOp (fun _ j => decide (0 < j)) fun i j => .int (i % j)
def fdvC (_ j : Int) : Bool := decide (0 < j) && decide (j.natAbs.log2 < 9000)
def fdvI := intOp fdvC fun i j => .int (i / j)
def shlC (i j : Int) : Bool := decide (0 ≤ j) && (decide (j.toNat ≤ 60000000) && decide (Builtin.Int.intBits i ≤ 60000000))
def shlI := intOp shlC fun i j => .int (i * 2 ^ j.toNat)
def shrI := intOp (fun _ j => decide (0 ≤ j)) fun i j => .int (i / 2 ^ j.toNat)
def andI := intOp0 fun i j => .int (Builtin.bitAnd i j)
def powC (i j : Int) : Bool := decide (0 ≤ j) && (decide (j ≤ 1000000) && decide (i.natAbs < 2 ^ 64))
def powI := intOp powC fun i j => .int (i ^ j.toNat)
def ltI := intOp0 fun i j => .bl (decide (i < j))
def leI := intOp0 fun i j => .bl (decide (i ≤ j))
def gtI := intOp0 fun i j => .bl (decide (j < i))
def geI := intOp0 fun i j => .bl (decide (j ≤ i))
theorem o_addI : Op2 X (binaryOp .Add) addI := op2I0 op_add fun i j H O => .int _
theorem o_subI : Op2 X (binaryOp .Sub) subI := op2I0 op_sub fun i j H O => .int _
theorem o_mulI : Op2 X (binaryOp .Mult) mulI := op2I op_mulX (fun i j h => by
  obtain ⟨h1, h2⟩ := Bool.and_eq_true_iff.mp h
  have h1 := of_decide_eq_true h1
  have h2 := of_decide_eq_true h2
  show (Builtin.Int.intBits i : Int) + (Builtin.Int.intBits j : Int) ≤ 134217728
  omega) fun i j H O => .int _
theorem o_modI : Op2 X (binaryOp .Mod) modI := op2I op_mod (fun i j h => of_decide_eq_true h) fun i j H O => .int _
theorem o_fdvI : Op2 X (binaryOp .FloorDiv) fdvI := op2I op_fdivW (fun i j h => by
  obtain ⟨h1, h2⟩ := Bool.and_eq_true_iff.mp h
  exact ⟨of_decide_eq_true h1, of_decide_eq_true h2⟩) fun i j H O => .int _
theorem o_shlI : Op2 X (binaryOp .LShift) shlI := op2I op_shlW (fun i j h => by
  obtain ⟨h1, h2⟩ := Bool.and_eq_true_iff.mp h
  obtain ⟨h2, h3⟩ := Bool.and_eq_true_iff.mp h2
  have h1 := of_decide_eq_true h1
  have h2 := of_decide_eq_true h2
  have h3 := of_decide_eq_true h3
  exact ⟨h1, by omega⟩) fun i j H O => .int _
theorem o_shrI : Op2 X (binaryOp .RShift) shrI := op2I op_shr (fun i j h => of_decide_eq_true h) fun i j H O => .int _
theorem o_andI : Op2 X (binaryOp .BitAnd) andI := op2I0 op_and fun i j H O => .int _
theorem o_powI : Op2 X (binaryOp .Pow) powI := op2I op_pow (fun i j h => by
  obtain ⟨h1, h2⟩ := Bool.and_eq_true_iff.mp h
  obtain ⟨h2, h3⟩ := Bool.and_eq_true_iff.mp h2
  exact ⟨of_decide_eq_true h1, of_decide_eq_true h2, of_decide_eq_true h3⟩) fun i j H O => .int _
theorem o_ltI : Op2 X (compareOp .Lt) ltI := op2I0 op_lt fun i j H O => .bl _
theorem o_leI : Op2 X (compareOp .LtE) leI := op2I0 op_le fun i j H O => .bl _
theorem o_gtI : Op2 X (compareOp .Gt) gtI := op2I0 op_gt fun i j H O => .bl _
theorem o_geI : Op2 X (compareOp .GtE) geI := op2I0 op_ge fun i j H O => .bl _
def negI : D → Option D
  | .int i => some (.int (-i))
  | _ => none
theorem o_negI : Op1 X (unaryOp .USub) negI := by
  refine ⟨_, un_neg, fun H O x a d Q lv rx e q => ?_⟩
  cases a with
  | int i => cases e; exact ⟨i, rx.int_inv, q _ H (Same.refl H) (.int _)⟩
  | _ => cases e
/-! tuples, lists: + and * -/
def addT : D → D → Option D := fun a b => match a, b with
  | .tup xs, .tup ys => if xs.length + ys.length ≤ sizeLine then some (.tup (xs ++ ys)) else none
  | _, _ => none
theorem Rp.tup_inv {K : PySem.W.Frag} {mg : Str → Option Value} {H : Hp} {O : Av} {v : V} {ds : List D} (h : Rp K mg H O v (.tup ds)) : ∃ a vs, v = .ref a ∧ TAt K H O a vs ∧ RpL K mg H O vs ds := by
  cases h with
  | tup h n e => exact ⟨_, _, rfl, h, n, e⟩
theorem Rp.lst_inv {K : PySem.W.Frag} {mg : Str → Option Value} {H : Hp} {O : Av} {v : V} {ds : List D} (h : Rp K mg H O v (.lst ds)) : ∃ a vs, v = .ref a ∧ H a = some (.lst vs) ∧ ¬ O a ∧ RpL K mg H O vs ds := by
  cases h with
  | lst h o n e => exact ⟨_, _, rfl, h, o, n, e⟩
theorem new_tup {K : PySem.W.Frag} {mg : Str → Option Value} {H : Hp} {O : Av} {vs : List V} {ds : List D} {p : Addr} (lv : ∀ z, O z → H z ≠ none) (hp : H p = none) (r : RpL K mg H O vs ds) : Rp K mg (upd H p (.tup vs)) O (.ref p) (.tup ds) := by
  have r2 := r.kp (O' := O) (Same.kp (same_new (o := .tup vs) hp))
  exact .tup (.inl ⟨.inl upd_same, fresh_not lv hp⟩) r2.1 r2.2
theorem new_lst {K : PySem.W.Frag} {mg : Str → Option Value} {H : Hp} {O : Av} {vs : List V} {ds : List D} {p : Addr} (lv : ∀ z, O z → H z ≠ none) (hp : H p = none) (r : RpL K mg H O vs ds) : Rp K mg (upd H p (.lst vs)) O (.ref p) (.lst ds) := by
  have r2 := r.kp (O' := O) (Same.kp (same_new (o := .lst vs) hp))
  exact .lst upd_same (fresh_not lv hp) r2.1 r2.2
theorem nil_iff {K : PySem.W.Frag} {mg : Str → Option Value} {H : Hp} {O : Av} {vs : List V} {ds : List D} (r : RpL K mg H O vs ds) : vs = [] ↔ ds = [] := by
  have := r.1
  cases vs <;> cases ds <;> simp_all
theorem o_addT : Op2 X (binaryOp .Add) addT := by
  refine ⟨_, op_catA, fun H O x y a b d Q lv rx ry e q => ?_⟩
  unfold addT at e
  split at e
  · rename_i xs ys
    split at e
    · rename_i hl
      cases e
      obtain ⟨p, us, rfl, tp, ru⟩ := rx.tup_inv
      obtain ⟨p', ws, rfl, tp', rw'⟩ := ry.tup_inv
      refine ⟨p, p', us, ws, rfl, rfl, tp.sq, tp'.sq, by rw [ru.1, rw'.1]; exact hl, fun e0 => ?_, fun n0 e0 => ?_, fun n0 n1 np hn => ?_⟩
      · rw [(nil_iff ru).mp e0] at q
        exact q _ H (Same.refl H) ry
      · rw [(nil_iff rw').mp e0, List.append_nil] at q
        exact q _ H (Same.refl H) rx
      · exact q _ _ (same_new hn) (new_tup lv hn (ru.app rw'))
    · cases e
  · cases e
def addL : D → D → Option D := fun a b => match a, b with
  | .lst xs, .lst ys => if xs.length + ys.length ≤ sizeLine then some (.lst (xs ++ ys)) else none
  | _, _ => none
theorem o_addL : Op2 X (binaryOp .Add) addL := by
  refine ⟨_, op_cat, fun H O x y a b d Q lv rx ry e q => ?_⟩
  unfold addL at e
  split at e
  · rename_i xs ys
    split at e
    · rename_i hl
      cases e
      obtain ⟨p, us, rfl, tp, _, ru⟩ := rx.lst_inv
      obtain ⟨p', ws, rfl, tp', _, rw'⟩ := ry.lst_inv
      exact ⟨p, p', us, ws, rfl, rfl, tp, tp', by rw [ru.1, rw'.1]; exact hl, fun np hn => q _ _ (same_new hn) (new_lst lv hn (ru.app rw'))⟩
    · cases e
  · cases e
def addS : D → D → Option D := fun a b => match a, b with
  | .str x, .str y => if x.length + y.length ≤ sizeLine then some (.str (x ++ y)) else none
  | _, _ => none
theorem o_addS : Op2 X (binaryOp .Add) addS := by
  refine ⟨_, op_add_str, fun H O x y a b d Q lv rx ry e q => ?_⟩
  unfold addS at e
  split at e
  · rename_i xs ys
    split at e
    · rename_i hl
      cases e
      exact ⟨xs, ys, rx.str_inv, ry.str_inv, hl, q _ H (Same.refl H) (.str _)⟩
    · cases e
  · cases e
def addD := alt2 addI (alt2 addT (alt2 addL addS))
theorem o_add : Op2 X (binaryOp .Add) addD := o_addI.alt (o_addT.alt (o_addL.alt o_addS))
def mulL : D → D → Option D := fun a b => match a, b with
  | .lst xs, .int k => if -(2 ^ 63) ≤ k ∧ k < 2 ^ 63 ∧ xs.length * k.toNat ≤ sizeLine then some (.lst (List.replicate k.toNat xs).flatten) else none
  | _, _ => none
theorem o_mulL : Op2 X (binaryOp .Mult) mulL := by
  refine ⟨_, op_rep, fun H O x y a b d Q lv rx ry e q => ?_⟩
  unfold mulL at e
  split at e
  · rename_i xs k
    split at e
    · rename_i hl
      cases e
      obtain ⟨p, us, rfl, tp, _, ru⟩ := rx.lst_inv
      exact ⟨p, k, us, rfl, ry.int_inv, tp, hl.1, hl.2.1, by rw [ru.1]; exact hl.2.2, fun np hn => q _ _ (same_new hn) (new_lst lv hn (ru.rep _))⟩
    · cases e
  · cases e
def mulT2 : D → D → Option D := fun a b => match a, b with
  | .tup xs, .int k => if xs ≠ [] ∧ 2 ≤ k ∧ k ≤ 1000 ∧ xs.length ≤ 1000 then some (.tup (List.replicate k.toNat xs).flatten) else none
  | _, _ => none
theorem o_mulT2 : Op2 X (binaryOp .Mult) mulT2 := by
  refine ⟨_, op_repT, fun H O x y a b d Q lv rx ry e q => ?_⟩
  cases a with
  | tup xs =>
    cases b with
    | int k =>
      by_cases hl : xs ≠ [] ∧ 2 ≤ k ∧ k ≤ 1000 ∧ xs.length ≤ 1000
      · have e' : some (D.tup (List.replicate k.toNat xs).flatten) = some d := by
          have h : mulT2 (.tup xs) (.int k) = some (.tup (List.replicate k.toNat xs).flatten) := if_pos hl
          rw [h] at e
          exact e
        cases e'
        obtain ⟨p, us, rfl, tp, ru⟩ := rx.tup_inv
        exact ⟨p, k, us, rfl, ry.int_inv, tp.sq, fun z => hl.1 ((nil_iff ru).mp z), hl.2.1, hl.2.2.1, by rw [ru.1]; exact hl.2.2.2, fun np hn => q _ _ (same_new hn) (new_tup lv hn (ru.rep _))⟩
      · have h : mulT2 (.tup xs) (.int k) = none := if_neg hl
        rw [h] at e
        cases e
    | _ => cases e
  | _ => cases e
/-! == and != -/
mutual
def D.py : D → Option PyData
  | .non => some .none
  | .bl b => some (.bool b)
  | .int i => some (.int i)
  | .str s => some (.str s)
  | .lst xs => (pyAll xs).map .list
  | .slst xs => (pyAll xs).map .list
  | .tup xs => (pyAll xs).map .tuple
  | .ins _ _ => none
  | .emp => none
def pyAll : List D → Option (List PyData)
  | [] => some []
  | x :: xs => match x.py, pyAll xs with
    | some p, some ps => some (p :: ps)
    | _, _ => none
end
mutual
theorem dp_of {K : PySem.W.Frag} {mg : Str → Option Value} {H : Hp} {O : Av} : ∀ (d : D) (v : V) (p : PyData), Rp K mg H O v d → d.py = some p → Dp K H v p
  | .non, v, p, r, e => by cases e; cases r; exact .non
  | .bl b, v, p, r, e => by cases e; cases r; exact .bl b
  | .int i, v, p, r, e => by cases e; cases r; exact .int i
  | .str s, v, p, r, e => by cases e; cases r; exact .str s
  | .lst xs, v, p, r, e => by
    rw [D.py] at e
    cases q : pyAll xs with
    | none => rw [q] at e; cases e
    | some ps =>
      rw [q] at e
      cases e
      cases r with
      | lst h o n el => exact .lst (SqL.of h) (dps_of xs _ ps ⟨n, el⟩ q)
  | .slst xs, v, p, r, e => by
    rw [D.py] at e
    cases q : pyAll xs with
    | none => rw [q] at e; cases e
    | some ps =>
      rw [q] at e
      cases e
      cases r with
      | slst h n el => exact .lst h.sq (dps_of xs _ ps ⟨n, el⟩ q)
  | .tup xs, v, p, r, e => by
    rw [D.py] at e
    cases q : pyAll xs with
    | none => rw [q] at e; cases e
    | some ps =>
      rw [q] at e
      cases e
      cases r with
      | tup h n el => exact .tup h.sq (dps_of xs _ ps ⟨n, el⟩ q)
  | .ins _ _, v, p, r, e => by cases e
  | .emp, v, p, r, e => by cases e
theorem dps_of {K : PySem.W.Frag} {mg : Str → Option Value} {H : Hp} {O : Av} : ∀ (ds : List D) (vs : List V) (ps : List PyData), RpL K mg H O vs ds → pyAll ds = some ps → DpAll K H vs ps
  | [], vs, ps, r, e => by
    cases e
    rw [(nil_iff r).mpr rfl]
    exact .nil
  | x :: xs, vs, ps, r, e => by
    rw [pyAll] at e
    cases q1 : x.py with
    | none => rw [q1] at e; cases e
    | some p =>
      cases q2 : pyAll xs with
      | none => rw [q1, q2] at e; cases e
      | some qs =>
        rw [q1, q2] at e
        cases e
        match vs, r with
        | [], r => exact nomatch r.1
        | v :: vs, r => exact .cons (dp_of x v p r.uncons.1 q1) (dps_of xs vs qs r.uncons.2 q2)
end
def eqvD (a b : D) : Option Bool := match a.py, b.py with
  | some p, some q => if (SeqAt.shaped p && SeqAt.shaped q) = true then some (PyData.eqv p q) else none
  | _, _ => none
def eqD : D → D → Option D := fun a b => (eqvD a b).map .bl
def neD : D → D → Option D := fun a b => (eqvD a b).map fun k => .bl (!k)
theorem eqv_at {K : PySem.W.Frag} {mg : Str → Option Value} {H : Hp} {O : Av} {x y : V} {a b : D} {k : Bool} (rx : Rp K mg H O x a) (ry : Rp K mg H O y b) (e : eqvD a b = some k) :
    ∃ p q, Dp K H x p ∧ Dp K H y q ∧ SeqAt.shaped p = true ∧ SeqAt.shaped q = true ∧ k = PyData.eqv p q := by
  unfold eqvD at e
  split at e
  · rename_i p q e1 e2
    split at e
    · rename_i hs
      cases e
      obtain ⟨s1, s2⟩ := Bool.and_eq_true_iff.mp hs
      exact ⟨p, q, dp_of a x p rx e1, dp_of b y q ry e2, s1, s2, rfl⟩
    · cases e
  · cases e
theorem o_eq (hu : X.A.units + 64 < cLine) : Op2 X (compareOp .Eq) eqD := by
  refine ⟨_, op_eqD hu, fun H O x y a b d Q lv rx ry e q => ?_⟩
  unfold eqD at e
  cases c : eqvD a b with
  | none => rw [c] at e; cases e
  | some k =>
    rw [c] at e
    cases e
    obtain ⟨p, p', h1, h2, h3, h4, h5⟩ := eqv_at rx ry c
    refine ⟨p, p', h1, h2, h3, h4, ?_⟩
    rw [← h5]
    exact q _ H (Same.refl H) (.bl k)
theorem o_ne (hu : X.A.units + 64 < cLine) : Op2 X (compareOp .NotEq) neD := by
  refine ⟨_, op_neD hu, fun H O x y a b d Q lv rx ry e q => ?_⟩
  unfold neD at e
  cases c : eqvD a b with
  | none => rw [c] at e; cases e
  | some k =>
    rw [c] at e
    cases e
    obtain ⟨p, p', h1, h2, h3, h4, h5⟩ := eqv_at rx ry c
    refine ⟨p, p', h1, h2, h3, h4, ?_⟩
    rw [← h5]
    exact q _ H (Same.refl H) (.bl (!k))
def isN : D → D → Option D := fun a b => match b with
  | .non => some (.bl (match a with
    | .non => true
    | _ => false))
  | _ => none
def notN : D → D → Option D := fun a b => match b with
  | .non => some (.bl (match a with
    | .non => false
    | _ => true))
  | _ => none
theorem o_isN : Op2 X (compareOp .Is) isN := by
  refine ⟨_, op_isN, fun H O x y a b d Q lv rx ry e q => ?_⟩
  cases b with
  | non =>
    cases e
    refine ⟨ry.non_inv, ?_⟩
    have r := q (.bl (decide (x = .non))) H (Same.refl H)
    refine r ?_
    cases rx <;> exact .bl _
  | _ => cases e
theorem o_notN : Op2 X (compareOp .IsNot) notN := by
  refine ⟨_, op_notN, fun H O x y a b d Q lv rx ry e q => ?_⟩
  cases b with
  | non =>
    cases e
    refine ⟨ry.non_inv, ?_⟩
    have r := q (.bl (!decide (x = .non))) H (Same.refl H)
    refine r ?_
    cases rx <;> exact .bl _
  | _ => cases e
/-! membership -/
def flatD : D → Bool
  | .non => true
  | .bl _ => true
  | .int _ => true
  | .str _ => true
  | _ => false
def eqFl : D → D → Bool
  | .non, .non => true
  | .bl a, .bl b => a == b
  | .bl a, .int b => (if a then 1 else 0) == b
  | .int a, .bl b => a == (if b then 1 else 0)
  | .int a, .int b => a == b
  | .str a, .str b => a == b
  | _, _ => false
def inF (neg : Bool) : D → D → Option D := fun a b => match seqOf b with
  | some xs => if (flatD a && xs.all flatD) = true then some (.bl (if neg = true then !(xs.any fun y => eqFl y a) else xs.any fun y => eqFl y a)) else none
  | none => none
theorem flat_v {K : PySem.W.Frag} {mg : Str → Option Value} {H : Hp} {O : Av} {v : V} {d : D} (r : Rp K mg H O v d) (f : flatD d = true) : flatV v = true := by
  cases r <;> first | rfl | (cases f; done)
theorem eqFl_v {K : PySem.W.Frag} {mg : Str → Option Value} {H : Hp} {O : Av} {v w : V} {d e : D} (r : Rp K mg H O v d) (r2 : Rp K mg H O w e) (f : flatD d = true) (f2 : flatD e = true) : eqV v w = eqFl d e := by
  cases r <;> first | (cases f; done) | (cases r2 <;> first | rfl | (cases f2; done))
theorem in_v {K : PySem.W.Frag} {mg : Str → Option Value} {H : Hp} {O : Av} {w : V} {e : D} (r2 : Rp K mg H O w e) (f2 : flatD e = true) : ∀ {vs : List V} {ds : List D}, RpL K mg H O vs ds → ds.all flatD = true → vs.all flatV = true ∧ inV w vs = ds.any fun y => eqFl y e
  | [], [], _, _ => ⟨rfl, rfl⟩
  | v :: vs, d :: ds, r, h => by
    rw [List.all_cons] at h
    obtain ⟨h1, h2⟩ := Bool.and_eq_true_iff.mp h
    obtain ⟨i1, i2⟩ := in_v r2 f2 r.uncons.2 h2
    refine ⟨?_, ?_⟩
    · rw [List.all_cons, flat_v r.uncons.1 h1, i1]
      rfl
    · unfold inV at i2 ⊢
      rw [List.any_cons, List.any_cons, i2, eqFl_v r.uncons.1 r2 h1 f2]
  | [], _ :: _, r, _ => nomatch r.1
  | _ :: _, [], r, _ => nomatch r.1
theorem in_at {neg : Bool} {H : Hp} {O : Av} {x y : V} {a b d : D} {Q : VK} (rx : Rp X.K X.mg H O x a) (ry : Rp X.K X.mg H O y b) (e : inF neg a b = some d) (q : ∀ v H', Same H H' → Rp X.K X.mg H' O v d → Q v H') : rIn X.K neg x y H Q := by
  unfold inF at e
  cases c : seqOf b with
  | none => rw [c] at e; cases e
  | some xs =>
    rw [c] at e
    dsimp only at e
    split at e
    · rename_i hf
      cases e
      obtain ⟨f1, f2⟩ := Bool.and_eq_true_iff.mp hf
      obtain ⟨l, p, vs, rfl, h1, h2⟩ := relsq_of ry c
      obtain ⟨i1, i2⟩ := in_v rx f1 h2 f2
      refine ⟨p, vs, rfl, ?_, flat_v rx f1, i1, ?_⟩
      · have h := h1 H O .refl
        cases l with
        | true => exact .inl h
        | false => exact .inr h
      · rw [i2]
        exact q _ H (Same.refl H) (.bl _)
    · cases e
theorem o_inF : Op2 X (compareOp .In) (inF false) := ⟨_, op_in_seq, fun H O x y a b d Q lv rx ry e q => in_at rx ry e q⟩
theorem o_notInF : Op2 X (compareOp .NotIn) (inF true) := ⟨_, op_notIn_seq, fun H O x y a b d Q lv rx ry e q => in_at rx ry e q⟩
/-- .. of data at any depth, in a list -/
def inDp (neg : Bool) : D → D → Option D := fun a b => match a.py, b.py with
  | some p, some (.list ps) => if (SeqAt.shaped p && SeqAt.shaped (.list ps)) = true then some (.bl (if neg = true then !(ps.any fun z => PyData.eqv z p) else ps.any fun z => PyData.eqv z p)) else none
  | _, _ => none
theorem inD_at {neg : Bool} {H : Hp} {O : Av} {x y : V} {a b d : D} {Q : VK} (rx : Rp X.K X.mg H O x a) (ry : Rp X.K X.mg H O y b) (e : inDp neg a b = some d) (q : ∀ v H', Same H H' → Rp X.K X.mg H' O v d → Q v H') :
    ∃ p ps, Dp X.K H x p ∧ Dp X.K H y (.list ps) ∧ SeqAt.shaped p = true ∧ SeqAt.shaped (.list ps) = true ∧ Q (.bl (if neg = true then !(ps.any fun z => PyData.eqv z p) else ps.any fun z => PyData.eqv z p)) H := by
  unfold inDp at e
  split at e
  · rename_i p ps e1 e2
    split at e
    · rename_i hs
      cases e
      obtain ⟨s1, s2⟩ := Bool.and_eq_true_iff.mp hs
      exact ⟨p, ps, dp_of a x p rx e1, dp_of b y _ ry e2, s1, s2, q _ H (Same.refl H) (.bl _)⟩
    · cases e
  · cases e
theorem o_inD (hu : X.A.units + 65 < cLine) : Op2 X (compareOp .In) (inDp false) := ⟨_, op_inD hu, fun H O x y a b d Q lv rx ry e q => by
  obtain ⟨p, ps, h1, h2, h3, h4, h5⟩ := inD_at rx ry e q
  exact ⟨p, ps, h1, h2, h3, h4, h5⟩⟩
theorem o_notInD (hu : X.A.units + 65 < cLine) : Op2 X (compareOp .NotIn) (inDp true) := ⟨_, op_notInD hu, fun H O x y a b d Q lv rx ry e q => by
  obtain ⟨p, ps, h1, h2, h3, h4, h5⟩ := inD_at rx ry e q
  exact ⟨p, ps, h1, h2, h3, h4, h5⟩⟩
/-! subscripts -/
def ixSeq : D → D → Option D := fun a b => match seqOf a, b with
  | some xs, .int i => atI xs i
  | _, _ => none
def ixStr : D → D → Option D := fun a b => match a, b with
  | .str z, .int i => if z.length ≤ sizeLine then (atI z.cps.toList i).map fun c => .str ⟨#[c]⟩ else none
  | _, _ => none
theorem x_seq : Ix2 X ixSeq := by
  refine ⟨_, IxR.or ix_list ix_tup, fun H O x y a b d Q lv rx ry e q => ?_⟩
  unfold ixSeq at e
  split at e
  · rename_i xs i c
    obtain ⟨l, p, vs, rfl, h1, h2⟩ := relsq_of rx c
    obtain ⟨v, hv, rv⟩ := atI_rp h2 e
    have h := h1 H O .refl
    cases l with
    | true => exact .inl ⟨p, vs, i, v, rfl, ry.int_inv, h, hv, q v H (Same.refl H) rv⟩
    | false => exact .inr ⟨p, vs, i, v, rfl, ry.int_inv, h, hv, q v H (Same.refl H) rv⟩
  · cases e
theorem x_str : Ix2 X ixStr := by
  refine ⟨_, ix_str, fun H O x y a b d Q lv rx ry e q => ?_⟩
  unfold ixStr at e
  split at e
  · rename_i z i
    split at e
    · rename_i hl
      cases c : atI z.cps.toList i with
      | none => rw [c] at e; cases e
      | some ch =>
        rw [c] at e
        cases e
        exact ⟨z, i, ch, rx.str_inv, ry.int_inv, hl, c, q _ H (Same.refl H) (.str _)⟩
    · cases e
  · cases e
def ixD := alt2 ixSeq ixStr
theorem x_ix : Ix2 X ixD := x_seq.alt x_str
/-! calls of built-ins -/
def lenD : List D → Option D
  | [a] => (match a with
    | .str z => if z.length ≤ sizeLine then some (.int z.length) else none
    | d => (seqOf d).map fun xs => .int xs.length)
  | _ => none
theorem c_len : CallV X (.builtin "len") lenD := by
  refine ⟨_, CallR.or call_len_seq call_len_str, fun H O xs as d Q lv r e q => ?_⟩
  unfold lenD at e
  split at e
  · rename_i a
    obtain ⟨v, rfl, rv⟩ := r.one
    split at e
    · rename_i z
      split at e
      · rename_i hl
        cases e
        cases rv.str_inv
        exact .inr ⟨z, rfl, hl, q _ H (Same.refl H) (.int _)⟩
      · cases e
    · rename_i hn
      cases c : seqOf a with
      | none => rw [c] at e; cases e
      | some ds =>
        rw [c] at e
        cases e
        obtain ⟨l, p, vs, rfl, h1, h2⟩ := relsq_of rv c
        have h := h1 H O .refl
        have k := q (.int vs.length) H (Same.refl H) (by rw [h2.1]; exact .int _)
        cases l with
        | true => exact .inl ⟨p, vs, rfl, .inl h, k⟩
        | false => exact .inl ⟨p, vs, rfl, .inr h, k⟩
  · cases e
def int1D : List D → Option D
  | [.int i] => some (.int i)
  | [.bl k] => some (.int (if k then 1 else 0))
  | _ => none
theorem c_int1 : CallV X (.type "int") int1D := by
  refine ⟨_, call_int1, fun H O xs as d Q lv r e q => ?_⟩
  unfold int1D at e
  split at e
  · rename_i i
    cases e
    obtain ⟨v, rfl, rv⟩ := r.one
    cases rv.int_inv
    exact .inl ⟨i, rfl, q _ H (Same.refl H) (.int _)⟩
  · rename_i k
    cases e
    obtain ⟨v, rfl, rv⟩ := r.one
    cases rv.bl_inv
    exact .inr ⟨k, rfl, q _ H (Same.refl H) (.int _)⟩
  · cases e
def absD : List D → Option D
  | [.int i] => some (.int (if i < 0 then -i else i))
  | _ => none
theorem c_abs : CallV X (.builtin "abs") absD := by
  refine ⟨_, call_abs, fun H O xs as d Q lv r e q => ?_⟩
  unfold absD at e
  split at e
  · rename_i i
    cases e
    obtain ⟨v, rfl, rv⟩ := r.one
    cases rv.int_inv
    exact ⟨i, rfl, q _ H (Same.refl H) (.int _)⟩
  · cases e
def tupleD : List D → Option D
  | [a] => (seqOf a).map .tup
  | _ => none
theorem c_tuple : CallV X (.type "tuple") tupleD := by
  refine ⟨_, call_tuple_of, fun H O xs as d Q lv r e q => ?_⟩
  unfold tupleD at e
  split at e
  · rename_i a
    obtain ⟨v, rfl, rv⟩ := r.one
    cases rv with
    | lst h o n el => cases e; exact ⟨_, _, rfl, .inl ⟨SqL.of h, fun l hl => q _ _ (same_new hl) (new_tup lv hl ⟨n, el⟩)⟩⟩
    | slst h n el => cases e; exact ⟨_, _, rfl, .inl ⟨h.sq, fun l hl => q _ _ (same_new hl) (new_tup lv hl ⟨n, el⟩)⟩⟩
    | tup h n el => cases e; exact ⟨_, _, rfl, .inr ⟨h.sq, q _ H (Same.refl H) (.tup h n el)⟩⟩
    | _ => cases e
  · cases e
def absurdD : Unit := ()
/-! list(x): a new list -/
def fListOf (f : F) : FL := fun ρ => (f ρ).bind fun d ρ1 => R.of (seqOf d) ρ1
theorem dn_list {W : Wi} {e : Expr} {f : F} {p pos : Pos} (hm : X.mg "list" = none) (he : DE X W e f) (hg : Gl X "list" := by rfl) (hs : starEach [e] X.env = (false, eval e X.env) :: starEach [] X.env := by rfl)
    (hpl : (backTo pos (starEach [] X.env)).any (·.1) = false := by rfl) : DN X W (.Call (.Name "list" p) [e] [] pos) (fListOf f) := by
  obtain ⟨t, pe, ie⟩ := he
  refine ⟨_, pe_callTy call_list_of hg hm (by decide +kernel) (pa_cons pe pa_nil hs) (by decide) (by decide) hs hpl, fun B ρ σ H O Q R p => ?_⟩
  unfold fListOf at p
  rw [rpost_bind] at p
  refine ie B ρ σ H O _ R (p.mono (fun d ρ1 p v H1 g r => ?_) fun _ _ _ e => e)
  obtain ⟨ds, hd, p⟩ := rpost_of p
  obtain ⟨l, a, vs, rfl, h1, h2⟩ := relsq_of r hd
  have h := h1 H1 O .refl
  refine ⟨a, vs, rfl, ?_, fun q hq => p vs q H1 g hq h2⟩
  cases l with
  | true => exact .inl h
  | false => exact .inr h
/-! slices -/
def DO (X : Cx) (W : Wi) (e : Option Expr) (f : En → R (Option Int)) : Prop := ∃ t : TO, PO X e t ∧ ∀ (B : W.BB) (ρ : En) (σ : Sl) (H : Hp) (O : Av) (Q : Option Int → Hp → Prop), Rep X.K X.mg B.1 O ρ σ H →
  RPost (f ρ) (fun o ρ' => ∀ H', Go X.K X.mg B.1 O σ ρ H ρ' H' → Q o H') (ErE X B.1 W O σ ρ H) → t σ H Q
def oNone : En → R (Option Int) := fun ρ => .ok none ρ
def oSome (f : F) : En → R (Option Int) := fun ρ => (f ρ).bind fun d ρ1 => match d with
  | .int i => .ok (some i) ρ1
  | _ => .stuck
theorem do_none {W : Wi} : DO X W none oNone := ⟨_, po_none, fun B ρ σ H O Q R p => p H (Go.refl R)⟩
theorem do_some {W : Wi} {e : Expr} {f : F} (he : DE X W e f) : DO X W (some e) (oSome f) := by
  obtain ⟨t, pe, ie⟩ := he
  refine ⟨_, po_some pe, fun B ρ σ H O Q R p => ?_⟩
  unfold oSome at p
  rw [rpost_bind] at p
  refine ie B ρ σ H O _ R (p.mono (fun d ρ1 p v H1 g r => ?_) fun _ _ _ e => e)
  split at p
  · rename_i i
    exact ⟨i, r.int_inv, p H1 g⟩
  · exact p.elim
def cutD (ds : List D) (lo hi : Option Int) : List D := (ds.drop (HT.sIx ds.length 0 lo)).take (HT.sIx ds.length ds.length hi - HT.sIx ds.length 0 lo)
def slD (d : D) (lo hi : Option Int) : Option D := match d with
  | .lst ds => some (.lst (cutD ds lo hi))
  | .slst ds => some (.lst (cutD ds lo hi))
  | .tup ds => some (.tup (cutD ds lo hi))
  | _ => none
def fSl (f : F) (fl fh : En → R (Option Int)) : F := fun ρ => (f ρ).bind fun d ρ1 => (fl ρ1).bind fun lo ρ2 => (fh ρ2).bind fun hi ρ3 => R.of (slD d lo hi) ρ3
theorem cut_rp {K : PySem.W.Frag} {mg : Str → Option Value} {H : Hp} {O : Av} {vs : List V} {ds : List D} (r : RpL K mg H O vs ds) (lo hi : Option Int) : RpL K mg H O (cutV vs lo hi) (cutD ds lo hi) := by
  unfold cutV cutD
  rw [r.1]
  exact (r.drop _).take _
theorem cutD_all {ds : List D} {lo hi : Option Int} (h : HT.sIx ds.length 0 lo = 0 ∧ HT.sIx ds.length ds.length hi = ds.length) : cutD ds lo hi = ds := by
  unfold cutD
  rw [h.1, h.2, List.drop_zero, Nat.sub_zero, List.take_length]
theorem de_sl {W : Wi} {e : Expr} {lo hi : Option Expr} {f : F} {fl fh : En → R (Option Int)} {p2 pos : Pos} (he : DE X W e f) (hl : DO X W lo fl) (hh : DO X W hi fh) : DE X W (.Subscript e (.Slice lo hi none p2) pos) (fSl f fl fh) := by
  obtain ⟨t, pe, ie⟩ := he
  obtain ⟨tl, pl, il⟩ := hl
  obtain ⟨th, ph, ih⟩ := hh
  refine ⟨_, pe_slice (SlR.or sl_list sl_tupA) pe pl ph, fun B ρ σ H O Q R p => ?_⟩
  unfold fSl at p
  rw [rpost_bind] at p
  refine ie B ρ σ H O _ R (p.mono (fun d ρ1 p v H1 g1 r => ?_) fun _ _ _ e => e)
  rw [rpost_bind] at p
  refine il B ρ1 σ H1 O _ g1.rep (p.mono (fun lo ρ2 p H2 g2 => ?_) (ErE.on g1))
  rw [rpost_bind] at p
  refine ih B ρ2 σ H2 O _ g2.rep (p.mono (fun hi ρ3 p H3 g3 => ?_) fun c fs ρ' e => ErE.on g2 c fs ρ' (ErE.on g1 c fs ρ' e))
  obtain ⟨d', e, p⟩ := rpost_of p
  have r3 := (r.kp (g2.kp g1.rep)).kp (g3.kp g2.rep)
  have gg := (g1.trans g2).trans g3
  cases r3 with
  | lst h o n el =>
    cases e
    exact .inl ⟨_, _, rfl, SqL.of h, fun q hq => p _ _ (gg.trans (.same g3.rep (same_new hq))) (new_lst g3.rep.live hq (cut_rp ⟨n, el⟩ lo hi))⟩
  | slst h n el =>
    cases e
    exact .inl ⟨_, _, rfl, h.sq, fun q hq => p _ _ (gg.trans (.same g3.rep (same_new hq))) (new_lst g3.rep.live hq (cut_rp ⟨n, el⟩ lo hi))⟩
  | tup h n el =>
    cases e
    refine .inr ⟨_, _, rfl, h.sq, fun hw => ?_, fun _ q hq => p _ _ (gg.trans (.same g3.rep (same_new hq))) (new_tup g3.rep.live hq (cut_rp ⟨n, el⟩ lo hi))⟩
    rw [n] at hw
    rw [cutD_all hw] at p
    exact p _ H3 gg (.tup h n el)
  | _ => cases e
/-! isinstance -/
def D.ty : D → Option String
  | .non => some "NoneType"
  | .bl _ => some "bool"
  | .int _ => some "int"
  | .str _ => some "str"
  | .lst _ => some "list"
  | .slst _ => some "list"
  | .tup _ => some "tuple"
  | .ins _ _ => none
  | .emp => some "dict"
theorem tyx_of {K : PySem.W.Frag} {mg : Str → Option Value} {H : Hp} {O : Av} {v : V} {d : D} {t : String} (r : Rp K mg H O v d) (e : d.ty = some t) : TyX K H v (.type t) := by
  cases r with
  | non => cases e; exact .base .non
  | bl b => cases e; exact .base (.bl b)
  | int i => cases e; exact .base (.int i)
  | str s => cases e; exact .base (.str s)
  | lst h o n el => cases e; exact .base (.lst h)
  | slst h n el =>
    cases e
    rcases h with ⟨⟨o, h⟩, _⟩ | h
    · exact .base (.frz h)
    · rcases h with (h | ⟨o, h⟩) | ⟨o, its, m, h1, h2, _⟩
      · exact nomatch h
      · exact nomatch h
      · exact .kList h1 h2
  | tup h n el =>
    cases e
    rcases h with ⟨h | ⟨o, h⟩, _⟩ | h
    · exact .base (.tup h)
    · exact .fTuple h
    · rcases h with (h | ⟨o, h⟩) | ⟨o, its, m, h1, h2, _⟩
      · exact nomatch h
      · exact nomatch h
      · exact .kTuple h1 h2
  | ins h o g n el => cases e
  | emp h o => cases e; exact .base (.dK h)
/-- which built-in types are which -/
def isTy (t T : String) : Option Bool := kitB t T
def fIsi (T : String) (f : F) : F := fun ρ => (f ρ).bind fun d ρ1 => match d.ty with
  | some t => (match kitB t T with
    | some b => .ok (.bl b) ρ1
    | none => .stuck)
  | none => .stuck
theorem de_isi {W : Wi} {e : Expr} {f : F} {T : String} {x : Str} {p p2 pos : Pos} (hm : X.mg "isinstance" = none) (hmT : X.mg x = none) (hv : bootBuiltins x = some (.type T)) (he : DE X W e f) (hg : Gl X "isinstance" := by rfl) (hgT : Gl X x := by rfl) (hn : x ≠ "__name__" := by decide) (hd : (x == ("__debug__" : Str)) = false := by decide)
    (hs1 : starEach [.Name x p2] X.env = (false, eval (.Name x p2) X.env) :: starEach [] X.env := by rfl) (hs : starEach [e, .Name x p2] X.env = (false, eval e X.env) :: starEach [.Name x p2] X.env := by rfl)
    (hpl : (backTo pos (starEach [.Name x p2] X.env)).any (·.1) = false := by rfl) : DE X W (.Call (.Name "isinstance" p) [e, .Name x p2] [] pos) (fIsi T f) := by
  obtain ⟨t, pe, ie⟩ := he
  refine ⟨_, pe_callB call_isi hg hm (by decide +kernel) (pa_cons pe (pa_cons (pe_bltn (v := .ty T) hgT hmT hv rfl hn hd) pa_nil hs1) hs) (by decide) (by decide) hs hpl, fun B ρ σ H O Q R p => ?_⟩
  unfold fIsi at p
  rw [rpost_bind] at p
  refine ie B ρ σ H O _ R (p.mono (fun d ρ1 p v H1 g r => ?_) fun _ _ _ e => e)
  split at p
  · rename_i t ht
    split at p
    · rename_i b hb
      exact ⟨v, .ty T, .type t, .type T, b, rfl, .ty T, tyx_of r ht, kit_ty hb, p _ H1 g (.bl b)⟩
    · exact p.elim
  · exact p.elim
def fIsi2 (T T' : String) (f : F) : F := fun ρ => (f ρ).bind fun d ρ1 => match d.ty with
  | some t => (match kitB t T, kitB t T' with
    | some b, some b' => .ok (.bl (b || b')) ρ1
    | _, _ => .stuck)
  | none => .stuck
theorem de_isi2 {W : Wi} {e : Expr} {f : F} {T T' : String} {x x' : Str} {p p2 p3 p4 pos : Pos} {k : Nat} (hm : X.mg "isinstance" = none) (hmT : X.mg x = none) (hmT' : X.mg x' = none) (hv : bootBuiltins x = some (.type T)) (hv' : bootBuiltins x' = some (.type T')) (he : DE X W e f)
    (hg : Gl X "isinstance" := by rfl) (hgT : Gl X x := by rfl) (hgT' : Gl X x' := by rfl) (hn : x ≠ "__name__" := by decide) (hd : (x == ("__debug__" : Str)) = false := by decide) (hn' : x' ≠ "__name__" := by decide) (hd' : (x' == ("__debug__" : Str)) = false := by decide)
    (hs0 : starEach [.Name x' p3] X.env = (false, eval (.Name x' p3) X.env) :: starEach [] X.env := by rfl) (hs1 : starEach [.Name x p2, .Name x' p3] X.env = (false, eval (.Name x p2) X.env) :: starEach [.Name x' p3] X.env := by rfl)
    (hs2 : starEach [.Tuple [.Name x p2, .Name x' p3] k p4] X.env = (false, eval (.Tuple [.Name x p2, .Name x' p3] k p4) X.env) :: starEach [] X.env := by rfl)
    (hs : starEach [e, .Tuple [.Name x p2, .Name x' p3] k p4] X.env = (false, eval e X.env) :: starEach [.Tuple [.Name x p2, .Name x' p3] k p4] X.env := by rfl)
    (hpl : (backTo pos (starEach [.Tuple [.Name x p2, .Name x' p3] k p4] X.env)).any (·.1) = false := by rfl) : DE X W (.Call (.Name "isinstance" p) [e, .Tuple [.Name x p2, .Name x' p3] k p4] [] pos) (fIsi2 T T' f) := by
  obtain ⟨t, pe, ie⟩ := he
  refine ⟨_, pe_callB call_isiT hg hm (by decide +kernel) (pa_cons pe (pa_cons (pe_tup (pa_cons (pe_bltn (v := .ty T) hgT hmT hv rfl hn hd) (pa_cons (pe_bltn (v := .ty T') hgT' hmT' hv' rfl hn' hd') pa_nil hs0) hs1)) pa_nil hs2) hs) (by decide) (by decide) hs hpl, fun B ρ σ H O Q R p => ?_⟩
  unfold fIsi2 at p
  rw [rpost_bind] at p
  refine ie B ρ σ H O _ R (p.mono (fun d ρ1 p v H1 g r => ?_) fun _ _ _ e => e)
  split at p
  · rename_i t ht
    split at p
    · rename_i b b' hb hb'
      refine ⟨by show 2 ≤ sizeLine; decide, fun tp htp => ?_⟩
      have s := same_new (o := .tup [.ty T, .ty T']) htp
      refine ⟨v, tp, [.ty T, .ty T'], .type t, [.type T, .type T'], b || b', rfl, upd_same, .cons (.ty T) (.cons (.ty T') .nil), tyx_of (r.kp (O' := O) (Same.kp s)) ht, ?_, p _ _ (g.trans (.same g.rep s)) (.bl _)⟩
      refine kitAny_cons (kit_ty hb) (fun h => ?_) (fun h => by rw [h]; rfl)
      refine kitAny_cons (kit_ty hb') (fun h' => ?_) (fun h' => by rw [h', Bool.or_true])
      rw [h, h']
      exact kitAny_nil
    · exact p.elim
  · exact p.elim
/-! not as a value -/
def vNotT (f : F) : F := fun ρ => (f ρ).bind fun d ρ1 => match d.truth with
  | some k => .ok (.bl (!k)) ρ1
  | none => .stuck
theorem de_notT {W : Wi} {a : Expr} {f : F} {pos : Pos} (ha : DE X W a f) : DE X W (.UnaryOp .Not a pos) (vNotT f) := by
  obtain ⟨t, pa, ia⟩ := ha
  refine ⟨_, pe_notT pa, fun B ρ σ H O Q R p => ?_⟩
  unfold vNotT at p
  rw [rpost_bind] at p
  refine ia B ρ σ H O _ R (p.mono (fun d ρ1 p v H1 g r => ?_) fun _ _ _ e => e)
  split at p
  · rename_i k hk
    exact ⟨k, tru_of r hk, p _ H1 g (.bl _)⟩
  · exact p.elim
end
end DL

set_option Elab.async false
set_option linter.all false
set_option maxRecDepth 100000
/-! DLB: three names at once, a tuple times one. -/
namespace DL
open PySem PySem.Spec PyProof.Rows L2

section
variable {X : Cx} {W : Wi} {pos : Pos}
def gPar3 (i j l : Nat) (f : FL) : G := fun ρ => (f ρ).sr fun ds ρ1 => match ds with
  | [a, b, c] => .nx (((ρ1.set i (some (.dat a))).set j (some (.dat b))).set l (some (.dat c)))
  | _ => .stuck
theorem ds_par3 {i j l : Nat} {x y z : Str} {a b c : Expr} {fl : FL} {px py pz pt : Pos} {kt k2 pt2} (hc : X.calm = true) (hN : X.N.Nodup) (ha : DA X W [a, b, c] fl) (hi : X.N[i]? = some x := by rfl) (hj : X.N[j]? = some y := by rfl) (hl : X.N[l]? = some z := by rfl)
    (hij : i ≠ j := by decide) (hil : i ≠ l := by decide) (hjl : j ≠ l := by decide)
    (hx : X.env.scope.names.lookup x = some .local := by rfl) (hy : X.env.scope.names.lookup y = some .local := by rfl) (hz : X.env.scope.names.lookup z = some .local := by rfl)
    (hw : swappedStores [.Tuple [.Name x px, .Name y py, .Name z pz] kt pt] (.Tuple [a, b, c] k2 pt2) X.env = pure (some [x, y, z]) := by rfl)
    (hs : swapsWithSole [.Tuple [.Name x px, .Name y py, .Name z pz] kt pt] (.Tuple [a, b, c] k2 pt2) pos.line X.env = pure false := by rfl) :
    DS X W (.Assign [.Tuple [.Name x px, .Name y py, .Name z pz] kt pt] (.Tuple [a, b, c] k2 pt2) pos) (gPar3 i j l fl) := by
  obtain ⟨t, pa, ia⟩ := ha
  refine ⟨_, ps_par3 hc hN hi hj hl hij hil hjl hx hy hz pa hw hs, fun B ρ σ H O D R p => ?_⟩
  refine ia B ρ σ H O _ R ((spost_sr R p).mono (fun ds ρ1 p vs H1 g r => ?_) fun _ _ _ e => e)
  have p := p H1 g
  match ds, vs, r, p with
  | [d1, d2, d3], vs, r, p =>
    obtain ⟨v1, v2, v3, rfl, r1, r2, r3⟩ := r.three
    exact ⟨v1, v2, v3, rfl, p _ H1 O .refl (((g.rep.setD i r1).setD j r2).setD l r3)⟩
  | [], _, _, p => exact p.elim
  | [_], _, _, p => exact p.elim
  | [_, _], _, _, p => exact p.elim
  | _ :: _ :: _ :: _ :: _, _, _, p => exact p.elim
end

/-- ts * 1 is ts -/
theorem tmul_one (l : Addr) (its : Array Value) (n : Nat) (dd : Option Addr) (sl : Array (Option Value)) (u : Tok) :
    Meets (Builtin.«tuple.__mul__» ⟨[.ref l, .int 1 u], []⟩)
      (fun _ R s => s.heap.get? l = some ⟨.type "tuple", dd, .seq its n, sl⟩ ∧ R (.ok (.ret (.ref l))) s) :=
  .of_wp fun prog w A R s h => by
    obtain ⟨hp, g, d, tk, os⟩ := s
    obtain ⟨hl, h⟩ := h
    have f1 := AutoSeq1.idx_int
    wp_walk using wpAny_loadPart' hl
    exact ⟨_, rfl, h⟩
def rOne (K : PySem.W.Frag) : R2 := fun x y H Q => ∃ l xs, x = .ref l ∧ y = .int 1 ∧ SqT K H l xs ∧ Q (.ref l) H
theorem op_one {X : Cx} : OpR X (binaryOp .Mult) (rOne X.K) := by
  intro pins s σ H x y v u Q I rx ry h
  obtain ⟨l, xs, rfl, rfl, ht, q⟩ := h
  cases rx
  obtain ⟨t, rfl⟩ := ry
  obtain ⟨its, rr, ⟨⟨cls, dd, data, sl⟩, ho, hc, n, hd⟩, hs⟩ := I.tuple ht
  simp only at hc hd
  subst hc hd
  refine wpAny_binaryOp_repeat_ref (T := "tuple") (U := "int") ?_ ?_ (fun s' => typeIs_int s' 1 t) noFill_tuple_mul F.fills_int_mul F.slot_int_rmul repeat_tuple F.slot_int_index.lookup ?_
  · decide
  · exact ⟨_, ho, rfl⟩
  refine call_meets F.slot_int_rmul (typeIs_int s 1 t) F.entry_int_rmul (F.args_int_rmul_2 _ _) (int_rmul_tuple 1 t l its.toArray n dd sl) ?_
  refine ⟨ho, rfl, ⟨_, ho, rfl⟩, ?_⟩
  refine call_meets F.slot_tuple_mul ⟨_, ho, rfl⟩ F.entry_tuple_mul (F.args_tuple_mul_2 _ _) (tmul_one l its.toArray n dd sl t) ?_
  refine ⟨ho, ?_⟩
  exact ⟨.ref l, H, I, rfl, q⟩
def mulT1 : D → D → Option D := fun a b => match a, b with
  | .tup xs, .int k => if k = 1 then some (.tup xs) else none
  | _, _ => none
theorem o_mulT1 {X : Cx} : Op2 X (binaryOp .Mult) mulT1 := by
  refine ⟨_, op_one, fun H O x y a b d Q lv rx ry e q => ?_⟩
  cases a with
  | tup xs =>
    cases b with
    | int k =>
      unfold mulT1 at e
      dsimp only at e
      split at e
      · rename_i h
        subst h
        cases e
        obtain ⟨p, us, rfl, tp, ru⟩ := rx.tup_inv
        exact ⟨p, us, rfl, ry.int_inv, tp.sq, q _ _ (Same.refl _) rx⟩
      · cases e
    | _ => cases e
  | _ => cases e
def gFrz (i : Nat) (g : G) : G := fun ρ => g (frz i ρ)
theorem dss_fz {X : Cx} {W : Wi} {g : G} {sts : List Stmt} (i : Nat) (h : DSs X W sts g) : DSs X W sts (gFrz i g) := dss_frz i h
def inA (neg : Bool) := alt2 (inF neg) (inDp neg)
theorem o_inA {X : Cx} (hu : X.A.units + 65 < cLine) : Op2 X (compareOp .In) (inA false) := o_inF.alt (o_inD hu)
theorem o_notInA {X : Cx} (hu : X.A.units + 65 < cLine) : Op2 X (compareOp .NotIn) (inA true) := o_notInF.alt (o_notInD hu)
def mulTD := alt2 mulT1 mulT2
theorem o_mulT {X : Cx} : Op2 X (binaryOp .Mult) mulTD := o_mulT1.alt o_mulT2
def mulD := alt2 mulI (alt2 mulTD mulL)
theorem o_mul {X : Cx} : Op2 X (binaryOp .Mult) mulD := o_mulI.alt (o_mulT.alt o_mulL)
end DL

set_option Elab.async false
set_option linter.all false
set_option maxRecDepth 100000
/-! DLC: the law's own promise, what a top says of an own error. -/
namespace DL
open PySem PySem.Spec PyProof.Rows L2

/-- the law's promise: at a script it gives True -/
def spLaw (K : PySem.W.Frag) : Sp := fun vs H Q _ => ∃ (a : Addr) (ns : List Int), vs = [.ref a] ∧ ns.length ≤ 63 ∧ (∀ z ∈ ns, Builtin.Int.intBits z ≤ 1048576) ∧ Only H ∧ SqL K H a (ns.map V.int) ∧ ∀ H', Q (.bl true) H'
theorem ints_rp {K : PySem.W.Frag} {mg : Str → Option Value} {H : Hp} {O : Av} (ns : List Int) : RpL K mg H O (ns.map V.int) (ns.map D.int) := ⟨by simp, fun i v d h1 h2 => by
  rw [List.getElem?_map] at h1 h2
  cases q : ns[i]? with
  | none => rw [q] at h1; cases h1
  | some z =>
    rw [q] at h1 h2
    cases h1
    cases h2
    exact .int z⟩
theorem law_imp {K : PySem.W.Frag} {mg : Str → Option Value} {m : Fn} (hm : ∀ ns : List Int, ns.length ≤ 63 → (∀ z ∈ ns, Builtin.Int.intBits z ≤ 1048576) → m [.dat (.slst (ns.map D.int))] = .ok (.bl true) none) :
    ∀ vs H Q E, spLaw K vs H Q E → spD K mg 1 m vs H Q E := by
  intro vs H Q E h
  obtain ⟨a, ns, rfl, h1, h2, hO, hS, q⟩ := h
  have la : LAt K H (fun _ => False) a (ns.map V.int) := by
    rcases hS with (hS | ⟨o, hS⟩) | hS
    · rcases hO a with z | ⟨o, xs, z⟩
      · rw [z] at hS; cases hS
      · rw [z] at hS; cases hS
    · exact .inl ⟨⟨o, hS⟩, fun z => z⟩
    · exact .inr (.inr hS)
  have r : RpL K mg H (fun _ => False) [V.ref a] [D.slst (ns.map D.int)] := .cons (.slst la (by simp) (ints_rp ns).2) .nil
  refine ⟨[.dat (.slst (ns.map D.int))], fun _ => False, [], rfl, Nat.zero_le _, rep_dats (fun z h => h.elim) r, fun a h => (nomatch h), ?_⟩
  rw [hm ns h1 h2]
  intro v H' _ rv _
  rw [rv.bl_inv]
  exact q H'
theorem cx_none {P : Program} {w : World} {H : Hp} {s s' : Shared} {e : Value} (h : L2.CX P w [] H s (fun _ _ _ => False) e s') : False := by
  obtain ⟨_, _, _, _, _, _, _, _, _, _, _, _, z⟩ := h
  exact z
/-- an error of the class S against a clause that names C -/
theorem exm_of {K : PySem.W.Frag} {S C : Addr} {b : Bool} (h1 : PySem.W.subIn K (.ref C) (.type "BaseException") = some true) (h2 : PySem.W.isClsIn K C = true) (h3 : PySem.W.typeIn K (.ref C) = some (.type "type")) (h4 : PySem.W.subIn K (.ref S) (.ref C) = some b) : PySem.W.exmOne K (.ref S) (.ref C) = some b := by
  have e2 : (PySem.W.clsIn K C).isSome = true := h2
  unfold PySem.W.exmOne
  rw [h1]
  show PySem.W.kitCls K (.ref S) (.ref C) = _
  unfold PySem.W.kitCls
  dsimp only
  rw [e2, h3]
  exact h4
theorem dfl_mk {K : PySem.W.Frag} {T : Addr} {oc : Value} {od : Option Addr} {its : List Value} {n : Nat} {sl : Array (Option Value)} {dvs : List V} (h : K.lookup T = some ⟨oc, od, .seq its.toArray n, sl⟩) (r : Vals dvs its) (e : dvs ≠ []) : DflV K (.ref T) dvs :=
  .inr ⟨e, T, _, its, n, rfl, h, rfl, r⟩
end DL

set_option Elab.async false
set_option linter.all false
set_option maxRecDepth 100000
/-! DLD: instances of own classes: made, asked for fields, properties and methods. -/
namespace DL
open PySem PySem.Spec PyProof.Rows L2

/-- the first that tells -/
def fAlt (f g : F) : F := fun ρ => match f ρ with
  | .stuck => g ρ
  | r => r
section
variable {X : Cx} {W : Wi} {e : Expr} {f g : F} {pos : Pos}
theorem de_alt (h : DE X W e f) (h2 : DE X W e g) : DE X W e (fAlt f g) := by
  obtain ⟨t, p1, i1⟩ := h
  obtain ⟨u, p2, i2⟩ := h2
  refine ⟨fun σ H Q => t σ H Q ∨ u σ H Q, ⟨fun pins s σ H Q I h => h.elim (p1.run pins s σ H Q I) (p2.run pins s σ H Q I)⟩, fun B ρ σ H O Q R p => ?_⟩
  unfold fAlt at p
  cases q : f ρ with
  | stuck => rw [q] at p; exact .inr (i2 B ρ σ H O Q R p)
  | ok d ρ1 => rw [q] at p; exact .inl (i1 B ρ σ H O Q R (by rw [q]; exact p))
  | err c fs ρ1 => rw [q] at p; exact .inl (i1 B ρ σ H O Q R (by rw [q]; exact p))
/-! ### fields -/
theorem lookup_rp {K : PySem.W.Frag} {mg : Str → Option Value} {H : Hp} {O : Av} {f : Str} : ∀ {fvs : List (Str × V)} {fs : List (Str × D)} {d : D}, fvs.map (·.1) = fs.map (·.1) →
    (∀ (i : Nat) (p : Str × V) (q : Str × D), fvs[i]? = some p → fs[i]? = some q → Rp K mg H O p.2 q.2) → fs.lookup f = some d → ∃ v, fvs.lookup f = some v ∧ Rp K mg H O v d
  | [], [], d, _, _, h => nomatch h
  | [], _ :: _, d, n, _, h => nomatch n
  | _ :: _, [], d, n, _, h => nomatch n
  | (g, v) :: fvs, (g', d') :: fs, d, n, r, h => by
    rw [List.map_cons, List.map_cons, List.cons.injEq] at n
    obtain ⟨n1, n2⟩ := n
    have n1 : g = g' := n1
    subst n1
    by_cases hb : (f == g) = true
    · rw [List.lookup_cons, hb] at h
      cases h
      refine ⟨v, ?_, r 0 _ _ rfl rfl⟩
      rw [List.lookup_cons, hb]
    · have hb : (f == g) = false := by cases q : (f == g) with
        | true => exact absurd q hb
        | false => rfl
      rw [List.lookup_cons, hb] at h
      obtain ⟨w, e1, e2⟩ := lookup_rp n2 (fun i p q a b => r (i + 1) p q a b) h
      refine ⟨w, ?_, e2⟩
      rw [List.lookup_cons, hb]
      exact e1
/-- the classes cs have no thing of the name f -/
def FldOk (K : PySem.W.Frag) (mg : Str → Option Value) (cs : List Str) (f : Str) : Prop := ∀ c ∈ cs, ∃ C, mg c = some (.ref C) ∧ Cls K C ∧ NoAttr K C f
def fFld (cs : List Str) (f : Str) (fe : F) : F := fun ρ => (fe ρ).bind fun d ρ1 => match d with
  | .ins c fs => if c ∈ cs then R.of (fs.lookup f) ρ1 else .stuck
  | _ => .stuck
theorem de_fld {cs : List Str} {n : Str} (hc : FldOk X.K X.mg cs n) (he : DE X W e f) (hb : attributeBase e n X.env (eval e X.env) = eval e X.env := by rfl) : DE X W (.Attribute e n pos) (fFld cs n f) := by
  obtain ⟨t, pa, ia⟩ := he
  refine ⟨_, pe_fld pa hb, fun B ρ σ H O Q R p => ?_⟩
  unfold fFld at p
  rw [rpost_bind] at p
  refine ia B ρ σ H O _ R (p.mono (fun d ρ1 p x H1 g1 r1 => ?_) fun _ _ _ e => e)
  cases r1 with
  | ins h o g hn el =>
    dsimp only at p
    split at p
    · rename_i hm
      obtain ⟨C', m1, c1, n1⟩ := hc _ hm
      rw [g] at m1
      cases m1
      obtain ⟨d, e, p⟩ := rpost_of p
      obtain ⟨v, l1, l2⟩ := lookup_rp hn el e
      exact ⟨_, _, _, _, v, rfl, h, c1, n1, l1, p v H1 g1 l2⟩
    · exact p.elim
  | _ => exact p.elim
/-! ### a new instance -/
def fMake (c : Str) (n : Nat) (m : Fn) (dv : List D) (f : FL) : F := fun ρ => (f ρ).bind fun ds ρ1 => if (ds ++ dv).length + 1 = n then (match m (.par 0 (.ins c []) :: (ds ++ dv).map .dat) with
  | .ok .non (some (.ins c' fs)) => if c' = c then .ok (.ins c fs) ρ1 else .stuck
  | .err c' fs _ => .err c' fs ρ1
  | _ => .stuck) else .stuck
theorem rep_new {K : PySem.W.Frag} {mg : Str → Option Value} {H : Hp} {O : Av} {a C dx : Addr} {c : Str} {ws : List V} {n : List D} (lv : ∀ z, O z → H z ≠ none) (hO : O a) (e : H a = some (.ins C dx [])) (hm : mg c = some (.ref C)) (rn : RpL K mg H O ws n) :
    Rep K mg ⟨H, O, [a], 0, none, .none⟩ O ((Slot.par 0 (.ins c []) :: n.map Slot.dat).map some) ((V.ref a :: ws).map some) H := by
  have R0 := rep_dats lv rn
  have dat : ∀ {i : Nat} {s : Slot}, ((n.map Slot.dat).map some)[i]? = some (some s) → ∃ d, s = .dat d := fun {i s} h => by
    rw [List.getElem?_map, List.getElem?_map] at h
    cases q : n[i]? with
    | none => rw [q] at h; cases h
    | some d => rw [q] at h; cases h; exact ⟨d, rfl⟩
  exact {
    len := by simp [rn.1]
    slot := fun i s h => by
      cases i with
      | zero =>
        have h : some (some (Slot.par 0 (.ins c []))) = some (some s) := h
        cases h
        exact ⟨.ref a, rfl, a, rfl, hO, rfl, C, dx, [], e, hm, rfl, fun i p q h1 _ => by simp at h1⟩
      | succ i =>
        obtain ⟨v, h1, h2⟩ := R0.slot i s h
        refine ⟨v, h1, ?_⟩
        obtain ⟨d, rfl⟩ := dat h
        exact h2
    apart := fun i j s t b h1 h2 m1 m2 e1 e2 => by
      have z : ∀ {i : Nat} {s : Slot}, ((Slot.par 0 (.ins c []) :: n.map Slot.dat).map some)[i]? = some (some s) → s.mu = true → i = 0 := fun {i s} h m => by
        cases i with
        | zero => rfl
        | succ i =>
          obtain ⟨d, rfl⟩ := dat h
          cases m
      rw [z h1 m1, z h2 m2]
    base := fun b o h _ => h
    live := lv
    o0 := fun _ h => h
    b0 := lv
    pao := fun b h => by rw [List.mem_singleton.mp h]; exact hO }
/-- C(e, ..), what is raised wished for at the caller's slots -/
def tMk (C : Addr) (sp : Sp) (dvs : List V) (E : L2.St → XK) (t : TA) : TE := fun σ H Q => t σ H fun vs H1 => ∀ x dx, H1 x = none → H1 dx = none → dx ≠ x →
  sp (.ref x :: (vs ++ dvs)) (upd (upd H1 dx (.own x)) x (.ins C dx [])) (fun v H2 => v = .non ∧ Q (.ref x) H2) (E σ)
section
variable {CX : CXT} {k : Nat} {C fI : Addr} {fd : FuncData} {ps : List Str} {sp : Sp} {dvs : List V} {ds : List Value} {E : L2.St → XK} {c : Str} {p : Pos} {a : Expr} {es : List Expr} {t : TA}
theorem pe_mk (M : Mk X.K C fI) (F : FnOk X.prog X.w X.K X.mg X.base CX k fI fd ps sp) (hr : Room (k + 1) X.A) (hg : Gl X c) (hm : X.mg c = some (.ref C)) (hb : Binds X.K fd ps ds) (hd : Vals dvs ds) (hx : ∀ σ, PassesAt CX X σ (E σ)) (ha : PA X (a :: es) t)
    (hdb : (c == ("__debug__" : Str)) = false := by decide) (he : starEach (a :: es) X.env = (false, eval a X.env) :: starEach es X.env := by rfl) (hpl : (backTo pos (starEach es X.env)).any (·.1) = false := by rfl) :
    PE X (.Call (.Name c p) (a :: es) [] pos) (tMk C sp dvs E t) := ⟨fun pins s0 σ H0 Q I0 h0 => by
  refine wpAny_Call_Name_kw (ld_glob I0 hg hm ?_ hdb)
  refine PySem.W.callWith_K (h₀ := X.base) I0.ok.mod.kin M.kp (thn (ha.run pos pins s0 σ H0 _ I0 h0) fun us s ⟨vs, H, I, r, h⟩ => ⟨I.kIn, ?_⟩) he hpl
  have hn := Nat.lt_succ_self s.heap.objs.size
  have h1 := h _ _ (I.hok.fresh (Nat.le_of_lt hn)) (I.hok.fresh (Nat.le_refl s.heap.objs.size)) (Nat.ne_of_lt hn)
  have J := Inv.made (C := C) I
  have rr : Vals (V.ref (s.heap.objs.size + 1) :: (vs ++ dvs)) (Value.ref (s.heap.objs.size + 1) :: (us ++ ds)) := .cons rfl (r.append hd)
  have ln : (Value.ref (s.heap.objs.size + 1) :: us ++ ds).length = ps.length := (rr.length.symm.trans (F.len _ _ _ _ h1))
  have run := F.run _ X.stack _ _ ⟨Value.ref (s.heap.objs.size + 1) :: us, []⟩ _ _ _ (E σ) (hr.make C us []) (J.env0.make C us []) (hb _ (Value.ref (s.heap.objs.size + 1) :: us) J.kIn ln) rr h1
  refine wpAny_call (make_map (f := fI) I.kIn M.makes M.init (beq_iff_eq.mp M.fn) (codeAny_mono run fun o z hz => ?_))
  match o, hz with
  | .error er, hz => exact hx σ pins _ _ er z J hz
  | .ok (.ret u), hz =>
    obtain ⟨v, H', K3, rv, ev, q3⟩ := J.after hz
    cases ev
    exact ⟨rv, V.ref (s.heap.objs.size + 1), H', K3, rfl, q3⟩
  | .ok .next, hz => exact hz.elim
  | .ok .brk, hz => exact hz.elim
  | .ok .cont, hz => exact hz.elim⟩
end
theorem de_make {c : Str} {C fI : Addr} {fd : FuncData} {ps : List Str} {m : Fn} {k : Nat} {p : Pos} {a : Expr} {es : List Expr} {fl : FL} {dvs : List V} {ds : List Value} {dv : List D} (M : Mk X.K C fI) (F : FnOk X.prog X.w X.K X.mg X.base (L2.CX X.prog X.w) k fI fd ps (spD X.K X.mg ps.length m)) (hr : Room (k + 1) X.A)
    (hm : X.mg c = some (.ref C)) (hb : Binds X.K fd ps ds) (hd : Vals dvs ds) (hdv : ∀ H O, (∀ z, O z → H z ≠ none) → RpL X.K X.mg H O dvs dv) (tk : Takes X W.w) (ha : DA X W (a :: es) fl) (hg : Gl X c := by rfl) (hdb : (c == ("__debug__" : Str)) = false := by decide)
    (he : starEach (a :: es) X.env = (false, eval a X.env) :: starEach es X.env := by rfl) (hpl : (backTo pos (starEach es X.env)).any (·.1) = false := by rfl) :
    DE X W (.Call (.Name c p) (a :: es) [] pos) (fMake c ps.length m dv fl) := by
  obtain ⟨t, pa, ia⟩ := ha
  refine ⟨_, pe_mk M F hr hg hm hb hd (fun σ => passAt tk σ) pa hdb he hpl, fun B ρ σ H O Q R p => ?_⟩
  unfold fMake at p
  rw [rpost_bind] at p
  refine ia B ρ σ H O _ R (p.mono (fun as ρ1 p vs H1 g r => ?_) fun _ _ _ e => e)
  have rd := r.app (hdv H1 O g.rep.live)
  split at p
  rotate_left
  · exact p.elim
  rename_i hn
  intro x dx hx0 hd0 hne
  let H2 : Hp := upd (upd H1 dx (.own x)) x (.ins C dx [])
  have s2 : Same H1 H2 := fun b o eb => by
    show upd (upd H1 dx (.own x)) x _ b = some o
    rw [upd_ne (ne_of_none eb hx0), upd_ne (ne_of_none eb hd0)]
    exact eb
  have k2 : Kp H1 O H2 (O.add x) := fun b u eb nb => ⟨s2 b u eb, fun z => z.elim nb fun z => ne_of_none eb hx0 z⟩
  have nox : ¬ O x := fresh_not g.rep.live hx0
  have lv2 : ∀ z, (O.add x) z → H2 z ≠ none := fun z hz => by
    rcases hz with hz | hz
    · cases q : H1 z with
      | none => exact absurd q (g.rep.live z hz)
      | some u => rw [s2 z u q]; exact fun y => nomatch y
    · rw [hz, show H2 x = some (.ins C dx []) from upd_same]
      exact fun y => nomatch y
  refine ⟨Slot.par 0 (.ins c []) :: (as ++ dv).map Slot.dat, O.add x, [x], ?_, Nat.le_refl _, rep_new lv2 (.inr rfl) upd_same hm (rd.kp k2), fun b hb => ⟨_, rfl⟩, ?_⟩
  · rw [List.length_cons, rd.1]
    exact hn
  have same : ∀ {H3 : Hp}, (∀ b o, H2 b = some o → b ∉ [x] → H3 b = some o) → Same H1 H3 := fun fr b o eb => fr b o (s2 b o eb) fun z => ne_of_none eb hx0 (List.mem_singleton.mp z)
  have sub : ∀ {H3 : Hp}, Kp H3 (O.add x) H3 O := fun b u eb nb => ⟨eb, fun z => nb (.inl z)⟩
  split at p
  · rename_i c' fs q
    split at p
    rotate_left
    · exact p.elim
    rename_i hc
    subst hc
    rw [q]
    intro v H3 fr rv mt
    obtain ⟨c9, ec, ca⟩ := mt x rfl
    cases ec
    obtain ⟨C9, dx9, fvs, e1, e2, e3, e4⟩ := ca
    exact ⟨rv.non_inv, p (.ref x) H3 (g.trans (.same g.rep (same fr))) (.ins e1 nox e2 e3 fun i y z a1 a2 => (e4 i y z a1 a2).kp sub)⟩
  · rename_i c' fs _ q
    rw [q]
    intro C' od H3 fr m1 er mt
    exact p C' od H3 (g.trans (.same g.rep (same fr))) m1 (er.kp sub)
  · exact p.elim
/-! ### a field is stored -/
def putD (f : Str) (d : D) : List (Str × D) → List (Str × D)
  | [] => [(f, d)]
  | (g, x) :: r => if g = f then (g, d) :: r else (g, x) :: putD f d r
theorem putD_names {f : Str} {v : V} {d : D} : ∀ {fvs : List (Str × V)} {fs : List (Str × D)}, fvs.map (·.1) = fs.map (·.1) → (putF f v fvs).map (·.1) = (putD f d fs).map (·.1)
  | [], [], _ => rfl
  | [], _ :: _, h => nomatch h
  | _ :: _, [], h => nomatch h
  | (g, x) :: fvs, (g', y) :: fs, h => by
    rw [List.map_cons, List.map_cons, List.cons.injEq] at h
    obtain ⟨h1, h2⟩ := h
    have h1 : g = g' := h1
    subst h1
    unfold putF putD
    by_cases e : g = f
    · rw [if_pos e, if_pos e, List.map_cons, List.map_cons, h2]
    · rw [if_neg e, if_neg e, List.map_cons, List.map_cons, putD_names h2]
theorem putD_rp {K : PySem.W.Frag} {mg : Str → Option Value} {H : Hp} {O : Av} {f : Str} {v : V} {d : D} (r0 : Rp K mg H O v d) : ∀ {fvs : List (Str × V)} {fs : List (Str × D)}, fvs.map (·.1) = fs.map (·.1) →
    (∀ (i : Nat) (p : Str × V) (q : Str × D), fvs[i]? = some p → fs[i]? = some q → Rp K mg H O p.2 q.2) →
    ∀ (i : Nat) (p : Str × V) (q : Str × D), (putF f v fvs)[i]? = some p → (putD f d fs)[i]? = some q → Rp K mg H O p.2 q.2
  | [], [], _, _, i, p, q, h1, h2 => by
    cases i with
    | zero => cases h1; cases h2; exact r0
    | succ i => simp [putF] at h1
  | [], _ :: _, h, _, _, _, _, _, _ => nomatch h
  | _ :: _, [], h, _, _, _, _, _, _ => nomatch h
  | (g, x) :: fvs, (g', y) :: fs, h, r, i, p, q, h1, h2 => by
    rw [List.map_cons, List.map_cons, List.cons.injEq] at h
    obtain ⟨hg, ht⟩ := h
    have hg : g = g' := hg
    subst hg
    unfold putF at h1
    unfold putD at h2
    by_cases e : g = f
    · rw [if_pos e] at h1 h2
      cases i with
      | zero => cases h1; cases h2; exact r0
      | succ i => exact r (i + 1) p q h1 h2
    · rw [if_neg e] at h1 h2
      cases i with
      | zero => cases h1; cases h2; exact r 0 _ _ rfl rfl
      | succ i => exact putD_rp r0 ht (fun i p q a b => r (i + 1) p q a b) i p q h1 h2
/-- what stands in the changing thing at a slot is written anew -/
theorem Rep.writeC {K : PySem.W.Frag} {mg : Str → Option Value} {B : Base} {O : Av} {ρ : En} {σ : Sl} {H : Hp} {i k : Nat} {a : Addr} {ct ct' : Cont} {o : HO} (R : Rep K mg B O ρ σ H) (h : ρ[i]? = some (some (.par k ct))) (hs : σ[i]? = some (some (.ref a)))
    (hc : ContAt K mg (upd H a o) O a ct') : Go K mg B O σ ρ H (ρ.set i (some (.par k ct'))) (upd H a o) ∧ Kp H O (upd H a o) O := by
  have hO : O a := R.mu_O ⟨i, _, h, rfl, hs⟩
  have kp : Kp H O (upd H a o) O := fun b u e n => ⟨by rw [upd_ne fun z : b = a => n (z ▸ hO)]; exact e, n⟩
  have li : i < ρ.length := (List.getElem?_eq_some_iff.mp h).1
  have slotI : B.pa[k]? = some a := by
    obtain ⟨v, h1, b, e, o1, n1, _⟩ := R.slot i _ h
    rw [hs] at h1
    cases h1
    cases e
    exact n1
  have mark : ∀ {j : Nat} {t : Slot}, (ρ.set i (some (.par k ct')))[j]? = some (some t) → t.mu = true → ∃ t', ρ[j]? = some (some t') ∧ t'.mu = true := fun {j t} ht m => by
    by_cases hj : i = j
    · exact ⟨_, hj ▸ h, rfl⟩
    · rw [List.getElem?_set_ne hj] at ht
      exact ⟨t, ht, m⟩
  refine ⟨⟨?_, fun b u e n => ?_, ⟨by rw [List.length_set, R.len], fun j t ht => ?_, fun j q t u b h1 h2 m1 m2 e1 e2 => ?_, fun b u e n => ?_, fun b ob => ?_, R.o0, R.b0, R.pao⟩⟩, kp⟩
  · apply List.ext_getElem?
    intro j
    rw [kinds_get, kinds_get]
    by_cases hj : i = j
    · subst hj
      rw [List.getElem?_set_self li, h]
      rfl
    · rw [List.getElem?_set_ne hj]
  · rw [upd_ne fun z : b = a => n (z ▸ ⟨i, _, h, rfl, hs⟩)]
    exact e
  · by_cases hj : i = j
    · subst hj
      rw [List.getElem?_set_self li] at ht
      cases ht
      exact ⟨.ref a, hs, a, rfl, hO, slotI, hc⟩
    · rw [List.getElem?_set_ne hj] at ht
      obtain ⟨w, h1, h2⟩ := R.slot j t ht
      refine ⟨w, h1, h2.kp kp fun b e m => ?_⟩
      subst e
      exact ⟨upd_ne fun z => hj (R.apart i j _ t a h ht rfl m hs (z ▸ h1)), R.mu_O ⟨j, t, ht, m, h1⟩⟩
  · obtain ⟨t', a1, a2⟩ := mark h1 m1
    obtain ⟨u', b1, b2⟩ := mark h2 m2
    exact R.apart j q t' u' b a1 b1 a2 b2 e1 e2
  · rw [upd_ne fun z : b = a => n (z ▸ List.mem_of_getElem? slotI)]
    exact R.base b u e n
  · by_cases e : b = a
    · rw [e, upd_same]
      exact fun z => nomatch z
    · rw [upd_ne e]
      exact R.live b ob
def gSetF (cs : List Str) (i : Nat) (n : Str) (f : F) : G := fun ρ => (f ρ).sr fun d ρ1 => match ρ1[i]? with
  | some (some (.par k (.ins c fs))) => if c ∈ cs ∧ fs.length < 1000 then .nx (ρ1.set i (some (.par k (.ins c (putD n d fs))))) else .stuck
  | _ => .stuck
theorem ds_setF {cs : List Str} {i : Nat} {n x : Str} {p1 tpos : Pos} (hc : FldOk X.K X.mg cs n) (he : DE X W e f) (hN : X.N[i]? = some x := by rfl) (hv : Vis X.env.scope x := by first | exact Or.inl rfl | exact Or.inr (Or.inl rfl) | exact Or.inr (Or.inr rfl))
    (hd : (x == ("__debug__" : Str)) = false := by decide) (hcd : (x == ("__classdict__" : Str)) = false := by decide)
    (hs : swapsWith e (some (.Attribute (.Name x p1) n tpos)) pos.line X.env = pure false := by rfl) : DS X W (.Assign [.Attribute (.Name x p1) n tpos] e pos) (gSetF cs i n f) := by
  obtain ⟨t, pa, ia⟩ := he
  refine ⟨_, ps_fld (pe_var hN hv hd hcd) pa hs, fun B ρ σ H O D R p => ?_⟩
  refine ia B ρ σ H O _ R ((spost_sr R p).mono (fun d ρ1 p v H1 g r => ?_) fun _ _ _ e => e)
  have p := p H1 g
  split at p
  · rename_i k c fs hi
    split at p
    · rename_i hm
      obtain ⟨u, hu, a, rfl, hO, hpa, C, dx, fvs, e1, e2, e3, e4⟩ := g.rep.slot i _ hi
      obtain ⟨C', m1, c1, n1⟩ := hc _ hm.1
      rw [e2] at m1
      cases m1
      have ln : fvs.length = fs.length := by have := congrArg List.length e3; simpa using this
      refine ⟨.ref a, hu, a, C, dx, fvs, rfl, e1, c1, n1, by rw [ln]; exact hm.2, ?_⟩
      have kp : Kp H1 O (upd H1 a (.ins C dx (putF n v fvs))) O := fun b w e nb => ⟨by rw [upd_ne fun z : b = a => nb (z ▸ hO)]; exact e, nb⟩
      obtain ⟨g2, k2⟩ := g.rep.writeC (ct' := .ins c (putD n d fs)) (o := .ins C dx (putF n v fvs)) hi hu ⟨C, dx, _, upd_same, e2, putD_names e3, putD_rp (r.kp kp) e3 fun i p q a1 a2 => (e4 i p q a1 a2).kp kp⟩
      exact p σ _ O k2 g2.rep
    · exact p.elim
  · exact p.elim
/-! ### properties -/
def fProp (c : Str) (m : Fn) (f : F) : F := fun ρ => (f ρ).bind fun d ρ1 => match d with
  | .ins c' fs => if c' = c then (match m [.dat (.ins c fs)] with
    | .ok d2 _ => .ok d2 ρ1
    | .okn ds _ => .ok (.lst ds) ρ1
    | _ => .stuck) else .stuck
  | _ => .stuck
theorem de_prop {c n : Str} {C p gA : Addr} {fd : FuncData} {ps : List Str} {m : Fn} {k : Nat} (hm : X.mg c = some (.ref C)) (cl : Cls X.K C) (hp : PropOf X.K C n p gA) (F : FnOk X.prog X.w X.K X.mg X.base (L2.CX X.prog X.w) k gA fd ps (spD X.K X.mg 1 m)) (hr : Room (k + 1) X.A)
    (hb : Binds X.K fd ps []) (he : DE X W e f) (hx : Passes (L2.CX X.prog X.w) X.nox (fun _ _ _ => False)) (hab : attributeBase e n X.env (eval e X.env) = eval e X.env := by rfl) : DE X W (.Attribute e n pos) (fProp c m f) := by
  obtain ⟨t, pa, ia⟩ := he
  refine ⟨_, pe_gProp pa cl hp F hr hb .nil hx hab, fun B ρ σ H O Q R p => ?_⟩
  unfold fProp at p
  rw [rpost_bind] at p
  refine ia B ρ σ H O _ R (p.mono (fun d ρ1 p x H1 g1 r1 => ?_) fun _ _ _ e => e)
  cases r1 with
  | ins h o g hn el =>
    dsimp only at p
    split at p
    · rename_i hc
      subst hc
      rw [hm] at g
      cases g
      refine ⟨_, _, _, rfl, h, ?_⟩
      refine call_post (ds := [.ins _ _]) g1.rep.live rfl (RpL.nil.cons (.ins h o hm hn el)) ?_
      split at p
      · rename_i d2 m2 q
        have q : m (List.map Slot.dat [D.ins _ _]) = .ok d2 m2 := q
        rw [q]
        exact fun v H2 s rv => p v H2 (g1.trans (.same g1.rep s)) rv
      · rename_i ds m2 q
        have q : m (List.map Slot.dat [D.ins _ _]) = .okn ds m2 := q
        rw [q]
        intro vs z H2 s hq rv
        have g2 := g1.trans (.same g1.rep s)
        have s2 := same_new (o := .lst vs) hq
        have r2 := rv.kp (O' := O) (Same.kp s2)
        exact p _ _ (g2.trans (.same g2.rep s2)) (.lst upd_same (fresh_not g2.rep.live hq) r2.1 r2.2)
      · exact p.elim
    · exact p.elim
  | _ => exact p.elim
end
end DL

set_option Elab.async false
set_option linter.all false
set_option maxRecDepth 100000
set_option autoImplicit false
/-! DLE: more built-ins by data: gcd, all, any, sum, min, max, sorted; methods. -/
namespace DL
open PySem PySem.Spec PyProof.Rows L2

section
variable {X : Cx} {W : Wi}
/-- f(e, ..), f a built-in function of a module -/
theorem de_callBf {x : Str} {id : String} {g : List D → Option D} {p' pos : Pos} {a : Expr} {es : List Expr} {fl : FL} (hc : CallV X (.builtin id) g) (hg : Gl X x) (hm : X.mg x = some (.builtin id)) (ha : DA X W (a :: es) fl) (hdb : (x == ("__debug__" : Str)) = false := by decide)
    (he : starEach (a :: es) X.env = (false, eval a X.env) :: starEach es X.env := by rfl) (hpl : (backTo pos (starEach es X.env)).any (·.1) = false := by rfl) : DE X W (.Call (.Name x p') (a :: es) [] pos) (fB g fl) := by
  obtain ⟨r, h1, h2⟩ := hc
  obtain ⟨t, pa, ia⟩ := ha
  refine ⟨_, pe_callBfun h1 hg hm pa hdb he hpl, fun B ρ σ H O Q R p => ?_⟩
  unfold fB at p
  rw [rpost_bind] at p
  refine ia B ρ σ H O _ R (p.mono (fun ds ρ1 p vs H1 g1 r1 => ?_) fun _ _ _ e => e)
  obtain ⟨d, e, p⟩ := rpost_of p
  exact h2 H1 O vs ds d Q g1.rep.live r1 e fun v H2 s r2 => p v H2 (g1.trans (.same g1.rep s)) r2
def gcdD : List D → Option D
  | [.int a, .int b] => some (.int ((Nat.gcd a.natAbs b.natAbs : Nat) : Int))
  | _ => none
theorem c_gcd : CallV X (.builtin "math.gcd") gcdD := by
  refine ⟨_, cr_gcd, fun H O xs as d Q lv r e q => ?_⟩
  unfold gcdD at e
  split at e
  · rename_i a b
    cases e
    obtain ⟨v, w, rfl, rv, rw'⟩ := r.two
    cases rv.int_inv
    cases rw'.int_inv
    exact ⟨a, b, rfl, q _ H (Same.refl H) (.int _)⟩
  · cases e
/-- a row of truths, of whole numbers -/
def bls : List D → Option (List Bool)
  | [] => some []
  | .bl b :: ds => (bls ds).map (b :: ·)
  | _ :: _ => none
def intsOf : List D → Option (List Int)
  | [] => some []
  | .int b :: ds => (intsOf ds).map (b :: ·)
  | _ :: _ => none
theorem bls_rp {K : PySem.W.Frag} {mg : Str → Option Value} {H : Hp} {O : Av} : ∀ {ds : List D} {vs : List V} {bs : List Bool}, RpL K mg H O vs ds → bls ds = some bs → vs = bs.map V.bl
  | [], vs, bs, r, e => by
    cases e
    exact List.eq_nil_of_length_eq_zero r.1
  | .bl b :: ds, vs, bs, r, e => by
    cases vs with
    | nil => exact nomatch r.1
    | cons v vs =>
      cases c : bls ds with
      | none => unfold bls at e; rw [c] at e; cases e
      | some bs' =>
        unfold bls at e
        rw [c] at e
        cases e
        have rr := r.uncons
        rw [rr.1.bl_inv, bls_rp rr.2 c]
        rfl
  | .non :: _, _, _, _, e => nomatch e
  | .int _ :: _, _, _, _, e => nomatch e
  | .str _ :: _, _, _, _, e => nomatch e
  | .lst _ :: _, _, _, _, e => nomatch e
  | .slst _ :: _, _, _, _, e => nomatch e
  | .tup _ :: _, _, _, _, e => nomatch e
  | .ins _ _ :: _, _, _, _, e => nomatch e
  | .emp :: _, _, _, _, e => nomatch e
theorem ints_inv {K : PySem.W.Frag} {mg : Str → Option Value} {H : Hp} {O : Av} : ∀ {ds : List D} {vs : List V} {bs : List Int}, RpL K mg H O vs ds → intsOf ds = some bs → vs = bs.map V.int
  | [], vs, bs, r, e => by
    cases e
    exact List.eq_nil_of_length_eq_zero r.1
  | .int b :: ds, vs, bs, r, e => by
    cases vs with
    | nil => exact nomatch r.1
    | cons v vs =>
      cases c : intsOf ds with
      | none => unfold intsOf at e; rw [c] at e; cases e
      | some bs' =>
        unfold intsOf at e
        rw [c] at e
        cases e
        have rr := r.uncons
        rw [rr.1.int_inv, ints_inv rr.2 c]
        rfl
  | .non :: _, _, _, _, e => nomatch e
  | .bl _ :: _, _, _, _, e => nomatch e
  | .str _ :: _, _, _, _, e => nomatch e
  | .lst _ :: _, _, _, _, e => nomatch e
  | .slst _ :: _, _, _, _, e => nomatch e
  | .tup _ :: _, _, _, _, e => nomatch e
  | .ins _ _ :: _, _, _, _, e => nomatch e
  | .emp :: _, _, _, _, e => nomatch e
/-- what stands in a list -/
def lstOf : D → Option (List D)
  | .lst ds => some ds
  | .slst ds => some ds
  | _ => none
theorem lstOf_rp {K : PySem.W.Frag} {mg : Str → Option Value} {H : Hp} {O : Av} {v : V} {d : D} {ds : List D} (r : Rp K mg H O v d) (e : lstOf d = some ds) : ∃ a vs, v = .ref a ∧ SqL K H a vs ∧ RpL K mg H O vs ds := by
  cases r with
  | lst h o n el => cases e; exact ⟨_, _, rfl, SqL.of h, n, el⟩
  | slst h n el => cases e; exact ⟨_, _, rfl, h.sq, n, el⟩
  | _ => cases e
def onL (k : List D → Option D) : List D → Option D
  | [a] => (lstOf a).bind k
  | _ => none
theorem onL_inv {K : PySem.W.Frag} {mg : Str → Option Value} {H : Hp} {O : Av} {xs : List V} {as : List D} {k : List D → Option D} {d : D} (r : RpL K mg H O xs as) (e : onL k as = some d) : ∃ a vs ds, xs = [.ref a] ∧ SqL K H a vs ∧ RpL K mg H O vs ds ∧ k ds = some d := by
  unfold onL at e
  split at e
  · rename_i a
    cases c : lstOf a with
    | none => rw [c] at e; cases e
    | some ds =>
      rw [c] at e
      obtain ⟨v, rfl, rv⟩ := r.one
      obtain ⟨p, vs, rfl, h1, h2⟩ := lstOf_rp rv c
      exact ⟨p, vs, ds, rfl, h1, h2, e⟩
  · cases e
def allD := onL fun ds => (bls ds).map fun bs => .bl (bs.all id)
def anyD := onL fun ds => (bls ds).map fun bs => .bl (bs.any id)
def sumD := onL fun ds => (intsOf ds).map fun ns => .int ns.sum
theorem c_all (hc : X.calm = true) : CallV X (.builtin "all") allD := by
  refine ⟨_, cr_all hc, fun H O xs as d Q lv r e q => ?_⟩
  obtain ⟨a, vs, ds, rfl, h1, h2, h3⟩ := onL_inv r e
  cases c : bls ds with
  | none => rw [c] at h3; cases h3
  | some bs => rw [c] at h3; cases h3; cases bls_rp h2 c; exact ⟨a, bs, rfl, h1, q _ H (Same.refl H) (.bl _)⟩
theorem c_any (hc : X.calm = true) : CallV X (.builtin "any") anyD := by
  refine ⟨_, cr_any hc, fun H O xs as d Q lv r e q => ?_⟩
  obtain ⟨a, vs, ds, rfl, h1, h2, h3⟩ := onL_inv r e
  cases c : bls ds with
  | none => rw [c] at h3; cases h3
  | some bs => rw [c] at h3; cases h3; cases bls_rp h2 c; exact ⟨a, bs, rfl, h1, q _ H (Same.refl H) (.bl _)⟩
theorem c_sum (hc : X.calm = true) : CallV X (.builtin "sum") sumD := by
  refine ⟨_, cr_sum hc, fun H O xs as d Q lv r e q => ?_⟩
  obtain ⟨a, vs, ds, rfl, h1, h2, h3⟩ := onL_inv r e
  cases c : intsOf ds with
  | none => rw [c] at h3; cases h3
  | some bs => rw [c] at h3; cases h3; cases ints_inv h2 c; exact ⟨a, bs, rfl, h1, q _ H (Same.refl H) (.int _)⟩
def minI : List Int → Option Int
  | [] => none
  | x :: xs => some (xs.foldl min x)
def maxI : List Int → Option Int
  | [] => none
  | x :: xs => some (xs.foldl max x)
theorem foldl_min_le : ∀ (xs : List Int) (x : Int), xs.foldl min x ≤ x ∧ ∀ y ∈ xs, xs.foldl min x ≤ y
  | [], x => ⟨Int.le_refl x, fun y h => nomatch h⟩
  | z :: xs, x => by
    obtain ⟨a, b⟩ := foldl_min_le xs (min x z)
    refine ⟨Int.le_trans a (Int.min_le_left _ _), fun y hy => ?_⟩
    rcases List.mem_cons.mp hy with h | h
    · rw [h]; exact Int.le_trans a (Int.min_le_right _ _)
    · exact b y h
theorem foldl_min_mem : ∀ (xs : List Int) (x : Int), xs.foldl min x = x ∨ xs.foldl min x ∈ xs
  | [], x => .inl rfl
  | z :: xs, x => by
    rcases foldl_min_mem xs (min x z) with h | h
    · by_cases e : x ≤ z
      · left; rw [List.foldl_cons, h]; exact Int.min_eq_left e
      · right; rw [List.foldl_cons, h, Int.min_eq_right (by omega)]; exact List.mem_cons_self
    · right; exact List.mem_cons_of_mem _ h
theorem foldl_max_le : ∀ (xs : List Int) (x : Int), x ≤ xs.foldl max x ∧ ∀ y ∈ xs, y ≤ xs.foldl max x
  | [], x => ⟨Int.le_refl x, fun y h => nomatch h⟩
  | z :: xs, x => by
    obtain ⟨a, b⟩ := foldl_max_le xs (max x z)
    refine ⟨Int.le_trans (Int.le_max_left _ _) a, fun y hy => ?_⟩
    rcases List.mem_cons.mp hy with h | h
    · rw [h]; exact Int.le_trans (Int.le_max_right _ _) a
    · exact b y h
theorem foldl_max_mem : ∀ (xs : List Int) (x : Int), xs.foldl max x = x ∨ xs.foldl max x ∈ xs
  | [], x => .inl rfl
  | z :: xs, x => by
    rcases foldl_max_mem xs (max x z) with h | h
    · by_cases e : z ≤ x
      · left; rw [List.foldl_cons, h]; exact Int.max_eq_left e
      · right; rw [List.foldl_cons, h, Int.max_eq_right (by omega)]; exact List.mem_cons_self
    · right; exact List.mem_cons_of_mem _ h
theorem minI_uniq {xs : List Int} {m k : Int} (e : minI xs = some k) (h : m ∈ xs) (hl : ∀ y ∈ xs, m ≤ y) : m = k := by
  cases xs with
  | nil => cases e
  | cons x xs =>
    cases e
    obtain ⟨a, b⟩ := foldl_min_le xs x
    have l1 : xs.foldl min x ≤ m := by rcases List.mem_cons.mp h with h | h; rw [h]; exact a; exact b m h
    have l2 : m ≤ xs.foldl min x := by
      rcases foldl_min_mem xs x with h | h
      · rw [h]; exact hl x List.mem_cons_self
      · exact hl _ (List.mem_cons_of_mem _ h)
    omega
theorem maxI_uniq {xs : List Int} {m k : Int} (e : maxI xs = some k) (h : m ∈ xs) (hl : ∀ y ∈ xs, y ≤ m) : m = k := by
  cases xs with
  | nil => cases e
  | cons x xs =>
    cases e
    obtain ⟨a, b⟩ := foldl_max_le xs x
    have l1 : m ≤ xs.foldl max x := by rcases List.mem_cons.mp h with h | h; rw [h]; exact a; exact b m h
    have l2 : xs.foldl max x ≤ m := by
      rcases foldl_max_mem xs x with h | h
      · rw [h]; exact hl x List.mem_cons_self
      · exact hl _ (List.mem_cons_of_mem _ h)
    omega
def minLD := onL fun ds => (intsOf ds).bind fun ns => (minI ns).map .int
def maxLD := onL fun ds => (intsOf ds).bind fun ns => (maxI ns).map .int
theorem c_minL (hc : X.calm = true) : CallV X (.builtin "min") minLD := by
  refine ⟨_, cr_min hc, fun H O xs as d Q lv r e q => ?_⟩
  obtain ⟨a, vs, ds, rfl, h1, h2, h3⟩ := onL_inv r e
  cases c : intsOf ds with
  | none => rw [c] at h3; cases h3
  | some bs =>
    rw [c] at h3
    cases ints_inv h2 c
    cases c2 : minI bs with
    | none => rw [Option.bind_some, c2] at h3; cases h3
    | some k =>
      rw [Option.bind_some, c2] at h3
      cases h3
      refine ⟨a, bs, rfl, h1, ?_, fun m hm hl => ?_⟩
      · cases bs with
        | nil => cases c2
        | cons _ _ => exact Nat.succ_pos _
      · rw [minI_uniq c2 hm hl]; exact q _ H (Same.refl H) (.int _)
theorem c_maxL (hc : X.calm = true) : CallV X (.builtin "max") maxLD := by
  refine ⟨_, cr_max hc, fun H O xs as d Q lv r e q => ?_⟩
  obtain ⟨a, vs, ds, rfl, h1, h2, h3⟩ := onL_inv r e
  cases c : intsOf ds with
  | none => rw [c] at h3; cases h3
  | some bs =>
    rw [c] at h3
    cases ints_inv h2 c
    cases c2 : maxI bs with
    | none => rw [Option.bind_some, c2] at h3; cases h3
    | some k =>
      rw [Option.bind_some, c2] at h3
      cases h3
      refine ⟨a, bs, rfl, h1, ?_, fun m hm hl => ?_⟩
      · cases bs with
        | nil => cases c2
        | cons _ _ => exact Nat.succ_pos _
      · rw [maxI_uniq c2 hm hl]; exact q _ H (Same.refl H) (.int _)
def min2D : List D → Option D
  | [.int i, .int j] => some (.int (if j < i then j else i))
  | _ => none
def max2D : List D → Option D
  | [.int i, .int j] => some (.int (if j > i then j else i))
  | _ => none
theorem c_min2 (hc : X.calm = true) : CallV X (.builtin "min") min2D := by
  refine ⟨_, call_min2 hc, fun H O xs as d Q lv r e q => ?_⟩
  unfold min2D at e
  split at e
  · rename_i i j
    cases e
    obtain ⟨v, w, rfl, rv, rw'⟩ := r.two
    cases rv.int_inv
    cases rw'.int_inv
    exact ⟨i, j, rfl, q _ H (Same.refl H) (.int _)⟩
  · cases e
theorem c_max2 (hc : X.calm = true) : CallV X (.builtin "max") max2D := by
  refine ⟨_, call_max2 hc, fun H O xs as d Q lv r e q => ?_⟩
  unfold max2D at e
  split at e
  · rename_i i j
    cases e
    obtain ⟨v, w, rfl, rv, rw'⟩ := r.two
    cases rv.int_inv
    cases rw'.int_inv
    exact ⟨i, j, rfl, q _ H (Same.refl H) (.int _)⟩
  · cases e
def minD := alt1 min2D minLD
def maxD := alt1 max2D maxLD
theorem c_min (hc : X.calm = true) : CallV X (.builtin "min") minD := (c_min2 hc).alt (c_minL hc)
theorem c_max (hc : X.calm = true) : CallV X (.builtin "max") maxD := (c_max2 hc).alt (c_maxL hc)
/-! sorted -/
def insI (x : Int) : List Int → List Int
  | [] => [x]
  | y :: ys => if x ≤ y then x :: y :: ys else y :: insI x ys
def srtI : List Int → List Int
  | [] => []
  | x :: xs => insI x (srtI xs)
theorem insI_perm (x : Int) : ∀ ys : List Int, (insI x ys).Perm (x :: ys)
  | [] => .refl _
  | y :: ys => by
    unfold insI
    split
    · exact .refl _
    · exact ((insI_perm x ys).cons y).trans (.swap x y ys)
theorem srtI_perm : ∀ xs : List Int, (srtI xs).Perm xs
  | [] => .refl _
  | x :: xs => (insI_perm x (srtI xs)).trans ((srtI_perm xs).cons x)
theorem insI_sorted (x : Int) : ∀ {ys : List Int}, ys.Pairwise (· ≤ ·) → (insI x ys).Pairwise (· ≤ ·)
  | [], _ => List.pairwise_singleton _ _
  | y :: ys, h => by
    rw [List.pairwise_cons] at h
    unfold insI
    split
    · rename_i hl
      refine List.pairwise_cons.mpr ⟨fun z hz => ?_, List.pairwise_cons.mpr h⟩
      rcases List.mem_cons.mp hz with e | e
      · rw [e]; exact hl
      · exact Int.le_trans hl (h.1 z e)
    · rename_i hl
      refine List.pairwise_cons.mpr ⟨fun z hz => ?_, insI_sorted x h.2⟩
      rcases List.mem_cons.mp ((insI_perm x ys).mem_iff.mp hz) with e | e
      · rw [e]; omega
      · exact h.1 z e
theorem srtI_sorted : ∀ xs : List Int, (srtI xs).Pairwise (· ≤ ·)
  | [] => .nil
  | x :: xs => insI_sorted x (srtI_sorted xs)
theorem sorted_uniq {xs ys : List Int} (p : xs.Perm ys) (a : xs.Pairwise (· ≤ ·)) (b : ys.Pairwise (· ≤ ·)) : xs = ys := p.eq_of_pairwise (fun x y _ _ h1 h2 => Int.le_antisymm h1 h2) a b
def sortD := onL fun ds => (intsOf ds).map fun ns => .lst ((srtI ns).map .int)
theorem c_sorted : CallV X (.builtin "sorted") sortD := by
  refine ⟨_, cr_sortedI, fun H O xs as d Q lv r e q => ?_⟩
  obtain ⟨a, vs, ds, rfl, h1, h2, h3⟩ := onL_inv r e
  cases c : intsOf ds with
  | none => rw [c] at h3; cases h3
  | some ns =>
    rw [c] at h3
    cases h3
    cases ints_inv h2 c
    refine ⟨a, ns, rfl, h1, fun ns' p hp hs hn => ?_⟩
    rw [sorted_uniq (hp.trans (srtI_perm ns).symm) hs (srtI_sorted ns)]
    exact q _ _ (same_new hn) (new_lst lv hn (ints_rp _))
end
end DL

set_option Elab.async false
set_option linter.all false
set_option maxRecDepth 100000
set_option autoImplicit false
/-! DLF: own errors without fields; methods; static methods. -/
namespace DL
open PySem PySem.Spec PyProof.Rows L2

section
variable {X : Cx} {W : Wi} {pos : Pos}
/-- C(), C an own error without an __init__ -/
theorem pmk_bare {C : Addr} {bmB : List Value} {B newId initId : String} {x : Str} {p : Pos} (F : ExcBaseFacts B newId initId bmB) (hq : PySem.W.excIn X.K C bmB newId = true) (gC : X.mg x = some (.ref C)) (kC : PySem.W.keepIn X.K (.ref C) = true)
    (r : Raises X (.ref C)) (hg : Gl X x) (hdb : (x == ("__debug__" : Str)) = false := by decide) : PMk X (.Call (.Name x p) [] [] pos) (fun _ H Q => Q (.ref C) none H) := fun pins s σ H Q I h => by
  refine wpAny_Call_Name_kw (ld_glob I hg gC (PySem.W.callWith_K0 (first := []) I.kIn kC ?_) hdb)
  obtain ⟨b1, b2, b3, b4, b5, b6, b7, b8, b9, c1, c2, c3, c4, c5, c6, c7, c8, oC, oN, oi, oT⟩ := exc_obj I.kIn hq
  exact wpAny_call_exc_subT (rest := []) F oT oC oN oi (fun h' e hm => mk_of I hm r h (I.hok.gone hm.new)) (Nat.zero_le _)
structure ErrB (K : PySem.W.Frag) (mg : Str → Option Value) (c : Str) (C : Addr) : Prop where
  at_ : mg c = some (.ref C)
  kp : PySem.W.keepIn K (.ref C) = true
  ex : PySem.W.excIn K C [.type "ValueError", .type "Exception", .type "BaseException", .type "object"] "ValueError.__new__" = true
  sub : PySem.W.subIn K (.ref C) (.type "BaseException") = some true
  ty : PySem.W.typeIn K (.ref C) = some (.type "type")
def gRaise0 (c : Str) : G := fun ρ => .err c [] ρ
theorem ds_raise0 {c : Str} {C : Addr} {p pos2 : Pos} (hc : X.calm = true) (T : ErrB X.K X.mg c C) (tk : Takes X W.w) (hg : Gl X c := by rfl) (hdb : (c == ("__debug__" : Str)) = false := by decide) :
    DS X W (.Raise (some (.Call (.Name c p) [] [] pos)) none pos2) (gRaise0 c) :=
  ⟨_, ps_raise hc tk (pmk_bare PySem.F.excBase_ValueError T.ex T.at_ T.kp (raises_own T.sub T.ty) hg hdb), fun B ρ σ H O D R p => p C none σ H O .refl R T.at_ (.inl ⟨rfl, rfl⟩)⟩
/-! ### methods -/
def tMt (C : Addr) (m : Str) (sp : Sp) (dvs : List V) (E : L2.St → XK) (ta : TE) (t : TA) : TE := fun σ H Q => ta σ H fun x H1 => ∃ a dx fs, x = .ref a ∧ H1 a = some (.ins C dx fs) ∧ fs.lookup m = none ∧ t σ H1 fun vs H2 => sp (x :: (vs ++ dvs)) H2 Q (E σ)
section
variable {CX : CXT} {k : Nat} {f C : Addr} {fd : FuncData} {ps : List Str} {sp : Sp} {dvs : List V} {ds : List Value} {E : L2.St → XK} {m : Str} {apos : Pos} {e o : Expr} {es : List Expr} {ta : TE} {t : TA}
theorem pe_mt {pl : Sem Bool} (he : PE X o ta) (c : Cls X.K C) (hm : Meth X.K C m f) (F : FnOk X.prog X.w X.K X.mg X.base CX k f fd ps sp) (hr : Room k X.A) (hb : Binds X.K fd ps ds) (hd : Vals dvs ds) (hx : ∀ σ, PassesAt CX X σ (E σ)) (ha : PA X (e :: es) t)
    (hst : starEach (e :: es) X.env = (false, eval e X.env) :: starEach es X.env := by rfl) (hpl : (backTo pos (starEach es X.env)).any (·.1) = false := by rfl)
    (ht : eval (.Call (.Attribute o m apos) (e :: es) [] pos) X.env = (eval o X.env >>= fun ov => standAt apos.atName >>= fun _ => holding [ov] (getMethod ov m pl) >>= fun fx => callWith pos fx.1 fx.2 (backTo pos (starEach (e :: es) X.env)) (backToKw pos (keywordEach [] X.env))) := by rfl) :
    PE X (.Call (.Attribute o m apos) (e :: es) [] pos) (tMt C m sp dvs E ta t) := ⟨fun pins s σ H Q I h => by
  refine PySem.W.methodCall_KW (pl := pl) (thn (he.run pins s σ H _ I h) fun u s1 ⟨x, H1, I1, rx, a, dx, fs, ex, ea, l, q⟩ => ?_) ht
  subst ex
  cases (show u = Value.ref a from rx)
  exact getmeth_ok I1 ea c hm l (PySem.W.callWith_K (first := [.ref a]) (h₀ := X.base) I.ok.mod.kin hm.kp (thn (ha.run pos pins s1 σ H1 _ I1 q) fun us s2 ⟨vs, H2, I2, r, q2⟩ =>
    ⟨I2.kIn, run_gD (us := .ref a :: us) (vs := .ref a :: vs) F hr hb hd (hx σ) I2 (.cons rfl r) q2⟩) hst hpl)⟩
theorem pe_mt0 {pl : Sem Bool} (he : PE X o ta) (c : Cls X.K C) (hm : Meth X.K C m f) (F : FnOk X.prog X.w X.K X.mg X.base CX k f fd ps sp) (hr : Room k X.A) (hb : Binds X.K fd ps ds) (hd : Vals dvs ds) (hx : ∀ σ, PassesAt CX X σ (E σ))
    (ht : eval (.Call (.Attribute o m apos) [] [] pos) X.env = (eval o X.env >>= fun ov => standAt apos.atName >>= fun _ => holding [ov] (getMethod ov m pl) >>= fun fx => callWith pos fx.1 fx.2 (backTo pos (starEach [] X.env)) (backToKw pos (keywordEach [] X.env))) := by rfl) :
    PE X (.Call (.Attribute o m apos) [] [] pos) (tMt C m sp dvs E ta tNil) := ⟨fun pins s σ H Q I h => by
  refine PySem.W.methodCall_KW (pl := pl) (thn (he.run pins s σ H _ I h) fun u s1 ⟨x, H1, I1, rx, a, dx, fs, ex, ea, l, q⟩ => ?_) ht
  subst ex
  cases (show u = Value.ref a from rx)
  exact getmeth_ok I1 ea c hm l (PySem.W.callWith_K0 (first := [.ref a]) I1.kIn hm.kp (run_gD (us := [.ref a]) (vs := [.ref a]) F hr hb hd (hx σ) I1 (.cons rfl .nil) q))⟩
end
def fMeth (c nm : Str) (n : Nat) (m : Fn) (dv : List D) (fo : F) (fl : FL) : F := fun ρ => (fo ρ).bind fun d ρ1 => match d with
  | .ins c' fs => if c' = c ∧ fs.lookup nm = none then (fl ρ1).bind fun ds ρ2 => if (ds ++ dv).length + 1 = n then (match m (.dat (.ins c fs) :: (ds ++ dv).map .dat) with
      | .ok d2 _ => .ok d2 ρ2
      | .okn ds2 _ => .ok (.lst ds2) ρ2
      | .err c2 fs2 _ => .err c2 fs2 ρ2
      | .stuck => .stuck) else .stuck else .stuck
  | _ => .stuck
theorem lookup_none {fvs : List (Str × V)} {fs : List (Str × D)} {f : Str} (h : fvs.map (·.1) = fs.map (·.1)) (e : fs.lookup f = none) : fvs.lookup f = none := by
  have key : ∀ {α : Type} (l : List (Str × α)), l.lookup f = none ↔ f ∉ l.map (·.1) := fun {α} l => by
    induction l with
    | nil => simp
    | cons p l ih =>
      obtain ⟨g, x⟩ := p
      rw [List.lookup_cons, List.map_cons, List.mem_cons]
      by_cases hb : (f == g) = true
      · rw [hb]
        simp [beq_iff_eq.mp hb]
      · have hb : (f == g) = false := by cases q : (f == g) with
          | true => exact absurd q hb
          | false => rfl
        rw [hb]
        have hn : f ≠ g := beq_eq_false_iff_ne.mp hb
        simp [hn, ih]
  rw [key, h]
  exact (key fs).mp e
/-- the end of a method's call -/
theorem meth_post {B : W.BB} {σ : Sl} {ρ ρ2 : En} {H H2 : Hp} {O : Av} {x : V} {c : Str} {fs : List (Str × D)} {vs : List V} {as : List D} {m : Fn} {n : Nat} {Q : VK} (g : Go X.K X.mg B.1 O σ ρ H ρ2 H2) (hn : as.length + 1 = n) (rx : Rp X.K X.mg H2 O x (.ins c fs)) (rd : RpL X.K X.mg H2 O vs as)
    (p : RPost (match m (.dat (.ins c fs) :: as.map .dat) with
      | .ok d2 _ => .ok d2 ρ2
      | .okn ds2 _ => .ok (.lst ds2) ρ2
      | .err c2 fs2 _ => .err c2 fs2 ρ2
      | .stuck => .stuck) (fun d ρ' => ∀ v H', Go X.K X.mg B.1 O σ ρ H ρ' H' → Rp X.K X.mg H' O v d → Q v H') (ErE X B.1 W O σ ρ H)) : spD X.K X.mg n m (x :: vs) H2 Q (WE W.w σ) := by
  refine call_post (ds := .ins c fs :: as) g.rep.live (by rw [List.length_cons]; exact hn) (.cons rx rd) ?_
  rw [List.map_cons]
  cases q : m (.dat (.ins c fs) :: as.map .dat) with
  | ok d _ =>
    rw [q] at p
    exact fun v H3 s rv => p v H3 (g.trans (.same g.rep s)) rv
  | okn ds _ =>
    rw [q] at p
    intro vs9 z H3 s hq rv
    have g2 := g.trans (.same g.rep s)
    have s2 := same_new (o := .lst vs9) hq
    have r2 := rv.kp (O' := O) (Same.kp s2)
    exact p _ _ (g2.trans (.same g2.rep s2)) (.lst upd_same (fresh_not g2.rep.live hq) r2.1 r2.2)
  | err c fs _ =>
    rw [q] at p
    exact fun C od H3 s m1 er => p C od H3 (g.trans (.same g.rep s)) m1 er
  | stuck => rw [q] at p; exact p.elim
theorem de_meth {c nm : Str} {C f : Addr} {fd : FuncData} {ps : List Str} {m : Fn} {k : Nat} {o a : Expr} {es : List Expr} {apos : Pos} {fo : F} {fl : FL} {dvs : List V} {ds : List Value} {dv : List D} {pl : Sem Bool} (hmc : X.mg c = some (.ref C)) (cl : Cls X.K C) (hM : Meth X.K C nm f)
    (F : FnOk X.prog X.w X.K X.mg X.base (L2.CX X.prog X.w) k f fd ps (spD X.K X.mg ps.length m)) (hr : Room k X.A) (hb : Binds X.K fd ps ds) (hd : Vals dvs ds) (hdv : ∀ H O, (∀ z, O z → H z ≠ none) → RpL X.K X.mg H O dvs dv) (tk : Takes X W.w) (ho : DE X W o fo) (ha : DA X W (a :: es) fl)
    (hst : starEach (a :: es) X.env = (false, eval a X.env) :: starEach es X.env := by rfl) (hpl : (backTo pos (starEach es X.env)).any (·.1) = false := by rfl)
    (ht : eval (.Call (.Attribute o nm apos) (a :: es) [] pos) X.env = (eval o X.env >>= fun ov => standAt apos.atName >>= fun _ => holding [ov] (getMethod ov nm pl) >>= fun fx => callWith pos fx.1 fx.2 (backTo pos (starEach (a :: es) X.env)) (backToKw pos (keywordEach [] X.env))) := by rfl) :
    DE X W (.Call (.Attribute o nm apos) (a :: es) [] pos) (fMeth c nm ps.length m dv fo fl) := by
  obtain ⟨to, po, io⟩ := ho
  obtain ⟨t, pa, ia⟩ := ha
  refine ⟨_, pe_mt po cl hM F hr hb hd (fun σ => passAt tk σ) pa hst hpl ht, fun B ρ σ H O Q R p => ?_⟩
  unfold fMeth at p
  rw [rpost_bind] at p
  refine io B ρ σ H O _ R (p.mono (fun d ρ1 p x H1 g1 r1 => ?_) fun _ _ _ e => e)
  cases r1 with
  | ins h ho gm hn el =>
    dsimp only at p
    split at p
    rotate_left
    · exact p.elim
    rename_i hc
    obtain ⟨hc, hl⟩ := hc
    subst hc
    have gm2 := gm
    rw [hmc] at gm
    cases gm
    refine ⟨_, _, _, rfl, h, lookup_none hn hl, ?_⟩
    rw [rpost_bind] at p
    refine ia B ρ1 σ H1 O _ g1.rep (p.mono (fun as ρ2 p vs H2 g2 r2 => ?_) (ErE.on g1))
    split at p
    · rename_i hlen
      exact meth_post (g1.trans g2) hlen ((Rp.ins h ho gm2 hn el).kp (g2.kp g1.rep)) (r2.app (hdv H2 O g2.rep.live)) p
    · exact p.elim
  | _ => exact p.elim
theorem rpost_ok {α : Type} {a : α} {ρ : En} {ok : α → En → Prop} {er : Str → List (Str × D) → En → Prop} (p : RPost (R.ok a ρ) ok er) : ok a ρ := p
theorem de_meth0 {c nm : Str} {C f : Addr} {fd : FuncData} {ps : List Str} {m : Fn} {k : Nat} {o : Expr} {apos : Pos} {fo : F} {dvs : List V} {ds : List Value} {dv : List D} {pl : Sem Bool} (hmc : X.mg c = some (.ref C)) (cl : Cls X.K C) (hM : Meth X.K C nm f)
    (F : FnOk X.prog X.w X.K X.mg X.base (L2.CX X.prog X.w) k f fd ps (spD X.K X.mg ps.length m)) (hr : Room k X.A) (hb : Binds X.K fd ps ds) (hd : Vals dvs ds) (hdv : ∀ H O, (∀ z, O z → H z ≠ none) → RpL X.K X.mg H O dvs dv) (tk : Takes X W.w) (ho : DE X W o fo)
    (ht : eval (.Call (.Attribute o nm apos) [] [] pos) X.env = (eval o X.env >>= fun ov => standAt apos.atName >>= fun _ => holding [ov] (getMethod ov nm pl) >>= fun fx => callWith pos fx.1 fx.2 (backTo pos (starEach [] X.env)) (backToKw pos (keywordEach [] X.env))) := by rfl) :
    DE X W (.Call (.Attribute o nm apos) [] [] pos) (fMeth c nm ps.length m dv fo fNil) := by
  obtain ⟨to, po, io⟩ := ho
  refine ⟨_, pe_mt0 po cl hM F hr hb hd (fun σ => passAt tk σ) ht, fun B ρ σ H O Q R p => ?_⟩
  unfold fMeth at p
  rw [rpost_bind] at p
  refine io B ρ σ H O _ R (p.mono (fun d ρ1 p x H1 g1 r1 => ?_) fun _ _ _ e => e)
  cases r1 with
  | ins h ho gm hn el =>
    dsimp only at p
    split at p
    rotate_left
    · exact p.elim
    rename_i hc
    obtain ⟨hc, hl⟩ := hc
    subst hc
    have gm2 := gm
    rw [hmc] at gm
    cases gm
    refine ⟨_, _, _, rfl, h, lookup_none hn hl, ?_⟩
    rw [rpost_bind] at p
    unfold fNil at p
    have p := rpost_ok p
    by_cases hlen : ([] ++ dv : List D).length + 1 = ps.length
    rotate_left
    · rw [if_neg hlen] at p
      exact p.elim
    rw [if_pos hlen] at p
    exact meth_post (vs := [] ++ dvs) (as := [] ++ dv) g1 hlen (Rp.ins h ho gm2 hn el) (RpL.nil.app (hdv H1 O g1.rep.live)) p
  | _ => exact p.elim
end
end DL

set_option Elab.async false
set_option linter.all false
set_option maxRecDepth 100000
set_option autoImplicit false
/-! DLG: isinstance of own classes. -/
namespace DL
open PySem PySem.Spec PyProof.Rows L2
/-- an own class as the type of its instances -/
structure InsC (K : PySem.W.Frag) (C : Addr) : Prop where
  cl : Cls K C
  ha : PySem.W.findIn K (.ref C) "__class__" = some (some (.builtin "object.__class__"))
  hn : PySem.W.specialIn K (.builtin "object.__class__") "__get__" = some (some (.builtin "getset_descriptor.__get__"))
  tk : PySem.W.takesIn K (.builtin "object.__class__") = some true
  ob : PySem.W.mroIn K C (.type "object") = some true
def fIsiC (bt : String → Option Bool) (tab : Str → Option Bool) (f : F) : F := fun ρ => (f ρ).bind fun d ρ1 => match d with
  | .ins c _ => (match tab c with
    | some b => .ok (.bl b) ρ1
    | none => .stuck)
  | d => (match d.ty with
    | some t => (match bt t with
      | some b => .ok (.bl b) ρ1
      | none => .stuck)
    | none => .stuck)
theorem de_isiC {X : Cx} {W : Wi} {e : Expr} {f : F} {x : Str} {C : Addr} {bt : String → Option Bool} {tab : Str → Option Bool} {p p2 pos : Pos} (hm : X.mg "isinstance" = none) (hmC : X.mg x = some (.ref C))
    (hb : ∀ t b, bt t = some b → PySem.W.kitOne X.K (.type t) (.ref C) = some b) (ht : ∀ c b C', tab c = some b → X.mg c = some (.ref C') → InsC X.K C' ∧ PySem.W.kitOne X.K (.ref C') (.ref C) = some b) (he : DE X W e f) (hg : Gl X "isinstance" := by rfl) (hgC : Gl X x := by rfl) (hd : (x == ("__debug__" : Str)) = false := by decide)
    (hs1 : starEach [.Name x p2] X.env = (false, eval (.Name x p2) X.env) :: starEach [] X.env := by rfl) (hs : starEach [e, .Name x p2] X.env = (false, eval e X.env) :: starEach [.Name x p2] X.env := by rfl)
    (hpl : (backTo pos (starEach [.Name x p2] X.env)).any (·.1) = false := by rfl) : DE X W (.Call (.Name "isinstance" p) [e, .Name x p2] [] pos) (fIsiC bt tab f) := by
  obtain ⟨t, pe, ie⟩ := he
  refine ⟨_, pe_callB call_isi hg hm (by decide +kernel) (pa_cons pe (pa_cons (pe_glob (v := .ref C) hgC hmC rfl hd) pa_nil hs1) hs) (by decide) (by decide) hs hpl, fun B ρ σ H O Q R p => ?_⟩
  unfold fIsiC at p
  rw [rpost_bind] at p
  refine ie B ρ σ H O _ R (p.mono (fun d ρ1 p v H1 g r => ?_) fun _ _ _ e => e)
  split at p
  · rename_i c fs
    split at p
    · rename_i b hb1
      cases r with
      | ins h o gm n el =>
        obtain ⟨i1, i2⟩ := ht c b _ hb1 gm
        exact ⟨_, .ref C, .ref _, .ref C, b, rfl, .own C, .base (.ins h i1.cl i1.ha i1.hn i1.tk i1.ob), i2, p _ H1 g (.bl b)⟩
    · exact p.elim
  · split at p
    · rename_i t hty
      split at p
      · rename_i b hb1
        exact ⟨v, .ref C, .type t, .ref C, b, rfl, .own C, tyx_of r hty, hb t b hb1, p _ H1 g (.bl b)⟩
      · exact p.elim
    · exact p.elim
end DL

set_option Elab.async false
set_option linter.all false
set_option maxRecDepth 100000
set_option autoImplicit false
/-! DLH: == by an own __eq__. -/
namespace DL
open PySem PySem.Spec PyProof.Rows L2
section
variable {X : Cx} {C f : Addr} {fd : FuncData} {ps : List Str} {sp : Sp} {k : Nat}
def rIE (K : PySem.W.Frag) (C : Addr) (sp : Sp) : R2 := fun x y H Q => ∃ a dx fs b C' dy gs, x = .ref a ∧ y = .ref b ∧ H a = some (.ins C dx fs) ∧ H b = some (.ins C' dy gs) ∧ PySem.W.notFirst K C (.ref C') = true ∧ sp [x, y] H Q (fun _ _ _ => False)
theorem op_ie (F : FnOk X.prog X.w X.K X.mg X.base (L2.CX X.prog X.w) k f fd ps sp) (hs : PySem.W.findIn X.K (.ref C) "__eq__" = some (some (.ref f))) (hf : PySem.W.isFn X.K (.ref f) = true) (hb : Binds X.K fd ps []) (hr : Room k X.A)
    (hx : Passes (L2.CX X.prog X.w) X (fun _ _ _ => False)) : OpR X (compareOp .Eq) (rIE X.K C sp) := fun pins s σ H x y v u Q I rx ry h => by
  obtain ⟨a, dx, fs, b, C', dy, gs, ex, ey, ha, h2, hn, q⟩ := h
  subst ex ey
  cases (show v = Value.ref a from rx)
  cases (show u = Value.ref b from ry)
  obtain ⟨_, j1, _⟩ := ins_get I.hok ha
  obtain ⟨_, j2, _⟩ := ins_get I.hok h2
  obtain ⟨_, i1, _⟩ := j1.look
  obtain ⟨_, i2, _⟩ := j2.look
  obtain ⟨_, fr⟩ := I.fr
  have rr : Vals [V.ref a, V.ref b] [Value.ref a, Value.ref b] := .cons rfl (.cons rfl .nil)
  have run := run_g (us := [.ref a, .ref b]) (vs := [.ref a, .ref b]) (dvs := []) (ds := []) F hr hb .nil hx I rr (by rw [List.append_nil]; exact q)
  refine PySem.W.cmp_K (op := .Eq) (tb := .ref C') hr.units0 fr I.ok.mod.kin i1 i2.type hn hs hf (wpAny_mono run (fun w s' z => ?_) fun _ _ x => x)
  obtain ⟨z, H', I', rz, qz⟩ := z
  exact SlX.cmpback rz ⟨z, H', I', rz, qz⟩
/-- a == b, a of the class c, b of one of the classes cs -/
def eqI (c : Str) (cs : List Str) (m : Fn) : D → D → Option D := fun a b => match a, b with
  | .ins c1 fs, .ins c2 gs => if c1 = c ∧ c2 ∈ cs then (match m [.dat (.ins c1 fs), .dat (.ins c2 gs)] with
    | .ok d _ => some d
    | _ => none) else none
  | _, _ => none
theorem o_eqI {c : Str} {cs : List Str} {m : Fn} (hm : X.mg c = some (.ref C)) (hn : ∀ c2 ∈ cs, ∃ C', X.mg c2 = some (.ref C') ∧ PySem.W.notFirst X.K C (.ref C') = true) (F : FnOk X.prog X.w X.K X.mg X.base (L2.CX X.prog X.w) k f fd ps (spD X.K X.mg 2 m))
    (hs : PySem.W.findIn X.K (.ref C) "__eq__" = some (some (.ref f))) (hf : PySem.W.isFn X.K (.ref f) = true) (hb : Binds X.K fd ps []) (hr : Room k X.A) (hx : Passes (L2.CX X.prog X.w) X (fun _ _ _ => False)) : Op2 X (compareOp .Eq) (eqI c cs m) := by
  refine ⟨_, op_ie F hs hf hb hr hx, fun H O x y a b d Q lv rx ry e q => ?_⟩
  unfold eqI at e
  split at e
  · rename_i c1 fs c2 gs
    split at e
    rotate_left
    · cases e
    rename_i hc
    obtain ⟨h1, h2⟩ := hc
    subst h1
    have r2 := RpL.nil.cons ry |>.cons rx
    cases rx with
    | ins a1 a2 a3 a4 a5 =>
      cases ry with
      | ins b1 b2 b3 b4 b5 =>
        rw [hm] at a3
        cases a3
        obtain ⟨C', m2, n2⟩ := hn _ h2
        rw [b3] at m2
        cases m2
        refine ⟨_, _, _, _, _, _, _, rfl, rfl, a1, b1, n2, call_post (ds := [.ins c1 fs, .ins c2 gs]) lv rfl r2 ?_⟩
        cases z : m (List.map Slot.dat [D.ins c1 fs, D.ins c2 gs]) with
        | ok d' w =>
          have z : m [.dat (.ins c1 fs), .dat (.ins c2 gs)] = .ok d' w := z
          rw [z] at e
          cases e
          exact fun v H' s rv => q v H' s rv
        | okn ds w =>
          have z : m [.dat (.ins c1 fs), .dat (.ins c2 gs)] = .okn ds w := z
          rw [z] at e
          cases e
        | err c3 fs3 w =>
          have z : m [.dat (.ins c1 fs), .dat (.ins c2 gs)] = .err c3 fs3 w := z
          rw [z] at e
          cases e
        | stuck =>
          have z : m [.dat (.ins c1 fs), .dat (.ins c2 gs)] = .stuck := z
          rw [z] at e
          cases e
  · cases e
end
end DL

set_option Elab.async false
set_option linter.all false
set_option maxRecDepth 100000
set_option autoImplicit false
/-! DLI: len of an own thing. -/
namespace DL
open PySem PySem.Spec PyProof.Rows L2
section
variable {X : Cx} {C f : Addr} {fd : FuncData} {ps : List Str} {sp : Sp} {k : Nat}
def rLI (C : Addr) (sp : Sp) : List V → Hp → VK → Prop := fun xs H Q => ∃ a dx fs, xs = [.ref a] ∧ H a = some (.ins C dx fs) ∧ sp [.ref a] H (fun z H' => ∃ i : Int, z = .int i ∧ 0 ≤ i ∧ i < 2 ^ 62 ∧ Q (.int i) H') (fun _ _ _ => False)
theorem call_li (F : FnOk X.prog X.w X.K X.mg X.base (L2.CX X.prog X.w) k f fd ps sp) (hs : PySem.W.findIn X.K (.ref C) "__len__" = some (some (.ref f))) (hf : PySem.W.isFn X.K (.ref f) = true) (hb : Binds X.K fd ps []) (hr : Room (k + 1) X.A)
    (hx : Passes (L2.CX X.prog X.w) X (fun _ _ _ => False)) : CallR X (.builtin "len") (rLI C sp) := fun pins s σ H xs us Q I r h => by
  obtain ⟨a, dx, fs, ex, ha, q⟩ := h
  subst ex
  rw [Vals.ref1 r]
  obtain ⟨_, j1, _⟩ := ins_get I.hok ha
  obtain ⟨_, i1, _⟩ := j1.look
  obtain ⟨_, fr⟩ := I.fr
  have ln := F.len _ _ _ _ q
  have bd := hb s [.ref a] I.kIn (by rw [List.append_nil]; exact ln)
  rw [List.append_nil] at bd
  refine PySem.W.len_K fr I.ok.mod.kin i1 hs hf (wpAny_call (codeAny_mono (F.run X.A.in1 X.stack s H ⟨[.ref a], []⟩ [.ref a] [.ref a] _ _ hr.in1 I.env0.in1 bd (.cons rfl .nil) q) fun o z hz => ?_))
  match o, hz with
  | .error e, hz => exact hx pins σ H s e z I hz
  | .ok .next, hz => exact hz.elim
  | .ok .brk, hz => exact hz.elim
  | .ok .cont, hz => exact hz.elim
  | .ok (.ret u), hz =>
    obtain ⟨v, H', I3, rv, i, ei, g0, g1, q3⟩ := I.after hz
    subst ei
    obtain ⟨t, rfl⟩ := (show ∃ t, u = Value.int i t from rv)
    exact ⟨⟨g0, by omega⟩, .int i, H', I3.tok _, ⟨_, rfl⟩, q3⟩
def lenI (c : Str) (m : Fn) : List D → Option D
  | [.ins c' fs] => if c' = c then (match m [.dat (.ins c fs)] with
    | .ok (.int i) _ => if 0 ≤ i ∧ i < 2 ^ 62 then some (.int i) else none
    | _ => none) else none
  | _ => none
theorem c_lenI {c : Str} {m : Fn} (hm : X.mg c = some (.ref C)) (F : FnOk X.prog X.w X.K X.mg X.base (L2.CX X.prog X.w) k f fd ps (spD X.K X.mg 1 m)) (hs : PySem.W.findIn X.K (.ref C) "__len__" = some (some (.ref f))) (hf : PySem.W.isFn X.K (.ref f) = true) (hb : Binds X.K fd ps [])
    (hr : Room (k + 1) X.A) (hx : Passes (L2.CX X.prog X.w) X (fun _ _ _ => False)) : CallV X (.builtin "len") (lenI c m) := by
  refine ⟨_, call_li F hs hf hb hr hx, fun H O xs as d Q lv r e q => ?_⟩
  unfold lenI at e
  split at e
  · rename_i c' fs
    obtain ⟨v, rfl, rv⟩ := r.one
    split at e
    rotate_left
    · cases e
    rename_i hc
    subst hc
    have rv2 := rv
    cases rv with
    | ins a1 a2 a3 a4 a5 =>
      rw [hm] at a3
      cases a3
      refine ⟨_, _, _, rfl, a1, call_post (ds := [.ins c' fs]) lv rfl (RpL.nil.cons rv2) ?_⟩
      cases z : m (List.map Slot.dat [D.ins c' fs]) with
      | ok d' w =>
        have z : m [.dat (.ins c' fs)] = .ok d' w := z
        rw [z] at e
        cases d' with
        | int i =>
          dsimp only at e
          split at e
          · rename_i hi
            cases e
            exact fun v H' s rv => by
              rw [rv.int_inv]
              exact ⟨i, rfl, hi.1, hi.2, q _ H' s (.int i)⟩
          · cases e
        | _ => cases e
      | okn ds w =>
        have z : m [.dat (.ins c' fs)] = .okn ds w := z
        rw [z] at e
        cases e
      | err c3 fs3 w =>
        have z : m [.dat (.ins c' fs)] = .err c3 fs3 w := z
        rw [z] at e
        cases e
      | stuck =>
        have z : m [.dat (.ins c' fs)] = .stuck := z
        rw [z] at e
        cases e
  · cases e
end
end DL

set_option Elab.async false
set_option linter.all false
set_option maxRecDepth 100000
set_option autoImplicit false
/-! DLJ: written tuples, while with fuel, x is True, rows for the walk of classes. -/
namespace DL
open PySem PySem.Spec PyProof.Rows L2
theorem sqt_mk {K : PySem.W.Frag} {T : Addr} {od : Option Addr} {its : List Value} {n : Nat} {sl : Array (Option Value)} {vs : List V} (h : K.lookup T = some ⟨.type "tuple", od, .seq its.toArray n, sl⟩) (r : Vals vs its) (hl : its.length ≤ 1000) : SqT K h0 T vs :=
  .inr ⟨_, its.toArray, n, h, rfl, rfl, by rw [List.size_toArray, sizeLine_eq]; omega, r⟩
theorem const_tup {K : PySem.W.Frag} {mg : Str → Option Value} {T : Addr} {vs : List V} {ds : List D} (h : SqT K h0 T vs) (r : ∀ H O, RpL K mg H O vs ds) : ∀ (H : Hp) (O : Av), (∀ z, O z → H z ≠ none) → Rp K mg H O (.ref T) (.tup ds) :=
  fun H O _ => .tup (.inr h) (r H O).1 (r H O).2
/-- how many turns a while may take: more than any that the texts take -/
def size1 : D → Nat
  | .int i => i.natAbs
  | .lst ds => ds.length
  | .slst ds => ds.length
  | .tup ds => ds.length
  | _ => 0
def fuel (ρ : En) : Nat := (ρ.map fun o => match o with
  | some (.dat d) => size1 d + 2
  | some (.own ds) => ds.length + 2
  | _ => 2).sum
/-- x is True, x is False -/
def isBl (k : Bool) : D → D → Option D := fun a b => match b with
  | .bl c => if c = k then (match a with
    | .bl x => some (.bl (x == k))
    | .non => some (.bl false)
    | .int _ => some (.bl false)
    | .str _ => some (.bl false)
    | .lst _ => some (.bl false)
    | .slst _ => some (.bl false)
    | .tup _ => some (.bl false)
    | .ins _ _ => some (.bl false)
    | .emp => some (.bl false)) else none
  | _ => none
end DL
namespace DL
open PySem PySem.Spec PyProof.Rows L2
theorem pass_none {X : Cx} : Passes (L2.CX X.prog X.w) X (fun _ _ _ => False) := fun _ _ _ _ _ _ _ h => by
  obtain ⟨_, _, _, _, _, _, _, _, _, _, _, _, z⟩ := h
  exact z.elim
/-- what isinstance says of an own class -/
theorem kit_own {K : PySem.W.Frag} {C : Addr} {t : Value} {b : Bool} (h2 : PySem.W.isClsIn K C = true) (h3 : PySem.W.typeIn K (.ref C) = some (.type "type")) (h4 : PySem.W.subIn K t (.ref C) = some b) (h5 : (t == .ref C) = false) : PySem.W.kitOne K t (.ref C) = some b := by
  have e2 : (PySem.W.clsIn K C).isSome = true := h2
  unfold PySem.W.kitOne PySem.W.kitCls
  rw [h5, if_neg Bool.false_ne_true]
  dsimp only
  rw [e2, h3]
  exact h4
theorem kit_self {K : PySem.W.Frag} {C : Addr} : PySem.W.kitOne K (.ref C) (.ref C) = some true := by
  unfold PySem.W.kitOne
  rw [if_pos (by simp)]
theorem nf_self {K : PySem.W.Frag} {C : Addr} : PySem.W.notFirst K C (.ref C) = true := by simp [PySem.W.notFirst]
end DL

set_option Elab.async false
set_option linter.all false
set_option maxRecDepth 100000
set_option autoImplicit false
/-! DLK: two new lists at once. -/
namespace DL
open PySem PySem.Spec PyProof.Rows L2
/-- a list in O that no slot holds is taken by a slot -/
theorem Rep.claim {K : PySem.W.Frag} {mg : Str → Option Value} {B : Base} {O : Av} {ρ : En} {σ : Sl} {H : Hp} {i : Nat} {p : Addr} {vs : List V} {ds : List D} (R : Rep K mg B O ρ σ H) (hO : O p) (hm : ¬ Mu ρ σ p) (hb : B.H0 p = none) (e : H p = some (.lst vs)) (r : RpL K mg H O vs ds) :
    Rep K mg B O (ρ.set i (some (.own ds))) (σ.set i (some (.ref p))) H where
  len := by rw [List.length_set, List.length_set, R.len]
  slot := fun j s h => by
    by_cases hj : i = j
    · subst hj
      have l : i < ρ.length := by have := (List.getElem?_eq_some_iff.mp h).1; rwa [List.length_set] at this
      rw [List.getElem?_set_self l] at h
      cases h
      exact ⟨.ref p, List.getElem?_set_self (R.len ▸ l), p, rfl, hO, hb, vs, e, r⟩
    · rw [List.getElem?_set_ne hj] at h
      obtain ⟨w, h1, h2⟩ := R.slot j s h
      exact ⟨w, (List.getElem?_set_ne hj).trans h1, h2⟩
  apart := fun j k s t a h1 h2 m1 m2 e1 e2 => by
    have old : ∀ {j : Nat} {s : Slot}, i ≠ j → (ρ.set i (some (.own ds)))[j]? = some (some s) → s.mu = true → (σ.set i (some (.ref p)))[j]? = some (some (.ref a)) → ρ[j]? = some (some s) ∧ σ[j]? = some (some (.ref a)) ∧ a ≠ p := fun {j s} hj h m ea => by
      rw [List.getElem?_set_ne hj] at h ea
      exact ⟨h, ea, fun z => hm ⟨j, s, h, m, z ▸ ea⟩⟩
    have new : (σ.set i (some (.ref p)))[i]? = some (some (.ref a)) → a = p := fun ea => by
      have l : i < σ.length := by have := (List.getElem?_eq_some_iff.mp ea).1; rwa [List.length_set] at this
      rw [List.getElem?_set_self l] at ea
      cases ea
      rfl
    by_cases hj : i = j
    · by_cases hk : i = k
      · exact hj.symm.trans hk
      · subst hj
        exact absurd (new e1) (old hk h2 m2 e2).2.2
    · obtain ⟨a1, a2, a3⟩ := old hj h1 m1 e1
      by_cases hk : i = k
      · subst hk
        exact absurd (new e2) a3
      · obtain ⟨b1, b2, _⟩ := old hk h2 m2 e2
        exact R.apart j k s t a a1 b1 m1 m2 a2 b2
  base := R.base
  live := R.live
  o0 := R.o0
  b0 := R.b0
  pao := R.pao
def gOwn2 (i j : Nat) (f g : FL) : G := fun ρ => (f ρ).sr fun xs ρ1 => (g ρ1).sr fun ys ρ2 => .nx ((ρ2.set i (some (.own xs))).set j (some (.own ys)))
section
variable {X : Cx} {W : Wi} {pos : Pos}
theorem ds_own2 {i j : Nat} {x y : Str} {a b : Expr} {f g : FL} {px py pt : Pos} {kt k2 : Nat} {pt2 : Pos} (hc : X.calm = true) (hN : X.N.Nodup) (ha : DN X W a f) (hb : DN X W b g) (hi : X.N[i]? = some x := by rfl) (hj : X.N[j]? = some y := by rfl) (hij : i ≠ j := by decide)
    (hx : X.env.scope.names.lookup x = some .local := by rfl) (hy : X.env.scope.names.lookup y = some .local := by rfl)
    (hw : swappedStores [.Tuple [.Name x px, .Name y py] kt pt] (.Tuple [a, b] k2 pt2) X.env = pure (some [x, y]) := by rfl)
    (hs : swapsWithSole [.Tuple [.Name x px, .Name y py] kt pt] (.Tuple [a, b] k2 pt2) pos.line X.env = pure false := by rfl)
    (h1 : starEach [a, b] X.env = (false, eval a X.env) :: starEach [b] X.env := by rfl) (h2 : starEach [b] X.env = (false, eval b X.env) :: starEach [] X.env := by rfl) :
    DS X W (.Assign [.Tuple [.Name x px, .Name y py] kt pt] (.Tuple [a, b] k2 pt2) pos) (gOwn2 i j f g) := by
  obtain ⟨ta, pa, ia⟩ := ha
  obtain ⟨tb, pb, ib⟩ := hb
  refine ⟨_, ps_par hc hN hi hj hij hx hy (pa_cons pa (pa_cons pb pa_nil h2) h1) hw hs, fun B ρ σ H O D R p => ?_⟩
  refine ia B ρ σ H O _ R ((spost_sr R p).mono (fun xs ρ1 p vs q H1 g1 hq r1 => ?_) fun _ _ _ e => e)
  have p := p H1 g1
  have R1 : Rep X.K X.mg B.1 (O.add q) ρ1 σ (upd H1 q (.lst vs)) := g1.rep.grow hq
  have nm : ¬ Mu ρ1 σ q := fun m => g1.rep.live q (g1.rep.mu_O m) hq
  have k1 : Kp H1 O (upd H1 q (.lst vs)) (O.add q) := kp_add hq
  refine ib B ρ1 σ _ (O.add q) _ R1 ((spost_sr R1 (SPost.on k1 p)).mono (fun ys ρ2 p ws z H2 g2 hz r2 => ?_) fun _ _ _ e => e)
  have p := p H2 g2
  have e2 : H2 q = some (.lst vs) := g2.fr q _ upd_same nm
  have nm2 : ¬ Mu ρ2 σ q := fun m => nm (mu_of_kinds g2.kd m)
  have k2 : Kp H1 O H2 (O.add q) := k1.trans (g2.kp R1)
  have Rc := (g2.rep.claim (i := i) (.inr rfl) nm2 (g1.rep.h0 hq) e2 (r1.kp k2)).setOwn (i := j) hz r2
  refine ⟨.ref q, .ref z, rfl, p _ (upd H2 z (.lst ws)) ((O.add q).add z) ?_ Rc⟩
  exact kp_add hz
end
end DL

set_option Elab.async false
set_option linter.all false
set_option maxRecDepth 100000
set_option autoImplicit false
/-! DLL: is of truths, xs[::-1], range down, name += e. -/
namespace DL
open PySem PySem.Spec PyProof.Rows L2
section
variable {X : Cx} {W : Wi} {pos : Pos}
def isB2 (neg : Bool) : D → D → Option D := fun a b => match a, b with
  | .bl x, .bl y => some (.bl (if neg = true then !decide (x = y) else decide (x = y)))
  | _, _ => none
theorem o_isB : Op2 X (compareOp .Is) (isB2 false) := by
  refine ⟨_, op_isBl, fun H O x y a b d Q lv rx ry e q => ?_⟩
  unfold isB2 at e
  split at e
  · cases e
    exact ⟨_, _, rx.bl_inv, ry.bl_inv, q _ H (Same.refl H) (.bl _)⟩
  · cases e
theorem o_notB : Op2 X (compareOp .IsNot) (isB2 true) := by
  refine ⟨_, op_notBl, fun H O x y a b d Q lv rx ry e q => ?_⟩
  unfold isB2 at e
  split at e
  · cases e
    exact ⟨_, _, rx.bl_inv, ry.bl_inv, q _ H (Same.refl H) (.bl _)⟩
  · cases e
/-- xs[::-1] of a list -/
def fRev (f : F) : FL := fun ρ => (f ρ).bind fun d ρ1 => R.of ((lstOf d).map List.reverse) ρ1
theorem dn_rev {e : Expr} {f : F} {k : Nat} {p1 p2 p3 : Pos} (he : DE X W e f) : DN X W (.Subscript e (.Slice none none (some (.UnaryOp .USub (.Constant (.int 1) k p1) p2)) p3) pos) (fRev f) := by
  obtain ⟨t, pa, ia⟩ := he
  refine ⟨_, pe_revL pa, fun B ρ σ H O Q R p => ?_⟩
  unfold fRev at p
  rw [rpost_bind] at p
  refine ia B ρ σ H O _ R (p.mono (fun d ρ1 p v H1 g1 r1 => ?_) fun _ _ _ e => e)
  obtain ⟨ds, e, p⟩ := rpost_of p
  cases c : lstOf d with
  | none => rw [c] at e; cases e
  | some xs =>
    rw [c] at e
    cases e
    obtain ⟨a, vs, rfl, h1, h2⟩ := lstOf_rp r1 c
    exact ⟨a, vs, rfl, h1, fun q hq => p _ q H1 g1 hq h2.rev⟩
/-- range(i, j, -1) -/
def downL (lo : Int) (n : Nat) : List D := (List.range n).map fun i => .int (lo + (i : Nat) * (-1))
theorem walk_down {K : PySem.W.Frag} {mg : Str → Option Value} {lo : Int} {n : Nat} {H1 : Hp} {O1 : Av} : WalkD K mg (Itc lo (-1) n) (downL lo n) H1 O1 := fun H O k l => ⟨fun i d hi => by
  rw [downL, List.getElem?_map] at hi
  by_cases h : i < n
  · rw [List.getElem?_range h] at hi
    cases hi
    refine ⟨h, fun x H' y => ?_⟩
    obtain ⟨e1, e2⟩ := y
    subst e1 e2
    exact ⟨Same.refl _, .int _⟩
  · rw [List.getElem?_eq_none (by rw [List.length_range]; omega)] at hi
    exact (nomatch hi), by
  show n ≤ (downL lo n).length
  rw [downL, List.length_map, List.length_range]
  exact Nat.le_refl _⟩
def fRange3 (f : FL) : FL := fun ρ => (f ρ).bind fun ds ρ1 => match ds with
  | [.int i, .int j, .int c] => if c = -1 ∧ -(2 ^ 62) ≤ i ∧ i < 2 ^ 62 ∧ -(2 ^ 62) ≤ j ∧ j < 2 ^ 62 then .ok (downL i (i - j).toNat) ρ1 else .stuck
  | _ => .stuck
theorem di_range3 {tg a b c : Expr} {fl : FL} {p : Pos} (hg : Gl X "range") (hm : X.mg "range" = none) (ha : DA X W [a, b, c] fl) (hs : starEach [a, b, c] X.env = (false, eval a X.env) :: starEach [b, c] X.env := by rfl) (hpl : (backTo pos (starEach [b, c] X.env)).any (·.1) = false := by rfl) :
    DI X W tg (.Call (.Name "range" p) [a, b, c] [] pos) (fRange3 fl) := by
  obtain ⟨t, pa, ia⟩ := ha
  refine ⟨_, pi_range3 hg hm pa hs hpl, fun B ρ σ H O R' R p => ?_⟩
  unfold fRange3 at p
  rw [rpost_bind] at p
  refine ia B ρ σ H O _ R (p.mono (fun ds ρ1 p vs H1 g r => ?_) fun _ _ _ e => e)
  split at p
  · rename_i i j c
    split at p
    · rename_i hj
      obtain ⟨h0, h1, h2, h3, h4⟩ := hj
      subst h0
      obtain ⟨v, w, u, rfl, r1, r2, r3⟩ := r.three
      cases r1.int_inv
      cases r2.int_inv
      cases r3.int_inv
      exact ⟨i, j, -1, _, rfl, RgC.neg h1 h2 h3 h4, p _ H1 g walk_down⟩
    · exact p.elim
  · exact p.elim
/-- name += e, whole numbers -/
def gAug (i : Nat) (f : F) : G := fun ρ => match ρ[i]? with
  | some (some (.dat (.int _))) => (f ρ).sr fun d ρ1 => (match ρ1[i]?, d with
    | some (some (.dat (.int k))), .int j => .nx (ρ1.set i (some (.dat (.int (k + j)))))
    | _, _ => .stuck)
  | _ => .stuck
theorem ds_aug {i : Nat} {x : Str} {e : Expr} {f : F} {pos' : Pos} (hN : X.N.Nodup) (he : DE X W e f) (hi : X.N[i]? = some x := by rfl) (hx : Loc X.env.scope x := by first | exact .inl rfl | exact .inr rfl) (hf : X.fn x = true ∨ X.env.scope.names.lookup x = some .local := by first | exact .inl rfl | exact .inr rfl | assumption) :
    DS X W (.AugAssign (.Name x pos') .Add e pos) (gAug i f) := by
  obtain ⟨t, pa, ia⟩ := he
  refine ⟨_, ps_aug hN hi hx pa ip_add hf, fun B ρ σ H O D R p => ?_⟩
  unfold gAug at p
  split at p
  rotate_left
  · exact p.elim
  rename_i k0 h0
  obtain ⟨v, hv, hr⟩ := R.slot i _ h0
  have hr : Rp X.K X.mg H O v (.int k0) := hr
  refine ⟨v, hv, ia B ρ σ H O _ R ((spost_sr R p).mono (fun d ρ1 p w H1 g r => ?_) fun _ _ _ e => e)⟩
  replace p := p H1 g
  split at p
  · rename_i _ k j h1
    obtain ⟨v', hv', hr'⟩ := g.rep.slot i _ h1
    have hr' : Rp X.K X.mg H1 O v' (.int k) := hr'
    rw [hv] at hv'
    cases hv'
    exact ⟨k, j, hr'.int_inv, r.int_inv, p _ H1 O .refl (g.rep.setD i (.int _))⟩
  · exact p.elim
/-! new lists by + and * -/
def newD (o : Option D) (ρ : En) : R (List D) := match o with
  | some (.lst ds) => .ok ds ρ
  | _ => .stuck
def fCat (fa fb : F) : FL := fun ρ => (fa ρ).bind fun a ρ1 => (fb ρ1).bind fun b ρ2 => newD (addL a b) ρ2
def fRep (fa fb : F) : FL := fun ρ => (fa ρ).bind fun a ρ1 => (fb ρ1).bind fun b ρ2 => newD (mulL a b) ρ2
theorem dn_cat {a b : Expr} {fa fb : F} (ha : DE X W a fa) (hb : DE X W b fb) : DN X W (.BinOp a .Add b pos) (fCat fa fb) := by
  obtain ⟨ta, pa, ia⟩ := ha
  obtain ⟨tb, pb, ib⟩ := hb
  refine ⟨_, pe_op op_cat pa pb, fun B ρ σ H O Q R p => ?_⟩
  unfold fCat at p
  rw [rpost_bind] at p
  refine ia B ρ σ H O _ R (p.mono (fun d1 ρ1 p x H1 g1 r1 => ?_) fun _ _ _ e => e)
  rw [rpost_bind] at p
  refine ib B ρ1 σ H1 O _ g1.rep (p.mono (fun d2 ρ2 p y H2 g2 r2 => ?_) (ErE.on g1))
  replace r1 := r1.kp (g2.kp g1.rep)
  unfold addL at p
  split at p
  · rename_i xs ys
    split at p
    rotate_left
    · exact p.elim
    rename_i hl
    obtain ⟨p1, us, rfl, e1, _, q1⟩ := r1.lst_inv
    obtain ⟨p2, ws, rfl, e2, _, q2⟩ := r2.lst_inv
    exact ⟨p1, p2, us, ws, rfl, rfl, e1, e2, by rw [q1.1, q2.1]; exact hl, fun z hz => p _ z H2 (g1.trans g2) hz (q1.app q2)⟩
  · exact p.elim
theorem dn_rep {a b : Expr} {fa fb : F} (ha : DE X W a fa) (hb : DE X W b fb) : DN X W (.BinOp a .Mult b pos) (fRep fa fb) := by
  obtain ⟨ta, pa, ia⟩ := ha
  obtain ⟨tb, pb, ib⟩ := hb
  refine ⟨_, pe_op op_rep pa pb, fun B ρ σ H O Q R p => ?_⟩
  unfold fRep at p
  rw [rpost_bind] at p
  refine ia B ρ σ H O _ R (p.mono (fun d1 ρ1 p x H1 g1 r1 => ?_) fun _ _ _ e => e)
  rw [rpost_bind] at p
  refine ib B ρ1 σ H1 O _ g1.rep (p.mono (fun d2 ρ2 p2 y H2 g2 r2 => ?_) (ErE.on g1))
  replace r1 := r1.kp (g2.kp g1.rep)
  clear p
  unfold mulL at p2
  have p := p2
  clear p2
  split at p
  · rename_i xs k
    split at p
    rotate_left
    · exact p.elim
    rename_i hl
    obtain ⟨p1, us, rfl, e1, _, q1⟩ := r1.lst_inv
    exact ⟨p1, k, us, rfl, r2.int_inv, e1, hl.1, hl.2.1, by rw [q1.1]; exact hl.2.2, fun z hz => p _ z H2 (g1.trans g2) hz (q1.rep _)⟩
  · exact p.elim
end
end DL

set_option Elab.async false
set_option linter.all false
set_option maxRecDepth 100000
set_option autoImplicit false
/-! DLM: several except clauses, with names and without. -/
namespace DL
open PySem PySem.Spec PyProof.Rows L2
abbrev Cl := Value × Option Nat × (Addr → Value → Option Addr → TS)
def offE (i : Nat) (D : Ends) : Ends := { nx := fun τ G => D.nx (τ.set i none) G, rt := D.rt, bk := fun τ G => D.bk (τ.set i none) G, ct := fun τ G => D.ct (τ.set i none) G }
def wMix (K : PySem.W.Frag) (Wo : WX) (D : Ends) : List Cl → WX
  | [] => Wo
  | (c, none, ts) :: r => fun cls d σ H => ∃ b, PySem.W.exmOne K cls c = some b ∧ (b = true → ∀ z, H z = none → ts z cls d D σ H) ∧ (b = false → wMix K Wo D r cls d σ H)
  | (c, some i, ts) :: r => fun cls d σ H => ∃ b, PySem.W.exmOne K cls c = some b ∧ (b = true → ∀ z, H z = none → ts z cls d (offE i D) (σ.set i (some (.ref z))) H) ∧ (b = false → wMix K Wo D r cls d σ H)
inductive HdM (X : Cx) : List ExceptHandler → List Cl → Prop
  | nil : HdM X [] []
  | bare {x : Str} {c : Value} {ts : Addr → Value → Option Addr → TS} {s0 : Stmt} {su : List Stmt} {q1 q2 : Pos} {hs : List ExceptHandler} {l : List Cl} (hc : Names X x c)
      (hsu : ∀ (z : Addr) (oz : Obj) (cls : Value) (d : Option Addr) (pn : List (Addr × Obj)), Zc cls d oz → (∃ fs, oz.data = .fields fs) → PSs (X.suite z ((z, oz) :: pn)) (s0 :: su) (ts z cls d)) (r : HdM X hs l) :
      HdM X (.ExceptHandler (some (.Name x q1)) none (s0 :: su) q2 :: hs) ((c, none, ts) :: l)
  | named {x n : Str} {i : Nat} {c : Value} {ts : Addr → Value → Option Addr → TS} {s0 : Stmt} {su : List Stmt} {q1 q2 : Pos} {hs : List ExceptHandler} {l : List Cl} (hc : Names X x c) (hi : X.N[i]? = some n) (hk : X.env.kindOf n = some .local)
      (hsu : ∀ (z : Addr) (oz : Obj) (cls : Value) (d : Option Addr) (pn : List (Addr × Obj)), Zc cls d oz → (∃ fs, oz.data = .fields fs) → PSs (X.suite z ((z, oz) :: pn)) (s0 :: su) (ts z cls d)) (r : HdM X hs l) :
      HdM X (.ExceptHandler (some (.Name x q1)) (some n) (s0 :: su) q2 :: hs) ((c, some i, ts) :: l)
section
variable {X : Cx} {body : List Stmt} {h1 : ExceptHandler} {hs : List ExceptHandler} {l : List Cl} {pos : Pos} {tb : WX → TS} {Wo : WX}
theorem ps_try_mix (hst : X.stack = X.env :: X.outer) (hfm : X.env.frame = some X.env.locals) (hN : X.N.Nodup) (tk : Takes X Wo)
    (hb : ∀ (Wx : WX) (pn : List (Addr × Obj)) (xe : Value → Shared → Prop), Takes (X.tr pn xe) Wx → PassesOwn (model X.prog X.w) X.A X.env xe → PSs (X.tr pn xe) body (tb Wx))
    (hh : HdM X (h1 :: hs) l) : PS X (.Try body (h1 :: hs) [] [] pos) (fun D σ H => tb (wMix X.K Wo D l) D σ H) := ⟨fun pins s σ H D I0 h0 => by
  have ok := I0.ok
  have fr0 : X.A.frames = some (X.env :: X.outer) := ok.frames.trans (congrArg some hst)
  refine wpAny_Try_except (wpAny_mono ((hb (wMix X.K Wo D l) (X.pn ++ pins) (fun e t1 => wpAny (model X.prog X.w) X.A (noteFrame e X.env) (fun _ t2 => wpAny (model X.prog X.w) X.A (setFlight e none) (fun _ t3 =>
    wpAny (model X.prog X.w) X.A (handleBy e X.env (h1 :: hs)) (SP X pins D) X.xe t3) X.xe t2) X.xe t1) (fun u t xx => ?_) PassesOwn.looking).run [] s σ H D (I0.toTry _) h0) (fun f t hsp => ?_) (fun _ _ he => he))
  · obtain ⟨z, Bz, sz, pz, τ, G, cls, d, eu, Jz, nb, up, sky, nz, oz, ag, w⟩ := xx
    subst eu
    have J : Inv X pins τ G sz := Jz.ofTry ok
    rw [hst] at sky
    show wpAny (model X.prog X.w) X.A (noteFrame (.ref z) X.env) _ _ _
    refine Sky.land Zc.steady fr0 hfm sky fun k3 fl3 up3 => ?_
    have J3 : Inv X pins τ G { t with heap := k3 } := J.landed nb fl3.1 (up.trans up3) oz ag
    obtain ⟨o3, f3, e3, z3, d3⟩ := fl3.there
    have out : z ∉ frs (X.env :: X.outer) := fun hm => by
      obtain ⟨_, o4, e4, h4⟩ := (fl3.2.2.1).mem hm
      rw [e3] at e4
      cases e4
      exact h4 _ d3
    have nL : z ≠ X.env.locals := fun q => out (List.mem_filterMap.mpr ⟨X.env, List.mem_cons_self, hfm.trans (congrArg some q.symm)⟩)
    have nF : z ∉ X.fs := fun hm => by
      obtain ⟨ev, hev, q⟩ := List.mem_filterMap.mp hm
      exact out (List.mem_filterMap.mpr ⟨ev, List.mem_cons_of_mem _ hev, q⟩)
    have S3 := J3.suite e3 d3 nz nL nF
    have LT : PySem.W.Looks (model X.prog X.w) k3 (typeOf (.ref z)) cls := fun A Q E t' k q => wpAny_typeOf_ref (k _ _ e3) (by rw [z3.1]; exact q)
    have asks : ∀ {x : Str} {c : Value} {q1 : Pos} {Q : Value → Shared → Prop} {E : Value → Shared → Prop}, Names X x c → Q c { t with heap := k3 } → wpAny (model X.prog X.w) (X.A.mark (some (.ref z))) (eval (.Name x q1) X.env) Q E { t with heap := k3 } := fun {x c q1 Q E} hc q => by
      obtain ⟨hg, hdb, hm | ⟨hm, hv, hnn⟩⟩ := hc
      · exact ld_glob (X := X.suite z ((z, o3) :: (X.pn ++ pins))) S3 hg hm q hdb
      · exact ld_blt (X := X.suite z ((z, o3) :: (X.pn ++ pins))) S3 hg hm hv q hnn hdb
    have go : ∀ {gs : List ExceptHandler} {m : List Cl}, HdM X gs m → wMix X.K Wo D m cls d τ G → wpAny (model X.prog X.w) X.A (handleBy (.ref z) X.env gs) (SP X pins D) X.xe { t with heap := k3 } := by
      intro gs m hk
      induction hk with
      | nil =>
        intro w
        obtain ⟨_, _, _, oe, fv, T, oT, tv, he, hz, hd, hd1, hr⟩ := id fl3
        have last : wpAny (model X.prog X.w) X.A (setFlight (.ref z) X.env.frame) (fun _ t4 => wpAny (model X.prog X.w) X.A (throw (.ref z) : Sem Flow) (SP X pins D) X.xe t4) X.xe { t with heap := k3 } := by
          rw [hfm]
          exact HandSPX.setFlight_upZ fl3 fun k4 hk4 up4 => wpAny_throw (tk _ _ ⟨z, Bz, sz, pins, τ, G, cls, d, rfl, J, nb, (up.trans up3).trans up4, .inr (.inr (by rw [hst]; exact hk4)), nz, oz, ag, w⟩)
        refine wpAny_handleBy_nil ?_
        unfold PySem.passOn
        refine wpAny_bind (wpAny_field he hd hd1 ?_)
        rw [if_neg (show ¬ (((Value.ref T) == Value.none) = true) from by simp)]
        first
          | exact wpAny_bind (wpAny_pure (wpAny_bind last))
          | exact wpAny_bind last
      | @bare x c ts s0 su q1 q2 gs2 m2 hc hsu r ih =>
        intro w
        obtain ⟨b, eb, yes, no⟩ := w
        refine wpAny_handleBy_cons (codeAny_handlers_test (asks hc ((PySem.W.exm_one (M := model X.prog X.w) J3.kIn LT eb).here ?_))) (by intro q; cases q)
        cases b with
        | false =>
          show wpAny _ X.A (handleBy (.ref z) X.env gs2) _ _ _
          exact ih (no rfl)
        | true =>
          refine codeAny_handlers_suite (HandSPX.lands_againZ fl3 fun k4 fl4 up4 => ?_)
          have J4 : Inv X pins τ G { t with heap := k4 } := J.landed nb fl4.1 ((up.trans up3).trans up4) oz ag
          obtain ⟨o4, f4, e4, z4, d4⟩ := fl4.there
          refine wpAny_mono ((hsu z o4 cls d (X.pn ++ pins) z4 ⟨_, d4⟩).run [] _ _ G _ (J4.suite e4 d4 nz nL nF) (yes rfl z nz)) (fun f t6 hsp => ?_) (fun _ _ q => q.elim)
          match f, hsp with
          | .next, ⟨τ6, G6, S6, q6⟩ => exact ⟨_, _, S6.unsuite ok, q6⟩
          | .brk, ⟨τ6, G6, S6, q6⟩ => exact ⟨_, _, S6.unsuite ok, q6⟩
          | .cont, ⟨τ6, G6, S6, q6⟩ => exact ⟨_, _, S6.unsuite ok, q6⟩
          | .ret u, ⟨v6, τ6, G6, S6, r6, q6⟩ => exact ⟨_, _, _, S6.unsuite ok, r6, q6⟩
      | @named x n i c ts s0 su q1 q2 gs2 m2 hc hi hk hsu r ih =>
        intro w
        obtain ⟨b, eb, yes, no⟩ := w
        refine wpAny_handleBy_cons (codeAny_handlers_test (asks hc ((PySem.W.exm_one (M := model X.prog X.w) J3.kIn LT eb).here ?_))) (by intro q; cases q)
        cases b with
        | false =>
          show wpAny _ X.A (handleBy (.ref z) X.env gs2) _ _ _
          exact ih (no rfl)
        | true =>
          refine codeAny_handlers_suite_as (HandSPX.lands_againZ fl3 fun k4 fl4 up4 => ?_)
          have J4 : Inv X pins τ G { t with heap := k4 } := J.landed nb fl4.1 ((up.trans up3).trans up4) oz ag
          obtain ⟨o4, f4, e4, z4, d4⟩ := fl4.there
          refine store_ok (X := X.suite z ((z, o4) :: (X.pn ++ pins))) (v := .ref z) (J4.suite e4 d4 nz nL nF) hN hi (.inl hk) rfl (fun t5 S5 => ?_) (.inr hk)
          refine wpAny_mono ((hsu z o4 cls d (X.pn ++ pins) z4 ⟨_, d4⟩).run [] t5 _ G _ S5 (yes rfl z nz)) (fun f t6 hsp => ?_) (fun _ _ q => q.elim)
          have leave : ∀ {τ6 : L2.St} {G6 : Hp} {Q : Shared → Prop}, Inv (X.suite z ((z, o4) :: (X.pn ++ pins))) [] τ6 G6 t6 → (∀ t7, Inv X pins (τ6.set i none) G6 t7 → Q t7) →
              wpAny (model X.prog X.w) X.A (do bindName X.env n .none; unbindBehindTheSuite X.env n q2) (fun _ t7 => Q t7) X.xe t6 := fun {τ6 G6 Q} S6 hq => gone_ok (S6.unsuite ok) hN hi hk hq
          match f, hsp with
          | .next, ⟨τ6, G6, S6, q6⟩ => exact leave S6 fun t7 J7 => ⟨_, _, J7, q6⟩
          | .brk, ⟨τ6, G6, S6, q6⟩ => exact leave S6 fun t7 J7 => ⟨_, _, J7, q6⟩
          | .cont, ⟨τ6, G6, S6, q6⟩ => exact leave S6 fun t7 J7 => ⟨_, _, J7, q6⟩
          | .ret u, ⟨v6, τ6, G6, S6, r6, q6⟩ => exact leave S6 fun t7 J7 => ⟨_, _, _, J7, r6, q6⟩
    exact go hh w
  · match f, hsp with
    | .next, ⟨τ, G, J, q⟩ => exact wpAny_execs_nil ⟨τ, G, J.ofTry ok, q⟩
    | .brk, ⟨τ, G, J, q⟩ => exact ⟨τ, G, J.ofTry ok, q⟩
    | .cont, ⟨τ, G, J, q⟩ => exact ⟨τ, G, J.ofTry ok, q⟩
    | .ret u, ⟨v, τ, G, J, r, q⟩ => exact ⟨v, τ, G, J.ofTry ok, r, q⟩⟩
end
end DL

set_option Elab.async false
set_option linter.all false
set_option maxRecDepth 100000
set_option autoImplicit false
/-! DLN: several except clauses, by data. -/
namespace DL
open PySem PySem.Spec PyProof.Rows L2
abbrev Hn := Value × (Str → Option Bool) × Option Nat × G
/-- what a suite without a name does -/
def suite0 (g : G) : G := fun ρ => if noExc ρ = true then (match g ρ with
  | .nx ρ2 => if noExc ρ2 = true then .nx ρ2 else .stuck
  | .rt d ρ2 => if noExc ρ2 = true then .rt d ρ2 else .stuck
  | .rtn ds ρ2 => if noExc ρ2 = true then .rtn ds ρ2 else .stuck
  | .bk ρ2 => if noExc ρ2 = true then .bk ρ2 else .stuck
  | .ct ρ2 => if noExc ρ2 = true then .ct ρ2 else .stuck
  | _ => .stuck) else .stuck
def handM (c : Str) (fs : List (Str × D)) : List ((Str → Option Bool) × Option Nat × G) → G
  | [], ρ => .err c fs ρ
  | (cat, oi, g) :: r, ρ => match cat c with
    | some true => (match oi with
      | some i => suiteAs i g c fs ρ
      | none => suite0 g ρ)
    | some false => handM c fs r ρ
    | none => .stuck
def gTryM (body : G) (hs : List ((Str → Option Bool) × Option Nat × G)) : G := fun ρ => match body ρ with
  | .err c fs ρ1 => handM c fs hs ρ1
  | r => r
inductive HdD (X : Cx) : List ExceptHandler → List Hn → Prop
  | nil : HdD X [] []
  | bare {x : Str} {cv : Value} {cat : Str → Option Bool} {g : G} {s0 : Stmt} {su : List Stmt} {q1 q2 : Pos} {hs : List ExceptHandler} {l : List Hn} (hc : Names X x cv)
      (hcat : ∀ c b C, cat c = some b → X.mg c = some (.ref C) → PySem.W.exmOne X.K (.ref C) cv = some b)
      (hsu : ∀ (z : Addr) (oz : Obj) (cls : Value) (d : Option Addr) (pn : List (Addr × Obj)), Zc cls d oz → (∃ fs, oz.data = .fields fs) → DSs (X.suite z ((z, oz) :: pn)) (WS z cls d) (s0 :: su) g) (r : HdD X hs l) :
      HdD X (.ExceptHandler (some (.Name x q1)) none (s0 :: su) q2 :: hs) ((cv, cat, none, g) :: l)
  | named {x n : Str} {i : Nat} {cv : Value} {cat : Str → Option Bool} {g : G} {s0 : Stmt} {su : List Stmt} {q1 q2 : Pos} {hs : List ExceptHandler} {l : List Hn} (hc : Names X x cv)
      (hcat : ∀ c b C, cat c = some b → X.mg c = some (.ref C) → PySem.W.exmOne X.K (.ref C) cv = some b) (hi : X.N[i]? = some n) (hk : X.env.kindOf n = some .local)
      (hsu : ∀ (z : Addr) (oz : Obj) (cls : Value) (d : Option Addr) (pn : List (Addr × Obj)), Zc cls d oz → (∃ fs, oz.data = .fields fs) → DSs (X.suite z ((z, oz) :: pn)) (WS z cls d) (s0 :: su) g) (r : HdD X hs l) :
      HdD X (.ExceptHandler (some (.Name x q1)) (some n) (s0 :: su) q2 :: hs) ((cv, cat, some i, g) :: l)
def toM (X : Cx) (l : List Hn) : List Cl := l.map fun h => (h.1, h.2.2.1, fun a cls d => tDS X (WS a cls d) h.2.2.2)
theorem HdD.m {X : Cx} {hs : List ExceptHandler} {l : List Hn} (h : HdD X hs l) : HdM X hs (toM X l) := by
  induction h with
  | nil => exact .nil
  | bare hc _ hsu r ih => exact .bare hc (fun a oe cls d pn hz hv => (hsu a oe cls d pn hz hv).canon rfl rfl) ih
  | named hc _ hi hk hsu r ih => exact .named hc hi hk (fun a oe cls d pn hz hv => (hsu a oe cls d pn hz hv).canon rfl rfl) ih
section
variable {X : Cx} {W : Wi}
theorem hand_post {B : W.BB} {D : Ends} {c : Str} {fs : List (Str × DL.D)} {C : Addr} {od : Option Addr} {H H1 : Hp} {O O1 : Av} {σ1 : Sl} {ρ1 : En} (k1 : Kp H O H1 O1) (R1 : Rep X.K X.mg B.1 O1 ρ1 σ1 H1) (m1 : X.mg c = some (.ref C)) (er : ErrAt X.K X.mg H1 O1 od fs) {hs : List ExceptHandler} {l : List Hn} (h : HdD X hs l) :
    SPost X B.1 W D H O (handM c fs (l.map (·.2)) ρ1) → wMix X.K W.w D (toM X l) (.ref C) od σ1 H1 := by
  induction h with
  | nil => exact fun p => p C od σ1 H1 O1 k1 R1 m1 er
  | @bare x cv cat g s0 su q1 q2 hs l hc hcat hsu r ih =>
    intro p
    rw [List.map_cons, handM] at p
    cases qc : cat c with
    | none => rw [qc] at p; exact p.elim
    | some b =>
      rw [qc] at p
      refine ⟨b, hcat c b C qc m1, fun hbt a ha => ?_, fun hbf => ?_⟩
      · subst hbt
        dsimp only at p
        unfold suite0 at p
        split at p
        rotate_left
        · exact p.elim
        rename_i hne
        let B' : Base := { B.1 with xa := a, xd := od, xc := .ref C }
        refine ⟨⟨B', rfl, rfl, rfl⟩, ρ1, O1, R1.rebase hne, ?_⟩
        have back : ∀ {ρ2 : En} {σ2 : Sl} {H2 : Hp} {O2 : Av}, noExc ρ2 = true → Rep X.K X.mg B' O2 ρ2 σ2 H2 → Rep X.K X.mg B.1 O2 ρ2 σ2 H2 := fun {ρ2 σ2 H2 O2} n2 R' => R'.unbase n2
        show SPost X B' (WS a (.ref C) od) D H1 O1 (g ρ1)
        cases qs : g ρ1 with
        | stuck => rw [qs] at p; exact p.elim
        | err c fs ρ2 => rw [qs] at p; exact p.elim
        | nx ρ2 =>
          rw [qs] at p
          dsimp only at p
          split at p
          · rename_i n2
            exact fun σ2 H2 O2 k2 R' => p _ H2 O2 (k1.trans k2) (back n2 R')
          · exact p.elim
        | bk ρ2 =>
          rw [qs] at p
          dsimp only at p
          split at p
          · rename_i n2
            exact fun σ2 H2 O2 k2 R' => p _ H2 O2 (k1.trans k2) (back n2 R')
          · exact p.elim
        | ct ρ2 =>
          rw [qs] at p
          dsimp only at p
          split at p
          · rename_i n2
            exact fun σ2 H2 O2 k2 R' => p _ H2 O2 (k1.trans k2) (back n2 R')
          · exact p.elim
        | rt d ρ2 =>
          rw [qs] at p
          dsimp only at p
          split at p
          · rename_i n2
            exact fun v σ2 H2 O2 k2 R' rv => p v _ H2 O2 (k1.trans k2) (back n2 R') rv
          · exact p.elim
        | rtn ds ρ2 =>
          rw [qs] at p
          dsimp only at p
          split at p
          · rename_i n2
            exact fun vs q2 σ2 H2 O2 k2 R' hq rv => p vs q2 _ H2 O2 (k1.trans k2) (back n2 R') hq rv
          · exact p.elim
      · subst hbf
        exact ih p
  | @named x n i cv cat g s0 su q1 q2 hs l hc hcat hi hk hsu r ih =>
    intro p
    rw [List.map_cons, handM] at p
    cases qc : cat c with
    | none => rw [qc] at p; exact p.elim
    | some b =>
      rw [qc] at p
      refine ⟨b, hcat c b C qc m1, fun hbt a ha => ?_, fun hbf => ?_⟩
      · subst hbt
        dsimp only at p
        unfold suiteAs at p
        split at p
        rotate_left
        · exact p.elim
        rename_i hne
        let B' : Base := { B.1 with xa := a, xd := od, xc := .ref C }
        have R2 : Rep X.K X.mg B' O1 (ρ1.set i (some (.exc c fs))) (σ1.set i (some (.ref a))) H1 := (R1.rebase hne).setS rfl ⟨rfl, ⟨C, m1, rfl⟩, er⟩
        refine ⟨⟨B', rfl, rfl, rfl⟩, _, O1, R2, ?_⟩
        have back : ∀ {ρ2 : En} {σ2 : Sl} {H2 : Hp} {O2 : Av}, noExc (ρ2.set i none) = true → Rep X.K X.mg B' O2 ρ2 σ2 H2 → Rep X.K X.mg B.1 O2 (ρ2.set i none) (σ2.set i none) H2 := fun {ρ2 σ2 H2 O2} n2 R' => (R'.drop i).unbase n2
        show SPost X B' (WS a (.ref C) od) (offE i D) H1 O1 (g (ρ1.set i (some (.exc c fs))))
        cases qs : g (ρ1.set i (some (.exc c fs))) with
        | stuck => rw [qs] at p; exact p.elim
        | err c fs ρ2 => rw [qs] at p; exact p.elim
        | nx ρ2 =>
          rw [qs] at p
          dsimp only at p
          split at p
          · rename_i n2
            exact fun σ2 H2 O2 k2 R' => p _ H2 O2 (k1.trans k2) (back n2 R')
          · exact p.elim
        | bk ρ2 =>
          rw [qs] at p
          dsimp only at p
          split at p
          · rename_i n2
            exact fun σ2 H2 O2 k2 R' => p _ H2 O2 (k1.trans k2) (back n2 R')
          · exact p.elim
        | ct ρ2 =>
          rw [qs] at p
          dsimp only at p
          split at p
          · rename_i n2
            exact fun σ2 H2 O2 k2 R' => p _ H2 O2 (k1.trans k2) (back n2 R')
          · exact p.elim
        | rt d ρ2 =>
          rw [qs] at p
          dsimp only at p
          split at p
          · rename_i n2
            exact fun v σ2 H2 O2 k2 R' rv => p v _ H2 O2 (k1.trans k2) (back n2 R') rv
          · exact p.elim
        | rtn ds ρ2 =>
          rw [qs] at p
          dsimp only at p
          split at p
          · rename_i n2
            exact fun vs q2 σ2 H2 O2 k2 R' hq rv => p vs q2 _ H2 O2 (k1.trans k2) (back n2 R') hq rv
          · exact p.elim
      · subst hbf
        exact ih p
theorem ds_try_mix {body : List Stmt} {h1 : ExceptHandler} {hs : List ExceptHandler} {l : List Hn} {pos : Pos} {gb : G} (hst : X.stack = X.env :: X.outer) (hf : X.env.frame = some X.env.locals) (hN : X.N.Nodup) (tk : Takes X W.w)
    (hb : ∀ (Wx : WX) (pn : List (Addr × Obj)) (xe : Value → Shared → Prop), Takes (X.tr pn xe) Wx → PassesOwn (model X.prog X.w) X.A X.env xe → DSs (X.tr pn xe) ⟨Wx, W.b⟩ body gb) (hh : HdD X (h1 :: hs) l) :
    DS X W (.Try body (h1 :: hs) [] [] pos) (gTryM gb (l.map (·.2))) := by
  refine ⟨_, ps_try_mix (tb := fun Wx => tDS X ⟨Wx, W.b⟩ gb) hst hf hN tk (fun Wx pn xe t p => (hb Wx pn xe t p).canon rfl rfl) hh.m, fun B ρ σ H O D R p => ?_⟩
  refine ⟨B, ρ, O, R, ?_⟩
  unfold gTryM at p
  cases q : gb ρ with
  | nx ρ1 => rw [q] at p; exact p
  | bk ρ1 => rw [q] at p; exact p
  | ct ρ1 => rw [q] at p; exact p
  | rt d ρ1 => rw [q] at p; exact p
  | rtn ds ρ1 => rw [q] at p; exact p
  | stuck => rw [q] at p; exact p
  | err c fs ρ1 =>
    rw [q] at p
    intro C od σ1 H1 O1 k1 R1 m1 er
    exact hand_post k1 R1 m1 er hh p
end
end DL

set_option Elab.async false
set_option linter.all false
set_option maxRecDepth 100000
set_option autoImplicit false
/-! DLP: defs that change several of their parameters, at any place. -/
namespace DL
open PySem PySem.Spec PyProof.Rows L2
inductive FM where
  | ok (d : D) (ms : List Cont)
  | okn (ds : List D) (ms : List Cont)
  | err (c : Str) (fs : List (Str × D)) (ms : List Cont)
  | stuck
abbrev FnM := List Slot → FM
def MutM (K : PySem.W.Frag) (mg : Str → Option Value) (H : Hp) (O : Av) (pa : List Addr) (ms : List Cont) : Prop := ∀ (k : Nat) (a : Addr), pa[k]? = some a → ∃ c, ms[k]? = some c ∧ ContAt K mg H O a c
def FPostM (K : PySem.W.Frag) (mg : Str → Option Value) (H : Hp) (O : Av) (pa : List Addr) (Q : VK) (E : XK) : FM → Prop
  | .ok d m => ∀ v H', (∀ b o, H b = some o → b ∉ pa → H' b = some o) → Rp K mg H' O v d → MutM K mg H' O pa m → Q v H'
  | .okn ds m => ∀ vs p H', (∀ b o, H b = some o → b ∉ pa → H' b = some o) → H' p = none → RpL K mg H' O vs ds → MutM K mg H' O pa m → Q (.ref p) (upd H' p (.lst vs))
  | .err c fs m => ∀ C od H', (∀ b o, H b = some o → b ∉ pa → H' b = some o) → mg c = some (.ref C) → ErrAt K mg H' O od fs → MutM K mg H' O pa m → E (.ref C) od H'
  | .stuck => False
def spM (K : PySem.W.Frag) (mg : Str → Option Value) (n : Nat) (m : FnM) : Sp := fun vs H Q E => ∃ (ss : List Slot) (O : Av) (pa : List Addr), vs.length = n ∧ Rep K mg ⟨H, O, pa, 0, none, .none⟩ O (ss.map some) (vs.map some) H ∧
  (∀ k, k < pa.length → ∃ (i : Nat) (c : Cont), ss[i]? = some (.par k c)) ∧ FPostM K mg H O pa Q E (m ss)
/-- what the changing parameters hold -/
def conts : Nat → List Nat → En → Option (List Cont)
  | _, [], _ => some []
  | k, q :: qs, ρ => match ρ[q]? with
    | some (some (.par k' c)) => if k' = k then (conts (k + 1) qs ρ).map (c :: ·) else none
    | _ => none
theorem conts_at : ∀ {qs : List Nat} {k : Nat} {ρ : En} {ms : List Cont}, conts k qs ρ = some ms → ∀ j, j < qs.length → ∃ (q : Nat) (c : Cont), ms[j]? = some c ∧ ρ[q]? = some (some (.par (k + j) c))
  | [], k, ρ, ms, h, j, hj => absurd hj (Nat.not_lt_zero _)
  | q :: qs, k, ρ, ms, h, j, hj => by
    unfold conts at h
    split at h
    · rename_i k' c e
      split at h
      · rename_i hk
        subst hk
        cases e2 : conts (k' + 1) qs ρ with
        | none => rw [e2] at h; cases h
        | some ms' =>
          rw [e2] at h
          cases h
          cases j with
          | zero => exact ⟨q, c, rfl, e⟩
          | succ j =>
            obtain ⟨q', c', h1, h2⟩ := conts_at e2 j (by simpa using hj)
            exact ⟨q', c', h1, by rw [h2, show k' + 1 + j = k' + (j + 1) by omega]⟩
      · cases h
    · cases h
def fewPars (n : Nat) (ss : List Slot) : Bool := ss.all fun s => match s with
  | .par k _ => decide (k < n)
  | _ => true
def mkM (g : G) (nl : Nat) (qs : List Nat) : FnM := fun ss => if fewPars qs.length ss = true then (match g (ss.map some ++ List.replicate nl none) with
  | .nx ρ => (match conts 0 qs ρ with
    | some ms => .ok .non ms
    | none => .stuck)
  | .rt d ρ => (match conts 0 qs ρ with
    | some ms => .ok d ms
    | none => .stuck)
  | .rtn ds ρ => (match conts 0 qs ρ with
    | some ms => .okn ds ms
    | none => .stuck)
  | .err c fs ρ => (match conts 0 qs ρ with
    | some ms => .err c fs ms
    | none => .stuck)
  | _ => .stuck) else .stuck
section
variable {P : Program} {w : World} {K : PySem.W.Frag} {mg : Str → Option Value} {base : Heap}
theorem spM_len {n : Nat} {m : FnM} : ∀ vs H Q E, spM K mg n m vs H Q E → vs.length = n := fun vs H Q E h => by
  obtain ⟨_, _, _, h, _⟩ := h
  exact h
theorem body_okM {X : Cx} {g : G} {body : List Stmt} {N ps : List Str} {qs : List Nat} {vs : List V} {H : Hp} {Q : VK} {E : XK} (hb : DSs X (WD E) body g) (hn : ps.length ≤ N.length)
    (h : spM X.K X.mg ps.length (mkM g (N.length - ps.length) qs) vs H Q E) : ∃ t, PSs X body t ∧ t { nx := fun _ H' => Q .non H', rt := Q } (L2.start N vs) H := by
  obtain ⟨ss, O, pa, hl, R, hpa, p⟩ := h
  obtain ⟨t, pt, it⟩ := hb
  refine ⟨t, pt, it ⟨⟨H, O, pa, 0, none, .none⟩, trivial⟩ (ss.map some ++ List.replicate (N.length - ps.length) none) _ H O _ (by
    have r := R.start (N.length - ps.length)
    unfold L2.start
    rw [hl]
    exact r) ?_⟩
  unfold mkM at p
  split at p
  rotate_left
  · exact p.elim
  rename_i hfew
  have few : ∀ k, k < pa.length → k < qs.length := fun k hk => by
    obtain ⟨i, c, e⟩ := hpa k hk
    have := List.all_eq_true.mp hfew _ (List.mem_of_getElem? e)
    exact of_decide_eq_true this
  have fin0 : ∀ {ρ : En} {σ : Sl} {H' : Hp} {O' : Av} {ms : List Cont}, Rep X.K X.mg ⟨H, O, pa, 0, none, .none⟩ O' ρ σ H' → conts 0 qs ρ = some ms → Kp H' O' H' O ∧ MutM X.K X.mg H' O pa ms := fun {ρ σ H' O' ms} R' hc => by
    have k : Kp H' O' H' O := fun a u e n => ⟨e, fun z => n (R'.o0 a z)⟩
    refine ⟨k, fun j a ha => ?_⟩
    have hj : j < pa.length := (List.getElem?_eq_some_iff.mp ha).1
    obtain ⟨q, c, e1, e2⟩ := conts_at hc j (few j hj)
    rw [Nat.zero_add] at e2
    obtain ⟨v, _, a', rfl, _, e3, e4⟩ := R'.slot q _ e2
    have e3 : pa[j]? = some a' := e3
    rw [ha] at e3
    cases e3
    exact ⟨c, e1, e4.kp k rfl⟩
  cases q : g (ss.map some ++ List.replicate (N.length - ps.length) none) with
  | stuck => rw [q] at p; exact p.elim
  | bk ρ => rw [q] at p; exact p.elim
  | ct ρ => rw [q] at p; exact p.elim
  | nx ρ =>
    rw [q] at p
    intro σ' H' O' k' R'
    dsimp only at p
    cases hc : conts 0 qs ρ with
    | none => rw [hc] at p; exact p.elim
    | some ms => rw [hc] at p; exact p .non H' R'.base .non (fin0 R' hc).2
  | rt d ρ =>
    rw [q] at p
    intro v σ' H' O' k' R' rv
    dsimp only at p
    cases hc : conts 0 qs ρ with
    | none => rw [hc] at p; exact p.elim
    | some ms => rw [hc] at p; exact p v H' R'.base (rv.kp (fin0 R' hc).1) (fin0 R' hc).2
  | rtn ds ρ =>
    rw [q] at p
    intro ws q' σ' H' O' k' R' hq rv
    dsimp only at p
    cases hc : conts 0 qs ρ with
    | none => rw [hc] at p; exact p.elim
    | some ms => rw [hc] at p; exact p ws q' H' R'.base hq (rv.kp (fin0 R' hc).1) (fin0 R' hc).2
  | err c fs ρ =>
    rw [q] at p
    intro C od σ' H' O' k' R' m1 er
    dsimp only at p
    cases hc : conts 0 qs ρ with
    | none => rw [hc] at p; exact p.elim
    | some ms => rw [hc] at p; exact p C od H' R'.base m1 (er.kp (fin0 R' hc).1) (fin0 R' hc).2
theorem fndM {x qual : Str} {st : Stmt} {f : Addr} {fd : FuncData} {N ps : List Str} {k : Nat} {g : G} {qs : List Nat} (F : L2.Fun K x qual st f fd) (S : FnScope N ps (defScope st)) (hn : ps.length ≤ N.length)
    (hb : ∀ (cdv : Value) (A : Around) (outer : List PySem.Env) (s : Shared) (H : Hp) (E : XK), Room k (A.deeper (envOfC qual (defScope st) s.heap.objs.size f cdv)) →
      DSs (cxOf (L2.CX P w) P w K mg base N qual (defScope st) f cdv A outer s H E) (WD E) (defBody st) g) :
    FnOk P w K mg base (L2.CX P w) (k + 1) f fd ps (spM K mg ps.length (mkM g (N.length - ps.length) qs)) :=
  fun_body F S spM_len fun cdv A outer s H vs Q E hr h => body_okM (hb cdv A outer s H E hr) hn h
end
/-! ### arguments: data, and lists that the callee may change -/
inductive Ag where
  | dat (d : D)
  | own (i : Nat)
abbrev FA := En → R (List Ag)
def AgAt (X : Cx) (σ : Sl) (H : Hp) (O : Av) : V → Ag → Prop
  | v, .dat d => Rp X.K X.mg H O v d
  | v, .own i => σ[i]? = some (some v)
def AgL (X : Cx) (σ : Sl) (H : Hp) (O : Av) (vs : List V) (as : List Ag) : Prop := vs.length = as.length ∧ ∀ (i : Nat) (v : V) (a : Ag), vs[i]? = some v → as[i]? = some a → AgAt X σ H O v a
theorem AgL.nil {X : Cx} {σ : Sl} {H : Hp} {O : Av} : AgL X σ H O [] [] := ⟨rfl, fun i v a h => by simp at h⟩
theorem AgL.cons {X : Cx} {σ : Sl} {H : Hp} {O : Av} {v : V} {a : Ag} {vs : List V} {as : List Ag} (h : AgAt X σ H O v a) (t : AgL X σ H O vs as) : AgL X σ H O (v :: vs) (a :: as) := ⟨by rw [List.length_cons, List.length_cons, t.1], fun i v' a' h1 h2 => by
  cases i with
  | zero => cases h1; cases h2; exact h
  | succ i => exact t.2 i v' a' h1 h2⟩
def DP (X : Cx) (W : Wi) (es : List Expr) (f : FA) : Prop := ∃ t : TA, PA X es t ∧ ∀ (B : W.BB) (ρ : En) (σ : Sl) (H : Hp) (O : Av) (Q : List V → Hp → Prop), Rep X.K X.mg B.1 O ρ σ H →
  RPost (f ρ) (fun as ρ' => ∀ vs H', Go X.K X.mg B.1 O σ ρ H ρ' H' → AgL X σ H' O vs as → Q vs H') (ErE X B.1 W O σ ρ H) → t σ H Q
def aNil : FA := fun ρ => .ok [] ρ
def aDat (f : F) (r : FA) : FA := fun ρ => (f ρ).bind fun d ρ1 => (r ρ1).bind fun as ρ2 => .ok (.dat d :: as) ρ2
def aOwn (i : Nat) (r : FA) : FA := fun ρ => match ρ[i]? with
  | some (some s) => if s.mu = true then (r ρ).bind fun as ρ2 => .ok (.own i :: as) ρ2 else .stuck
  | _ => .stuck
section
variable {X : Cx} {W : Wi} {pos : Pos} {a : Expr} {es : List Expr} {f : F} {r : FA}
theorem dp_nil : DP X W [] aNil := ⟨_, pa_nil, fun B ρ σ H O Q R p => p [] H (Go.refl R) .nil⟩
theorem dp_dat (ha : DE X W a f) (hr : DP X W es r) (hs : starEach (a :: es) X.env = (false, eval a X.env) :: starEach es X.env := by rfl) : DP X W (a :: es) (aDat f r) := by
  obtain ⟨t, pa, ia⟩ := ha
  obtain ⟨u, pr, ir⟩ := hr
  refine ⟨_, pa_cons pa pr hs, fun B ρ σ H O Q R p => ?_⟩
  unfold aDat at p
  rw [rpost_bind] at p
  refine ia B ρ σ H O _ R (p.mono (fun d1 ρ1 p x H1 g1 r1 => ?_) fun _ _ _ e => e)
  rw [rpost_bind] at p
  refine ir B ρ1 σ H1 O _ g1.rep (p.mono (fun d2 ρ2 p y H2 g2 r2 => ?_) (ErE.on g1))
  exact p _ H2 (g1.trans g2) (AgL.cons (a := .dat d1) (r1.kp (g2.kp g1.rep)) r2)
theorem dp_own {i : Nat} {x : Str} {p1 : Pos} (hr : DP X W es r) (hN : X.N[i]? = some x := by rfl) (hv : Vis X.env.scope x := by first | exact Or.inl rfl | exact Or.inr (Or.inl rfl) | exact Or.inr (Or.inr rfl)) (hd : (x == ("__debug__" : Str)) = false := by decide)
    (hcd : (x == ("__classdict__" : Str)) = false := by decide) (hs : starEach (.Name x p1 :: es) X.env = (false, eval (.Name x p1) X.env) :: starEach es X.env := by rfl) : DP X W (.Name x p1 :: es) (aOwn i r) := by
  obtain ⟨u, pr, ir⟩ := hr
  refine ⟨_, pa_cons (pe_var hN hv hd hcd) pr hs, fun B ρ σ H O Q R p => ?_⟩
  unfold aOwn at p
  split at p
  · rename_i s hs1
    split at p
    · obtain ⟨v, hv1, _⟩ := R.slot i s hs1
      refine ⟨v, hv1, ?_⟩
      rw [rpost_bind] at p
      refine ir B ρ σ H O _ R (p.mono (fun as ρ2 p y H2 g2 r2 => ?_) fun _ _ _ e => e)
      exact p _ H2 g2 (AgL.cons (a := .own i) hv1 r2)
    · exact p.elim
  · exact p.elim
end
end DL

set_option Elab.async false
set_option linter.all false
set_option maxRecDepth 100000
set_option autoImplicit false
/-! DLQ: calls of defs that change several of their parameters. -/
namespace DL
open PySem PySem.Spec PyProof.Rows L2
def slotCont (ρ : En) (i : Nat) : Option Cont := match ρ[i]? with
  | some (some (.own ds)) => some (.lst ds)
  | some (some (.par _ c)) => some c
  | _ => none
/-- the callee's slots, and which of the caller's slots are lent -/
def toSlots (ρ : En) : Nat → List Ag → Option (List Slot × List Nat)
  | _, [] => some ([], [])
  | k, .dat d :: as => (toSlots ρ k as).map fun p => (.dat d :: p.1, p.2)
  | k, .own i :: as => match slotCont ρ i with
    | some c => (toSlots ρ (k + 1) as).map fun p => (.par k c :: p.1, i :: p.2)
    | none => none
def slotPutC (ρ : En) (i : Nat) (c : Cont) : Option En := match ρ[i]?, c with
  | some (some (.own _)), .lst ds => some (ρ.set i (some (.own ds)))
  | some (some (.par k (.lst _))), .lst ds => some (ρ.set i (some (.par k (.lst ds))))
  | some (some (.par k (.ins _ _))), .ins c fs => some (ρ.set i (some (.par k (.ins c fs))))
  | _, _ => none
def putAll : En → List Nat → List Cont → Option En
  | ρ, [], _ => some ρ
  | ρ, i :: is, c :: cs => (slotPutC ρ i c).bind fun ρ1 => putAll ρ1 is cs
  | _, _ :: _, [] => none
section
variable {K : PySem.W.Frag} {mg : Str → Option Value} {B : Base} {O : Av} {ρ ρ' : En} {σ : Sl} {H H2 : Hp}
theorem Rep.contAt (R : Rep K mg B O ρ σ H) {i : Nat} {c : Cont} (h : slotCont ρ i = some c) : ∃ a, σ[i]? = some (some (.ref a)) ∧ O a ∧ ContAt K mg H O a c ∧ ∃ s, ρ[i]? = some (some s) ∧ s.mu = true := by
  unfold slotCont at h
  split at h
  · rename_i ds e
    cases h
    obtain ⟨v, h1, a, rfl, o, _, h2⟩ := R.slot i _ e
    exact ⟨a, h1, o, h2, _, e, rfl⟩
  · rename_i k c' e
    cases h
    obtain ⟨v, h1, a, rfl, o, _, h2⟩ := R.slot i _ e
    exact ⟨a, h1, o, h2, _, e, rfl⟩
  · cases h
theorem Rep.writeP (R : Rep K mg B O ρ σ H) {i : Nat} {a : Addr} {c : Cont} {o : HO} (h : slotPutC ρ i c = some ρ') (hs : σ[i]? = some (some (.ref a))) (hc : ContAt K mg (upd H a o) O a c) : Go K mg B O σ ρ H ρ' (upd H a o) := by
  unfold slotPutC at h
  split at h
  · rename_i ds0 ds e
    cases h
    obtain ⟨vs, e1, r⟩ := hc
    rw [upd_same] at e1
    cases e1
    have hO : O a := R.mu_O ⟨i, _, e, rfl, hs⟩
    have r' : RpL K mg H O vs ds := r.kp fun b u eb nb => ⟨by rw [upd_ne fun z : b = a => nb (z ▸ hO)] at eb; exact eb, nb⟩
    exact (R.writeL e hs rfl rfl r').1
  · rename_i k ds0 ds e
    cases h
    exact (R.writeC e hs hc).1
  · rename_i k c0 f0 c1 f1 e
    cases h
    exact (R.writeC e hs hc).1
  · cases h
theorem afterM : ∀ (is : List Nat) (pa : List Addr) (ms : List Cont) (ρ ρ' : En) (H : Hp), Rep K mg B O ρ σ H → putAll ρ is ms = some ρ' → is.length = pa.length → (∀ (k : Nat) (i : Nat) (a : Addr), is[k]? = some i → pa[k]? = some a → σ[i]? = some (some (.ref a))) →
    (∀ (k : Nat) (a : Addr), pa[k]? = some a → ∃ c, ms[k]? = some c ∧ ContAt K mg H2 O a c) → (∀ a ∈ pa, O a) → (∀ b, b ∉ pa → H b = H2 b) → Go K mg B O σ ρ H ρ' H2
  | [], pa, ms, ρ, ρ', H, R, hp, hl, hs, hm, hO, he => by
    cases hp
    have : pa = [] := List.eq_nil_of_length_eq_zero hl.symm
    subst this
    have : H = H2 := funext fun b => he b (fun z => nomatch z)
    subst this
    exact Go.refl R
  | i :: is, [], ms, ρ, ρ', H, R, hp, hl, hs, hm, hO, he => nomatch hl
  | i :: is, a :: pa, [], ρ, ρ', H, R, hp, hl, hs, hm, hO, he => nomatch hp
  | i :: is, a :: pa, c :: ms, ρ, ρ', H, R, hp, hl, hs, hm, hO, he => by
    unfold putAll at hp
    cases e : slotPutC ρ i c with
    | none => rw [e] at hp; cases hp
    | some ρ1 =>
      rw [e] at hp
      obtain ⟨c', ec, ca⟩ := hm 0 a rfl
      cases ec
      obtain ⟨o, eo⟩ : ∃ o, H2 a = some o := by
        cases c with
        | lst ds => obtain ⟨vs, q, _⟩ := ca; exact ⟨_, q⟩
        | ins c fs => obtain ⟨C, dx, fvs, q, _⟩ := ca; exact ⟨_, q⟩
      have k2 : Kp H2 O (upd H a o) O := fun b u eb nb => ⟨by
        have n1 : b ∉ a :: pa := fun hb => nb (hO b hb)
        rw [upd_ne fun z : b = a => nb (z ▸ hO a List.mem_cons_self), he b n1]
        exact eb, nb⟩
      have g1 := R.writeP (o := o) e (hs 0 i a rfl rfl) (ca.kp k2 (by rw [upd_same, eo]))
      have g2 := afterM is pa ms ρ1 ρ' (upd H a o) g1.rep hp (by simpa using hl) (fun k j b h1 h2 => hs (k + 1) j b h1 h2) (fun k b h => hm (k + 1) b h) (fun b hb => hO b (List.mem_cons_of_mem _ hb)) fun b hb => by
        by_cases z : b = a
        · rw [z, upd_same, eo]
        · rw [upd_ne z]
          exact he b fun hb' => (List.mem_cons.mp hb').elim z hb
      exact g1.trans g2
/-- the whole: new things, and the lent lists written -/
theorem Rep.afterP (R : Rep K mg B O ρ σ H) {is : List Nat} {pa : List Addr} {ms : List Cont} (hp : putAll ρ is ms = some ρ') (hl : is.length = pa.length) (hs : ∀ (k : Nat) (i : Nat) (a : Addr), is[k]? = some i → pa[k]? = some a → σ[i]? = some (some (.ref a))) (hO : ∀ a ∈ pa, O a)
    (fr : ∀ b o, H b = some o → b ∉ pa → H2 b = some o) (mt : MutM K mg H2 O pa ms) : Go K mg B O σ ρ H ρ' H2 := by
  let H1 : Hp := fun b => if b ∈ pa then H b else H2 b
  have s1 : Same H H1 := fun b o e => by
    show (if b ∈ pa then H b else H2 b) = some o
    by_cases hb : b ∈ pa
    · rw [if_pos hb]; exact e
    · rw [if_neg hb]; exact fr b o e hb
  exact (Go.same R s1).trans (afterM is pa ms ρ ρ' H1 (R.same s1) hp hl hs mt hO fun b hb => if_neg hb)
end
/-- the addresses that are lent -/
theorem lend {X : Cx} {B : Base} {O : Av} {ρ : En} {σ : Sl} {H : Hp} (R : Rep X.K X.mg B O ρ σ H) : ∀ (as : List Ag) (k : Nat) (ss : List Slot) (is : List Nat), toSlots ρ k as = some (ss, is) →
    ss.length = as.length ∧ ∃ pa : List Addr, is.length = pa.length ∧ (∀ (j : Nat) (i : Nat) (a : Addr), is[j]? = some i → pa[j]? = some a → σ[i]? = some (some (.ref a))) ∧ (∀ a ∈ pa, O a) ∧ (∀ i ∈ is, ∃ s, ρ[i]? = some (some s) ∧ s.mu = true) ∧
      (∀ j, j < pa.length → ∃ (i : Nat) (c : Cont), ss[i]? = some (.par (k + j) c)) ∧
      (∀ (i : Nat) (s : Slot) (g : Ag), ss[i]? = some s → as[i]? = some g → (∃ d, s = .dat d ∧ g = .dat d) ∨ ∃ j q c a, s = .par (k + j) c ∧ g = .own q ∧ is[j]? = some q ∧ pa[j]? = some a ∧ ContAt X.K X.mg H O a c)
  | [], k, ss, is, h => by
    cases h
    exact ⟨rfl, [], rfl, fun j i a h => by simp at h, fun a h => (nomatch h), fun i h => (nomatch h), fun j h => absurd h (Nat.not_lt_zero _), fun i s g h => by simp at h⟩
  | .dat d :: as, k, ss, is, h => by
    unfold toSlots at h
    cases e : toSlots ρ k as with
    | none => rw [e] at h; cases h
    | some p =>
      rw [e] at h
      cases h
      obtain ⟨l, pa, h1, h2, h3, h4, h5, h6⟩ := lend R as k p.1 p.2 e
      refine ⟨by rw [List.length_cons, List.length_cons, l], pa, h1, h2, h3, h4, fun j hj => ?_, fun i s g a b => ?_⟩
      · obtain ⟨i, c, q⟩ := h5 j hj
        exact ⟨i + 1, c, q⟩
      · cases i with
        | zero => cases a; cases b; exact .inl ⟨d, rfl, rfl⟩
        | succ i => exact h6 i s g a b
  | .own q :: as, k, ss, is, h => by
    unfold toSlots at h
    cases ec : slotCont ρ q with
    | none => rw [ec] at h; cases h
    | some c =>
      rw [ec] at h
      dsimp only at h
      cases e : toSlots ρ (k + 1) as with
      | none => rw [e] at h; cases h
      | some p =>
        rw [e] at h
        cases h
        obtain ⟨l, pa, h1, h2, h3, h4, h5, h6⟩ := lend R as (k + 1) p.1 p.2 e
        obtain ⟨a, a1, a2, a3, a4⟩ := R.contAt ec
        refine ⟨by rw [List.length_cons, List.length_cons, l], a :: pa, by rw [List.length_cons, List.length_cons, h1], fun j i b x y => ?_, fun b hb => ?_, fun i hi => ?_, fun j hj => ?_, fun i s g x y => ?_⟩
        · cases j with
          | zero => cases x; cases y; exact a1
          | succ j => exact h2 j i b x y
        · rcases List.mem_cons.mp hb with z | z
          · exact z ▸ a2
          · exact h3 b z
        · rcases List.mem_cons.mp hi with z | z
          · exact z ▸ a4
          · exact h4 i z
        · cases j with
          | zero => exact ⟨0, c, rfl⟩
          | succ j =>
            obtain ⟨i, c', x⟩ := h5 j (by simpa using hj)
            exact ⟨i + 1, c', by rw [List.getElem?_cons_succ, x, show k + 1 + j = k + (j + 1) by omega]⟩
        · cases i with
          | zero => cases x; cases y; exact .inr ⟨0, q, c, a, rfl, rfl, rfl, rfl, a3⟩
          | succ i =>
            rcases h6 i s g x y with z | ⟨j, q', c', b, z1, z2, z3, z4, z5⟩
            · exact .inl z
            · exact .inr ⟨j + 1, q', c', b, by rw [z1, show k + 1 + j = k + (j + 1) by omega], z2, z3, z4, z5⟩
end DL

set_option Elab.async false
set_option linter.all false
set_option maxRecDepth 100000
set_option autoImplicit false
/-! DLR: the call itself. -/
namespace DL
open PySem PySem.Spec PyProof.Rows L2
theorem pars_ge {ρ : En} : ∀ {as : List Ag} {k : Nat} {ss : List Slot} {is : List Nat}, toSlots ρ k as = some (ss, is) → ∀ (i q : Nat) (c : Cont), ss[i]? = some (.par q c) → k ≤ q
  | [], k, ss, is, h, i, q, c, e => by cases h; simp at e
  | .dat d :: as, k, ss, is, h, i, q, c, e => by
    unfold toSlots at h
    cases z : toSlots ρ k as with
    | none => rw [z] at h; cases h
    | some p =>
      rw [z] at h
      cases h
      cases i with
      | zero => cases e
      | succ i => exact pars_ge z i q c e
  | .own x :: as, k, ss, is, h, i, q, c, e => by
    unfold toSlots at h
    cases zc : slotCont ρ x with
    | none => rw [zc] at h; cases h
    | some c0 =>
      rw [zc] at h
      dsimp only at h
      cases z : toSlots ρ (k + 1) as with
      | none => rw [z] at h; cases h
      | some p =>
        rw [z] at h
        cases h
        cases i with
        | zero => cases e; exact Nat.le_refl _
        | succ i => exact Nat.le_of_succ_le (pars_ge z i q c e)
theorem pars_inj {ρ : En} : ∀ {as : List Ag} {k : Nat} {ss : List Slot} {is : List Nat}, toSlots ρ k as = some (ss, is) → ∀ (i j q : Nat) (c c' : Cont), ss[i]? = some (.par q c) → ss[j]? = some (.par q c') → i = j
  | [], k, ss, is, h, i, j, q, c, c', e, e' => by cases h; simp at e
  | .dat d :: as, k, ss, is, h, i, j, q, c, c', e, e' => by
    unfold toSlots at h
    cases z : toSlots ρ k as with
    | none => rw [z] at h; cases h
    | some p =>
      rw [z] at h
      cases h
      cases i with
      | zero => cases e
      | succ i =>
        cases j with
        | zero => cases e'
        | succ j => rw [pars_inj z i j q c c' e e']
  | .own x :: as, k, ss, is, h, i, j, q, c, c', e, e' => by
    unfold toSlots at h
    cases zc : slotCont ρ x with
    | none => rw [zc] at h; cases h
    | some c0 =>
      rw [zc] at h
      dsimp only at h
      cases z : toSlots ρ (k + 1) as with
      | none => rw [z] at h; cases h
      | some p =>
        rw [z] at h
        cases h
        cases i with
        | zero =>
          cases e
          cases j with
          | zero => rfl
          | succ j => exact absurd (pars_ge z j k c' e') (by omega)
        | succ i =>
          cases j with
          | zero => cases e'; exact absurd (pars_ge z i k c e) (by omega)
          | succ j => rw [pars_inj z i j q c c' e e']
def distinct : List Nat → Bool
  | [] => true
  | i :: is => !(is.contains i) && distinct is
theorem distinct_at : ∀ {is : List Nat} {j k i : Nat}, distinct is = true → is[j]? = some i → is[k]? = some i → j = k
  | [], j, k, i, _, h, _ => by simp at h
  | x :: is, j, k, i, d, h, h' => by
    have d : (!(is.contains x) && distinct is) = true := d
    rw [Bool.and_eq_true] at d
    have nx : x ∉ is := fun m => by
      have := d.1
      rw [List.contains_iff_mem.mpr m] at this
      cases this
    cases j with
    | zero =>
      cases h
      cases k with
      | zero => rfl
      | succ k => exact absurd (List.mem_of_getElem? (l := is) (i := k) h') nx
    | succ j =>
      cases k with
      | zero => cases h'; exact absurd (List.mem_of_getElem? (l := is) (i := j) h) nx
      | succ k => rw [distinct_at d.2 h h']
/-- f(e, ..), lists among the arguments lent -/
def fCallP (n : Nat) (m : FnM) (f : FA) : F := fun ρ => (f ρ).bind fun as ρ1 => match toSlots ρ1 0 as with
  | none => .stuck
  | some (ss, is) => if as.length = n ∧ distinct is = true then (match m ss with
      | .ok d ms => (match putAll ρ1 is ms with
        | some ρ2 => .ok d ρ2
        | none => .stuck)
      | .okn ds ms => (match putAll ρ1 is ms with
        | some ρ2 => .ok (.lst ds) ρ2
        | none => .stuck)
      | .err c fs ms => (match putAll ρ1 is ms with
        | some ρ2 => .err c fs ρ2
        | none => .stuck)
      | .stuck => .stuck) else .stuck
section
variable {X : Cx} {W : Wi} {k : Nat} {f : Addr} {fd : FuncData} {ps : List Str} {m : FnM} {x : Str} {p pos : Pos} {e : Expr} {es : List Expr} {fa : FA}
theorem de_callP (F : FnOk X.prog X.w X.K X.mg X.base (L2.CX X.prog X.w) k f fd ps (spM X.K X.mg ps.length m)) (hr : Room k X.A) (hm : X.mg x = some (.ref f)) (hk : PySem.W.keepIn X.K (.ref f) = true) (hb : Binds X.K fd ps [])
    (tk : Takes X W.w) (ha : DP X W (e :: es) fa) (hg : Gl X x := by rfl) (hdb : (x == ("__debug__" : Str)) = false := by decide)
    (he : starEach (e :: es) X.env = (false, eval e X.env) :: starEach es X.env := by rfl) (hpl : (backTo pos (starEach es X.env)).any (·.1) = false := by rfl) :
    DE X W (.Call (.Name x p) (e :: es) [] pos) (fCallP ps.length m fa) := by
  obtain ⟨t, pa, ia⟩ := ha
  refine ⟨_, pe_gD F hr hg hm hk hb .nil (fun σ => passAt tk σ) pa hdb he hpl, fun B ρ σ H O Q R p => ?_⟩
  unfold fCallP at p
  rw [rpost_bind] at p
  refine ia B ρ σ H O _ R (p.mono (fun as ρ1 p vs H1 g r => ?_) fun _ _ _ e => e)
  cases hts : toSlots ρ1 0 as with
  | none => rw [hts] at p; exact p.elim
  | some q =>
    obtain ⟨ss, is⟩ := q
    rw [hts] at p
    dsimp only at p
    split at p
    rotate_left
    · exact p.elim
    rename_i hn
    obtain ⟨hn, hd⟩ := hn
    obtain ⟨ls, A, l1, l2, l3, l4, l5, l6⟩ := lend g.rep as 0 ss is hts
    have at_ : ∀ {i : Nat} {s : Slot}, (ss.map some)[i]? = some (some s) → ∃ g v, as[i]? = some g ∧ vs[i]? = some v ∧ ss[i]? = some s := fun {i s} h => by
      rw [List.getElem?_map] at h
      cases q : ss[i]? with
      | none => rw [q] at h; cases h
      | some s' =>
        rw [q] at h
        cases h
        have hi : i < ss.length := (List.getElem?_eq_some_iff.mp q).1
        exact ⟨as[i]'(by omega), vs[i]'(by rw [r.1]; omega), List.getElem?_eq_getElem _, List.getElem?_eq_getElem _, rfl⟩
    have RC : Rep X.K X.mg ⟨H1, O, A, 0, none, .none⟩ O (ss.map some) (vs.map some) H1 := {
      len := by rw [List.length_map, List.length_map, r.1, ls]
      slot := fun i s h => by
        obtain ⟨gg, v, e1, e2, e3⟩ := at_ h
        refine ⟨v, by rw [List.getElem?_map, e2]; rfl, ?_⟩
        have av := r.2 i v gg e2 e1
        rcases l6 i s gg e3 e1 with ⟨d, z1, z2⟩ | ⟨j, q, c, a, z1, z2, z3, z4, z5⟩
        · subst z1 z2
          exact av
        · subst z1 z2
          have av : σ[q]? = some (some v) := av
          rw [l2 j q a z3 z4] at av
          cases av
          exact ⟨a, rfl, l3 a (List.mem_of_getElem? z4), by rw [Nat.zero_add]; exact z4, z5⟩
      apart := fun i j s t a h1 h2 m1 m2 e1 e2 => by
        obtain ⟨g1, v1, a1, a2, a3⟩ := at_ h1
        obtain ⟨g2, v2, b1, b2, b3⟩ := at_ h2
        rw [List.getElem?_map, a2] at e1
        rw [List.getElem?_map, b2] at e2
        cases e1
        cases e2
        have av := r.2 i _ g1 a2 a1
        have bv := r.2 j _ g2 b2 b1
        rcases l6 i s g1 a3 a1 with ⟨d, z1, _⟩ | ⟨j1, q1, c1, x1, z1, z2, z3, z4, _⟩
        · subst z1; cases m1
        rcases l6 j t g2 b3 b1 with ⟨d, y1, _⟩ | ⟨j2, q2, c2, x2, y1, y2, y3, y4, _⟩
        · subst y1; cases m2
        subst z1 z2 y1 y2
        obtain ⟨s1, u1, w1⟩ := l4 q1 (List.mem_of_getElem? z3)
        obtain ⟨s2, u2, w2⟩ := l4 q2 (List.mem_of_getElem? y3)
        have eq := g.rep.apart q1 q2 s1 s2 a u1 u2 w1 w2 av bv
        subst eq
        have ej := distinct_at hd z3 y3
        subst ej
        exact pars_inj hts i j _ c1 c2 a3 b3
      base := fun b o h _ => h
      live := g.rep.live
      o0 := fun _ h => h
      b0 := g.rep.live
      pao := fun b h => l3 b h }
    refine ⟨ss, O, A, ?_, by rw [List.append_nil]; exact RC, fun j hj => by
      obtain ⟨i, c, z⟩ := l5 j hj
      exact ⟨i, c, by rw [z, Nat.zero_add]⟩, ?_⟩
    · rw [List.append_nil, r.1]
      exact hn
    have go : ∀ {ρ2 : En} {ms : List Cont} {H2 : Hp}, putAll ρ1 is ms = some ρ2 → (∀ b o, H1 b = some o → b ∉ A → H2 b = some o) → MutM X.K X.mg H2 O A ms → Go X.K X.mg B.1 O σ ρ H ρ2 H2 := fun hp fr mt => g.trans (g.rep.afterP hp l1 l2 l3 fr mt)
    cases hms : m ss with
    | stuck => rw [hms] at p; exact p.elim
    | ok d ms =>
      rw [hms] at p
      dsimp only at p
      cases hp : putAll ρ1 is ms with
      | none => rw [hp] at p; exact p.elim
      | some ρ2 => rw [hp] at p; exact fun v H2 fr rv mt => p v H2 (go hp fr mt) rv
    | okn ds ms =>
      rw [hms] at p
      dsimp only at p
      cases hp : putAll ρ1 is ms with
      | none => rw [hp] at p; exact p.elim
      | some ρ2 =>
        rw [hp] at p
        intro ws z H2 fr hq rv mt
        have g2 := go hp fr mt
        have s2 := same_new (o := .lst ws) hq
        have r9 := rv.kp (O' := O) (Same.kp s2)
        exact p _ _ (g2.trans (.same g2.rep s2)) (.lst upd_same (fresh_not g2.rep.live hq) r9.1 r9.2)
    | err c fs ms =>
      rw [hms] at p
      dsimp only at p
      cases hp : putAll ρ1 is ms with
      | none => rw [hp] at p; exact p.elim
      | some ρ2 => rw [hp] at p; exact fun C od H2 fr m1 er mt => p C od H2 (go hp fr mt) m1 er
end
end DL

set_option Elab.async false
set_option linter.all false
set_option maxRecDepth 100000
/-! DLS: t[::-1] of a tuple. -/
namespace DL
open PySem PySem.Spec PyProof.Rows L2

section
variable {prog : Program} {w : World} {A : Around} {E : Value → Shared → Prop} {s : Shared}
theorem down_applied {sl : Addr} {vk : Value} {n : Nat} {Q : Int × Int × Nat → Shared → Prop} (hs : s.heap.IsSliceOf sl .none .none vk) (pk : IsPart vk (some (-1)))
    (h : Q ((n : Int) - 1, -1, n) s) : wpAny (model prog w) A (Builtin.Slice.sliceApplied (.ref sl) (pure (n : Int))) Q E s := by
  obtain ⟨os, hos, hcs, hds⟩ := id hs
  unfold Builtin.Slice.sliceApplied Builtin.Slice.sliceFields
  refine wpAny_bind (wpAny_bind (wpAny_field hos hds (x := .none) rfl (wpAny_bind (wpAny_field hos hds (x := .none) rfl (wpAny_bind (wpAny_field hos hds (x := vk) rfl (wpAny_pure ?_)))))))
  refine wpAny_bind (HT.slicePart_ pk ?_)
  show wpAny _ _ (if ((-1 : Int) == 0) = true then _ else _) _ _ s
  rw [if_neg (by decide)]
  refine wpAny_bind (slicePart_none (wpAny_bind (slicePart_none (wpAny_bind (wpAny_pure ?_)))))
  have e : Builtin.Slice.slicePlaces ((n : Int) - 1) (-1) (-1) = n := by
    unfold Builtin.Slice.slicePlaces
    rw [if_neg (by decide)]
    by_cases hn : (n : Int) - 1 > -1
    · rw [if_pos hn, show (- -1 : Int) = 1 from rfl, Int.ediv_one]
      omega
    · rw [if_neg hn]
      omega
  show wpAny _ _ (pure ((n : Int) - 1, (-1 : Int), Builtin.Slice.slicePlaces ((n : Int) - 1) (-1) (-1))) _ _ s
  rw [e]
  exact wpAny_pure h
theorem fm_congr {α β : Type} {f g : α → Option β} : ∀ {l : List α}, (∀ a ∈ l, f a = g a) → l.filterMap f = l.filterMap g
  | [], _ => rfl
  | a :: l, h => by
    rw [List.filterMap_cons, List.filterMap_cons, h a List.mem_cons_self, fm_congr fun b hb => h b (List.mem_cons_of_mem _ hb)]
theorem pick_down (xs : Array Value) : ((List.range xs.size).filterMap fun (m : Nat) => xs[(((xs.size : Int) - 1) + (m : Int) * (-1)).toNat]?).toArray = xs.toList.reverse.toArray := by
  congr 1
  have e : ∀ m ∈ List.range xs.size, xs[(((xs.size : Int) - 1) + (m : Int) * (-1)).toNat]? = xs.toList.reverse[m]? := fun m hm => by
    have := List.mem_range.mp hm
    rw [List.getElem?_reverse (by simpa using this), Array.getElem?_toList, Array.length_toList]
    congr 1
    omega
  rw [fm_congr e]
  have := PySem.W.krv_all xs.toList.reverse.toArray
  rw [List.size_toArray, List.length_reverse, Array.length_toList] at this
  simpa using this
theorem getItem_tuple_down {t sl : Addr} {items : Array Value} {vk : Value} {Q : Value → Shared → Prop} (ht : IsTup s.heap t items) (hs : s.heap.IsSliceOf sl .none .none vk) (pk : IsPart vk (some (-1)))
    (h : Q (.ref s.heap.objs.size) { s with heap := s.heap.push { cls := .type "tuple", data := .seq items.toList.reverse.toArray } })
    (hsz : items.size ≤ sizeLine) : wpAny (model prog w) A (getItem (.ref t) (.ref sl)) Q E s := by
  have htake : sizeOk (.seq items.toList.reverse.toArray) := by
    show items.toList.reverse.toArray.size ≤ sizeLine
    rw [List.size_toArray, List.length_reverse, Array.length_toList]
    exact hsz
  obtain ⟨os, hos, hcs, hds⟩ := id hs
  have hTs : s.TypeIs (.ref sl) "slice" := ⟨os, hos, hcs⟩
  unfold getItem
  try with_reducible refine wpAny_holding ?_
  first | refine wpAny_bind (wpAny_pure ?_) | skip
  refine wpAny_bind (wpAny_sequenceKey ht.typeIs (by decide) ?_)
  refine wpAny_bind (wpAny_callSpecial?_slot (name := Str.ofString "__getitem__") ht.typeIs PyProof.Rows.slot_tuple_getitem
    (wpAny_call_entry PyProof.Rows.slot_tuple_getitem ht.typeIs entry_tuple_getitem ?_ (args_tuple_getitem _ _)))
  show wpAny _ _ (Builtin.Tuple.tupleItemsOf (.ref t) >>= _) _ _ s
  refine wpAny_bind (tupleItemsOf_ ht ?_)
  refine wpAny_bind (wpAny_typeOf hTs ?_)
  rw [if_pos (by decide)]
  refine wpAny_bind (down_applied hs pk ?_)
  have hno : ¬ ((((items.size : Int) - 1) == 0 && (-1 : Int) == 1 && items.size == items.size) = true) := by
    intro q
    rw [Bool.and_eq_true, Bool.and_eq_true] at q
    exact absurd q.1.2 (by decide)
  show wpAny _ _ (if (((items.size : Int) - 1) == 0 && (-1 : Int) == 1 && items.size == items.size) = true then _ else _) _ _ s
  rw [if_neg hno, pick_down]
  first
    | exact wpAny_bind (m := Builtin.Tuple.tupleExact _) (wpAny_newObj_type (wpAny_pure ⟨_, rfl, wpAny_pure h⟩) htake)
    | exact wpAny_bind (m := Builtin.Tuple.tupleExact _) (wpAny_newObj_type (wpAny_bind (wpAny_pure (wpAny_pure ⟨_, rfl, wpAny_pure h⟩))) htake)
    | exact wpAny_bind (wpAny_bind (m := Builtin.Tuple.tupleExact _) (wpAny_newObj_type (wpAny_pure (wpAny_pure ⟨_, rfl, wpAny_pure h⟩)) htake))
    | exact wpAny_bind (wpAny_bind (m := Builtin.Tuple.tupleExact _) (wpAny_newObj_type (wpAny_pure ⟨_, rfl, wpAny_pure h⟩) htake))
end
def tRevT (K : PySem.W.Frag) (te : TE) : TE := fun σ H Q => te σ H fun x H1 => ∃ a xs, x = .ref a ∧ SqT K H1 a xs ∧ ∀ p, H1 p = none → Q (.ref p) (upd H1 p (.tup xs.reverse))
section
variable {X : Cx}
theorem pe_revT {e : Expr} {te : TE} {k : Nat} {p1 p2 p3 pos : Pos} (he : PE X e te) : PE X (.Subscript e (.Slice none none (some (.UnaryOp .USub (.Constant (.int 1) k p1) p2)) p3) pos) (tRevT X.K te) := by
  refine ⟨fun pins s σ H Q I h => ?_⟩
  refine Subscript_ (thn (he.run pins s σ H _ I h) fun v s1 ⟨x, H1, I1, r1, q1⟩ => ?_)
  obtain ⟨a, xs, ex, hx, q⟩ := q1
  subst ex
  cases r1
  have hst : PO X (some (.UnaryOp .USub (.Constant (.int 1) k p1) p2)) (tPart (tUn (rU fun i => .int (-i)) (tC (.int 1)))) := po_some (pe_un un_neg pe_int)
  refine wpAny_Slice (thn (po_none.run pins s1 σ H1 (fun o H2 => o = none ∧ H2 = H1) I1 ⟨rfl, rfl⟩) fun vl s2 ⟨l, H2, I2, pl, el, e2⟩ => ?_)
  subst el e2
  refine thn (po_none.run pins s2 σ H2 (fun o H3 => o = none ∧ H3 = H2) I2 ⟨rfl, rfl⟩) fun vu s3 ⟨u, H3, I3, pu, eu, e3⟩ => ?_
  subst eu e3
  refine thn (hst.run pins s3 σ H3 (fun o H4 => o = some (-1) ∧ H4 = H3) I3 ⟨1, rfl, -1, rfl, rfl, rfl⟩) fun vs s4 ⟨o, H4, I4, ps, eo, e4⟩ => ?_
  subst eo e4
  have I5 : Inv X pins σ H4 { s4 with heap := s4.heap.push { cls := .type "slice", data := .fields #[vl, vu, vs] } } := I4.kept (t' := s4.toks) fun b ob q => Heap.get?_push_of_some _ q
  obtain ⟨its, r, ht, hz⟩ := I5.tuple hx
  have hlen := r.length
  cases pl
  cases pu
  show wpAny (model X.prog X.w) X.A (subscriptTail e (.Slice none none (some (.UnaryOp .USub (.Constant (.int 1) k p1) p2)) p3) (.ref a) (.ref s4.heap.objs.size)) (EP X pins σ Q) X.xe { s4 with heap := s4.heap.push { cls := .type "slice", data := .fields #[.none, .none, vs] } }
  refine tail_any (ops := [.ref a, .ref s4.heap.objs.size]) ht.typeIs (PyProof.Rows.slot_tuple_getitem.lookup) ?_ (by with_unfolding_all rfl)
  refine getItem_tuple_down ht (Heap.IsSliceOf.new ..) ps ?_ (by rw [List.size_toArray]; omega)
  refine ⟨.ref _, _, I5.laid (t' := s4.toks) (o := .tup xs.reverse) (fun b ob q => Heap.get?_push_of_some _ q) (Nat.le_refl _) ?_, rfl, q _ (I5.hok.fresh (Nat.le_refl _))⟩
  exact ⟨by rw [List.length_reverse]; exact hz, _, r.reverse, IsTup.new _ _⟩
/-- t[::-1] of a tuple -/
def fRevT (f : F) : F := fun ρ => (f ρ).bind fun d ρ1 => match d with
  | .tup ds => .ok (.tup ds.reverse) ρ1
  | _ => .stuck
theorem de_revT {W : Wi} {e : Expr} {f : F} {k : Nat} {p1 p2 p3 pos : Pos} (he : DE X W e f) : DE X W (.Subscript e (.Slice none none (some (.UnaryOp .USub (.Constant (.int 1) k p1) p2)) p3) pos) (fRevT f) := by
  obtain ⟨t, pa, ia⟩ := he
  refine ⟨_, pe_revT pa, fun B ρ σ H O Q R p => ?_⟩
  unfold fRevT at p
  rw [rpost_bind] at p
  refine ia B ρ σ H O _ R (p.mono (fun d ρ1 p v H1 g1 r1 => ?_) fun _ _ _ e => e)
  cases r1 with
  | tup h n e => exact ⟨_, _, rfl, h.sq, fun q hq => p _ _ (g1.trans (.same g1.rep (same_new hq))) (new_tup g1.rep.live hq (RpL.rev ⟨n, e⟩))⟩
  | _ => exact p.elim
end
end DL

set_option Elab.async false
set_option linter.all false
set_option maxRecDepth 100000
set_option autoImplicit false
/-! DLT: a != b of things with an own ==. -/
namespace DL
open PySem PySem.Spec PyProof.Rows L2
section
variable {prog : Program} {w : World} {A : Around} {E : Value → Shared → Prop} {s : Shared} {K : PySem.W.Frag} {x C f : Addr} {ox : Obj} {od : Option Obj} {b tb : Value}
theorem ifBoundB {M : Model} {name : Str} {id : String} {args : List Value} {Q : Option Value → Shared → Prop} (X : K.In s.heap) (I : PySem.W.InstAt s.heap x ox C od) (hs : PySem.W.findIn K (.ref C) name = some (some (.builtin id)))
    (hb : ∀ self, bindSpecial (.builtin id) self = pure (.builtin id, [self])) (h : wpAny M A (call (.builtin id) (.ref x :: args)) (fun v => Q (some v)) E s) : wpAny M A (callSpecialIfBound? (.ref x) name args) Q E s := by
  simp only [callSpecialIfBound?, bindSpecialIfBound?]
  refine wpAny_holding (wpAny_bind (wpAny_bind (wpAny_bind (I.type.here ((PySem.W.looks_findIn X hs).here ?_)))))
  refine wpAny_bind (wpAny_askSetting (wpAny_ite ?_))
  have fin : wpAny M A (call (.builtin id) ([.ref x] ++ args) >>= fun v => pure (some v)) Q E s := wpAny_bind (wpAny_mono h (fun v s' h' => wpAny_pure h') fun _ _ h' => h')
  split
  · exact wpAny_bind ((PySem.W.Looks.of_pure (hb _)).here (wpAny_pure (by exact fin)))
  · exact wpAny_tryCatch (wpAny_bind ((PySem.W.Looks.of_pure (hb _)).here (wpAny_pure (by exact fin))))
theorem ne_K {Q : Value → Shared → Prop} (hu0 : A.units < cLine) (hu : A.in1.units < cLine) (X : K.In s.heap) (I : PySem.W.InstAt s.heap x ox C od) (hb : PySem.W.Looks (model prog w) s.heap (typeOf b) tb) (hn : PySem.W.notFirst K C tb = true)
    (hne : PySem.W.findIn K (.ref C) "__ne__" = some (some (.builtin "object.__ne__"))) (hm : PySem.W.mroIn K C (.type "object") = some true) (hs : PySem.W.findIn K (.ref C) "__eq__" = some (some (.ref f))) (hf : PySem.W.isFn K (.ref f) = true)
    (h : wpAny (model prog w) A.in1 (call (.ref f) [.ref x, b]) (fun v s' => ∃ k, v = .bool k ∧ Q (.bool (!k)) s') E s) : wpAny (model prog w) A (richCompare .NotEq (.ref x) b) Q E s := by
  have ent : wpAny (model prog w) A.in1 (Builtin.«object.__ne__» ⟨[.ref x, b], []⟩) (fun o s' => ∃ k, o = .done (.ret (.bool k)) ∧ Q (.bool k) s') E s := by
    unfold Builtin.«object.__ne__»
    refine wpAny_bind (m := slotArgs "__ne__" 1 _) (wpAny_pure ?_)
    refine wpAny_bind (m := cRoomFor _ _) (wpAny_cRoomFor hu ?_)
    refine wpAny_bind (m := callSpecialIfBound? (.ref x) (Str.ofString "__eq__") _) (PySem.W.ifBound_K X I hs hf (wpAny_mono h (fun r s' hr => ?_) fun _ _ y => y))
    obtain ⟨k, rfl, q⟩ := hr
    first
      | exact wpAny_bind (wpAny_truthy_bool (wpAny_pure ⟨_, rfl, q⟩))
      | exact wpAny_pure ⟨_, rfl, q⟩
  have one : wpAny (model prog w) A (tryCompare (.ref x) "__ne__" b) (fun r s' => ∃ v, r = some v ∧ Q v s') E s := by
    unfold tryCompare
    refine wpAny_bind (ifBoundB X I hne PySem.F.cmp_object.ne.bind (wpAny_call (codeAny_call_builtin PySem.F.cmp_object.ne.plain PySem.F.cmpEntry_ne
      (PySem.W.check_slot (i := "object.__ne__") (owner := "object") (n := "__ne__") PySem.F.cmpKind_ne PySem.F.cmpSplit_ne (I.type.andThen (PySem.W.looks_mroIn X hm)) (PySem.F.cmpArgs_ne _ _) (wpAny_mono ent (fun o s' z => ?_) fun _ _ y => y)))))
    obtain ⟨k, rfl, q⟩ := z
    exact wpAny_pure ⟨_, rfl, q⟩
  unfold richCompare
  simp only [oneThing_ref]
  refine wpAny_holding (wpAny_bind (wpAny_cRoomFor hu0 ?_))
  rw [cmpInfo_NotEq]
  refine wpAny_bind (I.type.here (wpAny_bind (hb.here ?_)))
  split
  · rename_i q
    have e : PySem.W.subIn K tb (.ref C) = some false := by
      rcases Bool.or_eq_true_iff.mp hn with e | e
      · rw [beq_iff_eq.mp e] at q; simp at q
      · exact beq_iff_eq.mp e
    refine wpAny_bind ((PySem.W.looks_subIn X e).here ?_)
    simp only [Bool.false_eq_true, if_false]
    refine wpAny_bind (wpAny_mono one (fun r s' z => ?_) fun _ _ e => e)
    obtain ⟨v, rfl, hq⟩ := z
    exact wpAny_pure hq
  · refine wpAny_bind (wpAny_pure ?_)
    simp only [Bool.false_eq_true, if_false]
    refine wpAny_bind (wpAny_mono one (fun r s' z => ?_) fun _ _ e => e)
    obtain ⟨v, rfl, hq⟩ := z
    exact wpAny_pure hq
end
section
variable {X : Cx} {C f : Addr} {fd : FuncData} {ps : List Str} {sp : Sp} {k : Nat}
def rNE (K : PySem.W.Frag) (C : Addr) (sp : Sp) : R2 := fun x y H Q => ∃ a dx fs b C' dy gs, x = .ref a ∧ y = .ref b ∧ H a = some (.ins C dx fs) ∧ H b = some (.ins C' dy gs) ∧ PySem.W.notFirst K C (.ref C') = true ∧
  sp [x, y] H (fun z H' => ∃ k, z = .bl k ∧ Q (.bl (!k)) H') (fun _ _ _ => False)
theorem op_ne (F : FnOk X.prog X.w X.K X.mg X.base (L2.CX X.prog X.w) k f fd ps sp) (hne : PySem.W.findIn X.K (.ref C) "__ne__" = some (some (.builtin "object.__ne__"))) (hmr : PySem.W.mroIn X.K C (.type "object") = some true)
    (hs : PySem.W.findIn X.K (.ref C) "__eq__" = some (some (.ref f))) (hf : PySem.W.isFn X.K (.ref f) = true) (hb : Binds X.K fd ps []) (hr : Room (k + 1) X.A)
    (hx : Passes (L2.CX X.prog X.w) X (fun _ _ _ => False)) : OpR X (compareOp .NotEq) (rNE X.K C sp) := fun pins s σ H x y v u Q I rx ry h => by
  obtain ⟨a, dx, fs, b, C', dy, gs, ex, ey, ha, h2, hn, q⟩ := h
  subst ex ey
  cases (show v = Value.ref a from rx)
  cases (show u = Value.ref b from ry)
  obtain ⟨_, j1, _⟩ := ins_get I.hok ha
  obtain ⟨_, j2, _⟩ := ins_get I.hok h2
  obtain ⟨_, i1, _⟩ := j1.look
  obtain ⟨_, i2, _⟩ := j2.look
  obtain ⟨_, fr⟩ := I.fr
  have rr : Vals [V.ref a, V.ref b] [Value.ref a, Value.ref b] := .cons rfl (.cons rfl .nil)
  have ln := F.len _ _ _ _ q
  have bd := hb s [.ref a, .ref b] I.kIn (by rw [List.append_nil]; exact ln)
  rw [List.append_nil] at bd
  refine ne_K hr.units0 hr.in1.units0 I.kIn i1 i2.type hn hne hmr hs hf (wpAny_call (codeAny_mono (F.run X.A.in1 X.stack s H ⟨[.ref a, .ref b], []⟩ [.ref a, .ref b] [.ref a, .ref b] _ _ hr.in1 I.env0.in1 bd rr q) fun o z hz => ?_))
  match o, hz with
  | .error e, hz => exact hx pins σ H s e z I hz
  | .ok .next, hz => exact hz.elim
  | .ok .brk, hz => exact hz.elim
  | .ok .cont, hz => exact hz.elim
  | .ok (.ret u), hz =>
    obtain ⟨v, H', I3, rv, kk, ei, q3⟩ := I.after hz
    subst ei
    cases (show u = Value.bool kk from rv)
    exact ⟨kk, rfl, .bl (!kk), H', I3, rfl, q3⟩
/-- a != b, a of the class c, b of one of the classes cs -/
def neI (c : Str) (cs : List Str) (m : Fn) : D → D → Option D := fun a b => match a, b with
  | .ins c1 fs, .ins c2 gs => if c1 = c ∧ c2 ∈ cs then (match m [.dat (.ins c1 fs), .dat (.ins c2 gs)] with
    | .ok (.bl k) _ => some (.bl (!k))
    | _ => none) else none
  | _, _ => none
theorem o_neI {c : Str} {cs : List Str} {m : Fn} (hm : X.mg c = some (.ref C)) (hn : ∀ c2 ∈ cs, ∃ C', X.mg c2 = some (.ref C') ∧ PySem.W.notFirst X.K C (.ref C') = true) (F : FnOk X.prog X.w X.K X.mg X.base (L2.CX X.prog X.w) k f fd ps (spD X.K X.mg 2 m))
    (hne : PySem.W.findIn X.K (.ref C) "__ne__" = some (some (.builtin "object.__ne__"))) (hmr : PySem.W.mroIn X.K C (.type "object") = some true)
    (hs : PySem.W.findIn X.K (.ref C) "__eq__" = some (some (.ref f))) (hf : PySem.W.isFn X.K (.ref f) = true) (hb : Binds X.K fd ps []) (hr : Room (k + 1) X.A) (hx : Passes (L2.CX X.prog X.w) X (fun _ _ _ => False)) : Op2 X (compareOp .NotEq) (neI c cs m) := by
  refine ⟨_, op_ne F hne hmr hs hf hb hr hx, fun H O x y a b d Q lv rx ry e q => ?_⟩
  unfold neI at e
  split at e
  · rename_i c1 fs c2 gs
    split at e
    rotate_left
    · cases e
    rename_i hc
    obtain ⟨h1, h2⟩ := hc
    subst h1
    have r2 := RpL.nil.cons ry |>.cons rx
    cases rx with
    | ins a1 a2 a3 a4 a5 =>
      cases ry with
      | ins b1 b2 b3 b4 b5 =>
        rw [hm] at a3
        cases a3
        obtain ⟨C', m2, n2⟩ := hn _ h2
        rw [b3] at m2
        cases m2
        refine ⟨_, _, _, _, _, _, _, rfl, rfl, a1, b1, n2, call_post (ds := [.ins c1 fs, .ins c2 gs]) lv rfl r2 ?_⟩
        cases z : m (List.map Slot.dat [D.ins c1 fs, D.ins c2 gs]) with
        | ok d' w =>
          have z : m [.dat (.ins c1 fs), .dat (.ins c2 gs)] = .ok d' w := z
          rw [z] at e
          cases d' with
          | bl k =>
            cases e
            exact fun v H' s rv => ⟨k, rv.bl_inv, q (.bl (!k)) H' s (.bl _)⟩
          | _ => cases e
        | okn ds w =>
          have z : m [.dat (.ins c1 fs), .dat (.ins c2 gs)] = .okn ds w := z
          rw [z] at e
          cases e
        | err c3 fs3 w =>
          have z : m [.dat (.ins c1 fs), .dat (.ins c2 gs)] = .err c3 fs3 w := z
          rw [z] at e
          cases e
        | stuck =>
          have z : m [.dat (.ins c1 fs), .dat (.ins c2 gs)] = .stuck := z
          rw [z] at e
          cases e
  · cases e
end
end DL

set_option Elab.async false
set_option linter.all false
set_option maxRecDepth 100000
set_option autoImplicit false
/-! DLU: static methods called on their class. -/
namespace DL
open PySem PySem.Spec PyProof.Rows L2
/-- C.m is a static method: its record at p, its def at g -/
structure SMet (K : PySem.W.Frag) (C : Addr) (mc : Value) (m : Str) (p g : Addr) : Prop where
  at_ : PySem.W.findCls K (.ref C) mc m = some (.get (.builtin "staticmethod.__get__") (.ref p) .none (.ref C))
  rc : ∃ rest, PySem.W.recIn K p "staticmethod" = some (.ref g :: rest)
  kp : PySem.W.keepIn K (.ref g) = true
section
variable {X : Cx} {k : Nat} {C p g : Addr} {mc : Value} {fd : FuncData} {ps : List Str} {ds : List Value} {dvs : List V} {sp : Sp} {E : L2.St → XK} {e : Expr} {es : List Expr} {c m : Str} {pos apos cp : Pos} {t : TA} {pl : Sem Bool}
theorem getsm_ok {pins : List (Addr × Obj)} {σ : L2.St} {H : Hp} {s : Shared} {A : Around} {EE : Value → Shared → Prop} {Q : Value × List Value → Shared → Prop} (I : Inv X pins σ H s) (r : ClX.CRead X.K C mc) (k : SMet X.K C mc m p g)
    (h : ∀ s', Inv X pins σ H s' → Q (.ref g, []) s') : wpAny (model X.prog X.w) A (getMethod (.ref C) m pl) Q EE s := by
  obtain ⟨rest, hp⟩ := k.rc
  refine PySem.W.method_cls I.kIn r.ga (PySem.W.cls_bind I.kIn r.rd k.at_ ?_)
  exact wpAny_call (PySem.W.sm_get (s := { s with toks := s.toks + 1 }) I.kIn hp (PySem.W.handed_on rfl (h _ (I.tok _))))
theorem pe_smeth (hgC : Gl X c) (hmC : X.mg c = some (.ref C)) (r : ClX.CRead X.K C mc) (q : SMet X.K C mc m p g) (F : FnOk X.prog X.w X.K X.mg X.base (L2.CX X.prog X.w) k g fd ps sp) (hr : Room k X.A) (hb : Binds X.K fd ps ds) (hd : Vals dvs ds) (hx : ∀ σ, PassesAt (L2.CX X.prog X.w) X σ (E σ))
    (ha : PA X (e :: es) t) (hdb : (c == ("__debug__" : Str)) = false := by decide) (he : starEach (e :: es) X.env = (false, eval e X.env) :: starEach es X.env := by rfl) (hpl : (backTo pos (starEach es X.env)).any (·.1) = false := by rfl)
    (ht : eval (.Call (.Attribute (.Name c cp) m apos) (e :: es) [] pos) X.env = (do
      let ov ← eval (.Name c cp) X.env
      standAt apos.atName
      let (f, first) ← holding [ov] (getMethod ov m pl)
      callWith pos f first (backTo pos (starEach (e :: es) X.env)) (backToKw pos (keywordEach [] X.env))) := by rfl) :
    PE X (.Call (.Attribute (.Name c cp) m apos) (e :: es) [] pos) (tCallSD sp dvs E t) := by
  refine ⟨fun pins s σ H Q I h => ?_⟩
  refine PySem.W.methodCall_KW (pl := pl) (thn ((pe_glob (v := .ref C) hgC hmC rfl hdb).run pins s σ H (fun x H1 => x = .ref C ∧ H1 = H) I ⟨rfl, rfl⟩) fun u s1 ⟨x, H1, I1, rx, ex, eH⟩ => ?_) ht
  subst ex eH
  obtain rfl : u = Value.ref C := rx
  refine getsm_ok I1 r q fun s2 I2 => ?_
  refine PySem.W.callWith_K (h₀ := X.base) I.ok.mod.kin q.kp (thn (ha.run pos pins s2 σ _ _ I2 h) fun us s3 ⟨vs, H3, I3, rr, q3⟩ => ⟨I3.kIn, ?_⟩) he hpl
  exact run_gD F hr hb hd (hx σ) I3 rr q3
end
section
variable {X : Cx} {W : Wi} {k : Nat} {C p0 f : Addr} {mc : Value} {fd : FuncData} {ps : List Str} {ds : List Value} {dvs : List V} {dd : List D} {m : Fn} {e : Expr} {es : List Expr} {c nm : Str} {pos apos cp : Pos} {fl : FL} {pl : Sem Bool}
theorem de_smeth (F : FnOk X.prog X.w X.K X.mg X.base (L2.CX X.prog X.w) k f fd ps (spD X.K X.mg ps.length m)) (hr : Room k X.A) (hm : X.mg c = some (.ref C)) (r : ClX.CRead X.K C mc) (sq : SMet X.K C mc nm p0 f) (hb : Binds X.K fd ps ds) (hd : Vals dvs ds)
    (hdd : ∀ H O, (∀ z, O z → H z ≠ none) → RpL X.K X.mg H O dvs dd) (tk : Takes X W.w) (ha : DA X W (e :: es) fl) (hg : Gl X c := by rfl) (hdb : (c == ("__debug__" : Str)) = false := by decide)
    (he : starEach (e :: es) X.env = (false, eval e X.env) :: starEach es X.env := by rfl) (hpl : (backTo pos (starEach es X.env)).any (·.1) = false := by rfl)
    (ht : eval (.Call (.Attribute (.Name c cp) nm apos) (e :: es) [] pos) X.env = (do
      let ov ← eval (.Name c cp) X.env
      standAt apos.atName
      let (f, first) ← holding [ov] (getMethod ov nm pl)
      callWith pos f first (backTo pos (starEach (e :: es) X.env)) (backToKw pos (keywordEach [] X.env))) := by rfl) :
    DE X W (.Call (.Attribute (.Name c cp) nm apos) (e :: es) [] pos) (fCall ps.length m dd fl) := by
  obtain ⟨t, pa, ia⟩ := ha
  refine ⟨_, pe_smeth hg hm r sq F hr hb hd (fun σ => passAt tk σ) pa hdb he hpl ht, fun B ρ σ H O Q R p => ?_⟩
  unfold fCall at p
  rw [rpost_bind] at p
  refine ia B ρ σ H O _ R (p.mono (fun as ρ1 p vs H1 g r => ?_) fun _ _ _ e => e)
  have rd := r.app (hdd H1 O g.rep.live)
  split at p
  · rename_i hn
    refine call_post g.rep.live hn rd ?_
    cases c : m ((as ++ dd).map Slot.dat) with
    | ok d _ =>
      rw [c] at p
      exact fun v H2 s rv => p v H2 (g.trans (.same g.rep s)) rv
    | okn ds _ =>
      rw [c] at p
      intro vs q H2 s hq rv
      have g2 := g.trans (.same g.rep s)
      have s2 := same_new (o := .lst vs) hq
      have r2 := rv.kp (O' := O) (Same.kp s2)
      exact p _ _ (g2.trans (.same g2.rep s2)) (.lst upd_same (fresh_not g2.rep.live hq) r2.1 r2.2)
    | err c2 fs _ =>
      rw [c] at p
      exact fun C od H2 s m1 er => p C od H2 (g.trans (.same g.rep s)) m1 er
    | stuck => rw [c] at p; exact p.elim
  · exact p.elim
end
end DL

set_option Elab.async false
set_option linter.all false
set_option maxRecDepth 100000
set_option autoImplicit false
set_option maxHeartbeats 3200000
/-! DLV: sorted(set(xs)) of whole numbers. -/
namespace DL
open PySem PySem.Spec PyProof.Rows L2

/-! ascending, each once -/
def insU (x : Int) : List Int → List Int
  | [] => [x]
  | y :: ys => if x < y then x :: y :: ys else if x = y then y :: ys else y :: insU x ys
def uniI : List Int → List Int
  | [] => []
  | x :: xs => insU x (uniI xs)
theorem insU_mem (x z : Int) : ∀ ys : List Int, z ∈ insU x ys ↔ z = x ∨ z ∈ ys
  | [] => by simp [insU]
  | y :: ys => by
    unfold insU
    split
    · simp
    · split
      · rename_i h
        subst h
        simp
      · have := insU_mem x z ys
        simp only [List.mem_cons, this]
        constructor
        · rintro (h | h | h)
          · exact .inr (.inl h)
          · exact .inl h
          · exact .inr (.inr h)
        · rintro (h | h | h)
          · exact .inr (.inl h)
          · exact .inl h
          · exact .inr (.inr h)
theorem insU_up (x : Int) : ∀ {ys : List Int}, ys.Pairwise (· < ·) → (insU x ys).Pairwise (· < ·)
  | [], _ => List.pairwise_singleton _ _
  | y :: ys, h => by
    have h' := List.pairwise_cons.mp h
    unfold insU
    split
    · rename_i hl
      refine List.pairwise_cons.mpr ⟨fun z hz => ?_, h⟩
      rcases List.mem_cons.mp hz with e | e
      · rw [e]; exact hl
      · exact Int.lt_trans hl (h'.1 z e)
    · split
      · exact h
      · rename_i h1 h2
        refine List.pairwise_cons.mpr ⟨fun z hz => ?_, insU_up x h'.2⟩
        rcases (insU_mem x z ys).mp hz with e | e
        · rw [e]; omega
        · exact h'.1 z e
theorem uniI_mem (z : Int) : ∀ xs : List Int, z ∈ uniI xs ↔ z ∈ xs
  | [] => by simp [uniI]
  | x :: xs => by
    unfold uniI
    rw [insU_mem, uniI_mem z xs, List.mem_cons]
theorem uniI_up : ∀ xs : List Int, (uniI xs).Pairwise (· < ·)
  | [] => .nil
  | x :: xs => insU_up x (uniI_up xs)
theorem up_uniq : ∀ {xs ys : List Int}, xs.Pairwise (· < ·) → ys.Pairwise (· < ·) → (∀ z, z ∈ xs ↔ z ∈ ys) → xs = ys
  | [], [], _, _, _ => rfl
  | [], y :: ys, _, _, h => absurd ((h y).mpr List.mem_cons_self) (by simp)
  | x :: xs, [], _, _, h => absurd ((h x).mp List.mem_cons_self) (by simp)
  | x :: xs, y :: ys, a, b, h => by
    have a' := List.pairwise_cons.mp a
    have b' := List.pairwise_cons.mp b
    have e : x = y := by
      rcases List.mem_cons.mp ((h x).mp List.mem_cons_self) with e | e
      · exact e
      · rcases List.mem_cons.mp ((h y).mpr List.mem_cons_self) with e2 | e2
        · exact e2.symm
        · have := b'.1 x e
          have := a'.1 y e2
          omega
    subst e
    congr 1
    refine up_uniq a'.2 b'.2 fun z => ⟨fun hz => ?_, fun hz => ?_⟩
    · rcases List.mem_cons.mp ((h z).mp (List.mem_cons_of_mem _ hz)) with e | e
      · have := a'.1 z hz; omega
      · exact e
    · rcases List.mem_cons.mp ((h z).mpr (List.mem_cons_of_mem _ hz)) with e | e
      · have := b'.1 z hz; omega
      · exact e
theorem insU_len (x : Int) : ∀ ys : List Int, (insU x ys).length ≤ ys.length + 1
  | [] => by simp [insU]
  | y :: ys => by
    unfold insU
    split
    · simp
    · split
      · simp
      · have := insU_len x ys
        simp only [List.length_cons]
        omega
theorem uniI_len : ∀ xs : List Int, (uniI xs).length ≤ xs.length
  | [] => by simp [uniI]
  | x :: xs => by
    have := uniI_len xs
    have := insU_len x (uniI xs)
    simp only [uniI, List.length_cons]
    omega

/-! set(xs), xs a list of whole numbers -/
section
variable {P : Program} {w : World} {A : Around} {E : Value → Shared → Prop} {s : Shared}
/-- a set with nothing in it, and the heap with it -/
abbrev noSet (w : World) : Obj := ⟨.type "set", none, .set #[] 0 (.fresh 0 0 (!w.params.followText "set-order")), #[]⟩
abbrev hpS (w : World) (s : Shared) : Heap := s.heap.push (noSet w)
abbrev shS (w : World) (s : Shared) : Shared := { s with heap := hpS w s }
theorem set_ofL {z : Addr} {arr : Array Value} (ks : List Int) {Q : Value → Shared → Prop} (hn : A.handled = none) (hz : s.heap.IsList z arr) (hk : IntsAre arr.toList ks) (few : ks.length + 1 < scanBound)
    (h : ∀ (hp2 : Heap) (tk n : Nat), SetR w hp2 s.heap.objs.size (fun j => decide (j ∈ ks)) n → n ≤ ks.length → (∀ b o, s.heap.get? b = some o → hp2.get? b = some o) → Q (.ref s.heap.objs.size) { s with heap := hp2, toks := tk }) :
    wpAny (model P w) A (call (.type "set") [.ref z]) Q E s := by
  have size_eq : arr.size = ks.length := by have q := IntsAre.length hk; rwa [Array.length_toList] at q
  obtain ⟨cc, rest, mro⟩ := F.called_set.mro
  have made := F.called_set.made; have sub := F.called_set.sub
  refine wpAny_call (codeAny_of_tree ?_); show wpAny _ _ (callAny (.type "set") _) _ _ _
  refine wpAny_pure ⟨Code.quiet_builtin _ (by decide +kernel), ?_⟩; refine codeAny_builtin F.entry_type_call ?_
  rw [Around.under_plain (weight_type_call_type "set" [.ref z] []) rfl]
  have nt := F.called_set.notType; have cr := F.called_set.canCreate; have tc := F.typeCall_set_1 (.ref z)
  repeat (any_goals (first | assumption | wp_step))
  refine codeAny_mono (code_set_led1 (.ref z) (E := E) (Q₁ := fun ob s1 => ob = .ref s.heap.objs.size ∧ s1 = shS w s) ⟨rfl, rfl⟩) fun r s1 hr => ?_
  cases r with
  | error e => exact hr
  | ok fl =>
    cases fl with
    | ret obj =>
      obtain ⟨rfl, rfl⟩ := hr
      have atS : (hpS w s).get? s.heap.objs.size = some (noSet w) := Heap.get?_push_size _ rfl
      have tyS : Shared.TypeIs (shS w s) (.ref s.heap.objs.size) "set" := ⟨_, atS, rfl⟩
      have il := F.called_set.init.lookup; have ib := F.called_set.init.bind (.ref s.heap.objs.size)
      repeat (any_goals (first | assumption | wp_step))
      refine codeAny_mono (codeAny_call_builtin (R := wants (fun r s2 => r = .none ∧ ∃ hp2 tk n, s2 = { s with heap := hp2, toks := tk } ∧ SetR w hp2 s.heap.objs.size (fun j => decide (j ∈ ks)) n ∧ n ≤ ks.length ∧
          ∀ b o, s.heap.get? b = some o → hp2.get? b = some o) E) F.called_set.init.plain F.entry_set_init (check_set_init_1 tyS ?_)) fun r2 s2 hr2 => ?_
      · obtain ⟨ol, hol, hcl, nl, hdl⟩ := hz
        obtain ⟨c1, c2, c3, c4⟩ := ol
        simp only at hcl hdl
        subst hcl; subst hdl
        have atL : (hpS w s).get? z = some ⟨.type "list", c2, .seq arr nl, c4⟩ := Heap.get?_push_of_some _ hol
        have s1 := F.sub_list_set; have s2 := F.sub_list_frozenset
        have nd : (Value.type "list" == Value.type "dict") = false := by decide
        have isL : (hpS w s).IsList z arr := ⟨_, atL, rfl, nl, rfl⟩
        unfold Builtin.«set.__init__» noKeywords; unfold Builtin.Frozenset.updateFrom
        generalize hPI : pyIter = PI
        wp_walk
        subst hPI
        refine wpAny_pyIter_list isL ?_; refine wpAny_bind (wpAny_runValue ?_)
        have lt : z < s.heap.objs.size := Heap.lt_size hol
        have hn3 : A.in1.in1.in1.handled = none := by simp [hn]
        have nI : z ≠ (hpS w s).objs.size := by rw [Heap.size_push]; exact Nat.ne_of_lt (Nat.lt_succ_of_lt lt)
        have out : s.heap.objs.size ∉ [(hpS w s).objs.size, z] := by
          rw [Heap.size_push]; simp only [List.mem_cons, List.mem_singleton, List.not_mem_nil, or_false, not_or]; exact ⟨Nat.ne_of_lt (Nat.lt_succ_self _), Nat.ne_of_gt lt⟩
        have val : ∀ (i : Nat) (v : Value), arr[i]? = some v → ∃ k t, ks[i]? = some k ∧ v = .int k t := fun i v hv => by
          have hi : i < ks.length := by rw [← size_eq]; exact (Array.getElem?_eq_some_iff.mp hv).1
          obtain ⟨t, e⟩ := PyProof.Rows.IntsAre.int_at hk i v (by rw [Array.getElem?_toList]; exact hv)
          exact ⟨ks[i], t, List.getElem?_eq_getElem hi, by rw [e, List.getD_eq_getElem?_getD, List.getElem?_eq_getElem hi] <;> rfl⟩
        refine set_update_ints ((Walks.list hn3 _ z nI arr).toS) s.heap.objs.size out ks size_eq few val (arr.size - 0) 0 _ (by omega) (Nat.zero_le _) ⟨⟨_, Heap.get?_push_size _ rfl, rfl, rfl⟩, (isL.push _)⟩ ?one ?two
        case one =>
          have at2 : ((hpS w s).push { cls := .type "list_iterator", data := .fields #[.ref z, .int 0 0] }).get? s.heap.objs.size = some (noSet w) := Heap.get?_push_of_some _ atS
          exact ⟨0, Nat.le_refl 0, setR_new_at at2⟩
        case two =>
          intro s' n hm hc hS
          obtain ⟨hp2, g2, d2, tk2, os2⟩ := s'
          have eg : g2 = s.gens := hm.gens; have ed : d2 = s.drawn := hm.drawn; have eo : os2 = s.os := hm.os
          subst eg; subst ed; subst eo
          show wpAny _ _ _ _ _ _
          refine wpAny_pure ?_; show wpAny _ _ (ret Value.none) _ _ _
          rw [size_eq] at hc
          refine wpAny_pure ⟨rfl, hp2, tk2, n, rfl, hS, hc, fun b o e => ?_⟩
          have b0 : b < s.heap.objs.size := Heap.lt_size e
          have b1 : b ≠ s.heap.objs.size := Nat.ne_of_lt b0
          have b2 : b ≠ (hpS w s).objs.size := by rw [Heap.size_push]; exact Nat.ne_of_lt (Nat.lt_succ_of_lt b0)
          refine hm.heap b o ?_ (Heap.get?_push_of_some _ (Heap.get?_push_of_some _ e))
          simp only [List.mem_cons, List.mem_singleton, List.not_mem_nil, or_false, not_or]; exact ⟨b1, b2⟩
      · cases r2 with
        | error e => exact hr2
        | ok fl2 =>
          cases fl2 with
          | ret r =>
            obtain ⟨rfl, hp2, tk, n, rfl, hS, hc, hk2⟩ := hr2
            repeat (any_goals (first | assumption | wp_step))
            exact h _ _ _ hS hc hk2
          | _ => exact hr2.elim
    | _ => exact hr.elim
end
/-- set(e), e a list or a tuple of whole numbers -/
def rSetI (K : PySem.W.Frag) (w : World) : List V → Hp → VK → Prop := fun xs H Q => ∃ (p : Addr) (ns : List Int), xs = [.ref p] ∧ (SqL K H p (ns.map V.int) ∨ SqT K H p (ns.map V.int)) ∧ ns.length ≤ 1000 ∧
  ∀ a n, n ≤ ns.length → H a = none → Q (.ref a) (upd H a (SetO w a (fun j => decide (j ∈ ns)) n))
section
variable {X : Cx} {W : Wi}
theorem cr_setI (hc : X.calm = true) : CallR X (.type "set") (rSetI X.K X.w) := by
  intro pins s σ H xs us Q I r h
  obtain ⟨p, ns, rfl, hq, hl, q⟩ := h
  rw [Vals.ref1 r]
  have hn : H s.heap.objs.size = none := I.hok.fresh (Nat.le_refl _)
  have few : ns.length + 1 < scanBound := by unfold scanBound; omega
  rcases hq with hq | hq
  · obtain ⟨its, rv, pl, hz⟩ := I.list hq
    have hi : IntsAre its.toArray.toList ns := ints_of_vals rv
    exact set_ofL ns (I.ok.hd hc) pl.isList hi few fun h' tk n R hcn k => ⟨.ref s.heap.objs.size, upd H s.heap.objs.size (SetO X.w s.heap.objs.size (fun j => decide (j ∈ ns)) n), I.laid (t' := tk) k (Nat.le_refl _) (setO_new R), rfl, q _ n hcn hn⟩
  · obtain ⟨its, rv, pt, hz⟩ := I.tuple hq
    have hi : IntsAre its.toArray.toList ns := ints_of_vals rv
    exact call_set_tupI ns (I.ok.hd hc) (show s.heap.IsTuple p its.toArray from pt) hi few fun h' tk n R hcn k => ⟨.ref s.heap.objs.size, upd H s.heap.objs.size (SetO X.w s.heap.objs.size (fun j => decide (j ∈ ns)) n), I.laid (t' := tk) k (Nat.le_refl _) (setO_new R), rfl, q _ n hcn hn⟩
def uniD : List D → Option D
  | [a] => (seqOf a).bind fun ds => (intsOf ds).bind fun ns => if ns.length < 64 then some (.lst ((uniI ns).map .int)) else none
  | _ => none
/-- sorted(set(e)) -/
theorem de_sortset {e : Expr} {fl : FL} {p p2 q pos : Pos} (hc : X.calm = true) (hm : X.mg "sorted" = none) (hm2 : X.mg "set" = none) (ha : DA X W [e] fl) (hg : Gl X "sorted" := by rfl) (hg2 : Gl X "set" := by rfl)
    (hs : starEach [e] X.env = (false, eval e X.env) :: starEach [] X.env := by rfl) (hpl : (backTo q (starEach [] X.env)).any (·.1) = false := by rfl)
    (hs2 : starEach [.Call (.Name "set" p2) [e] [] q] X.env = (false, eval (.Call (.Name "set" p2) [e] [] q) X.env) :: starEach [] X.env := by rfl) (hpl2 : (backTo pos (starEach [] X.env)).any (·.1) = false := by rfl) :
    DE X W (.Call (.Name "sorted" p) [.Call (.Name "set" p2) [e] [] q] [] pos) (fB uniD fl) := by
  obtain ⟨t, pa, ia⟩ := ha
  refine ⟨_, pe_callB (cr_sortedSet hc) hg hm (by decide +kernel) (pa_cons (pe_callTy (cr_setI hc) hg2 hm2 (by decide +kernel) pa (by decide) (by decide) hs hpl) pa_nil hs2) (by decide) (by decide) hs2 hpl2, fun B ρ σ H O Q R p => ?_⟩
  unfold fB at p
  rw [rpost_bind] at p
  refine ia B ρ σ H O _ R (p.mono (fun ds ρ1 p vs H1 g1 r1 => ?_) fun _ _ _ e => e)
  obtain ⟨d, e, p⟩ := rpost_of p
  unfold uniD at e
  split at e
  · rename_i a
    cases c : seqOf a with
    | none => rw [c] at e; cases e
    | some ds =>
      rw [c] at e
      cases c2 : intsOf ds with
      | none => rw [Option.bind_some, c2] at e; cases e
      | some ns =>
        rw [Option.bind_some, c2, Option.bind_some] at e
        split at e
        · rename_i few
          cases e
          obtain ⟨v, rfl, rv⟩ := r1.one
          obtain ⟨l, ad, vs, rfl, hsq, hel⟩ := relsq_of rv c
          cases ints_inv hel c2
          have hq := hsq H1 O (Same.kp (Same.refl H1))
          refine ⟨ad, ns, rfl, ?_, by omega, fun sa n hn hfree => ?_⟩
          · cases l with
            | true => exact .inl hq
            | false => exact .inr hq
          refine ⟨sa, _, n, rfl, upd_same, by omega, fun ks lp up mem hlen hfree2 => ?_⟩
          have ek : ks = uniI ns := up_uniq up (uniI_up ns) fun z => by rw [mem z, decide_eq_true_eq, uniI_mem]
          subst ek
          have s1 : Same H1 (upd H1 sa (SetO X.w sa (fun j => decide (j ∈ ns)) n)) := same_new hfree
          have g2 := g1.trans (.same g1.rep s1)
          have s2 := same_new (o := .lst ((uniI ns).map V.int)) hfree2
          exact p _ _ (g2.trans (.same g2.rep s2)) (new_lst g2.rep.live hfree2 (ints_rp _))
        · cases e
  · cases e
end
end DL

set_option Elab.async false
set_option linter.all false
set_option maxRecDepth 100000
set_option autoImplicit false
/-! DLW: expressions that read lists that change: the lists are lent for the time of the expression, and what comes back holds none of them. -/
namespace DL
open PySem PySem.Spec PyProof.Rows L2

def kindN : D → Nat
  | .non => 0
  | .bl _ => 1
  | .int _ => 2
  | .str _ => 3
  | _ => 4
/-- surely not one and the same value -/
def dif : D → D → Bool
  | .int i, .int j => decide (i ≠ j)
  | .str s, .str t => decide (s ≠ t)
  | .bl a, .bl b => decide (a ≠ b)
  | a, b => decide (kindN a ≠ kindN b)
def difL (xs ds : List D) : Bool := decide (xs.length ≠ ds.length) || (xs.zip ds).any fun p => dif p.1 p.2
mutual
/-- no list in it is one of those -/
def noAl (ls : List (List D)) : D → Bool
  | .lst xs => ls.all (fun ds => difL xs ds) && noAlL ls xs
  | .slst xs => noAlL ls xs
  | .tup xs => noAlL ls xs
  | .ins _ fs => noAlF ls fs
  | _ => true
def noAlL (ls : List (List D)) : List D → Bool
  | [] => true
  | x :: xs => noAl ls x && noAlL ls xs
def noAlF (ls : List (List D)) : List (Str × D) → Bool
  | [] => true
  | (_, x) :: xs => noAl ls x && noAlF ls xs
end
theorem noAlL_at {ls : List (List D)} : ∀ {xs : List D} {i : Nat} {d : D}, noAlL ls xs = true → xs[i]? = some d → noAl ls d = true
  | [], i, d, _, e => by simp at e
  | x :: xs, i, d, h, e => by
    unfold noAlL at h
    obtain ⟨h1, h2⟩ := Bool.and_eq_true_iff.mp h
    cases i with
    | zero => cases e; exact h1
    | succ i => exact noAlL_at h2 e
theorem noAlF_at {ls : List (List D)} : ∀ {xs : List (Str × D)} {i : Nat} {p : Str × D}, noAlF ls xs = true → xs[i]? = some p → noAl ls p.2 = true
  | [], i, d, _, e => by simp at e
  | (f, x) :: xs, i, d, h, e => by
    unfold noAlF at h
    obtain ⟨h1, h2⟩ := Bool.and_eq_true_iff.mp h
    cases i with
    | zero => cases e; exact h1
    | succ i => exact noAlF_at h2 e
theorem noAlF_look {ls : List (List D)} : ∀ {xs : List (Str × D)} {f : Str} {d : D}, noAlF ls xs = true → xs.lookup f = some d → noAl ls d = true
  | [], f, d, _, e => by cases e
  | (g, x) :: xs, f, d, h, e => by
    unfold noAlF at h
    obtain ⟨h1, h2⟩ := Bool.and_eq_true_iff.mp h
    rw [List.lookup] at e
    split at e
    · cases e; exact h1
    · exact noAlF_look h2 e
def lendS (is : List Nat) (j : Nat) : Option Slot → Option Slot
  | some (.own ds) => if j ∈ is then some (.dat (.lst ds)) else none
  | some (.par _ _) => none
  | s => s
def lendE (is : List Nat) : Nat → En → En
  | _, [] => []
  | j, s :: ρ => lendS is j s :: lendE is (j + 1) ρ
def lentS : Option (Option Slot) → Option (List D)
  | some (some (.own ds)) => some ds
  | _ => none
def lentL (is : List Nat) (ρ : En) : List (List D) := is.filterMap fun i => lentS ρ[i]?
theorem lendE_at (is : List Nat) : ∀ (ρ : En) (j k : Nat), (lendE is j ρ)[k]? = (ρ[k]?).map (lendS is (j + k))
  | [], j, k => by simp [lendE]
  | s :: ρ, j, 0 => rfl
  | s :: ρ, j, k + 1 => by
    rw [lendE, List.getElem?_cons_succ, lendE_at is ρ (j + 1) k, List.getElem?_cons_succ, show j + 1 + k = j + (k + 1) by omega]
theorem lendE_len (is : List Nat) : ∀ (ρ : En) (j : Nat), (lendE is j ρ).length = ρ.length
  | [], j => rfl
  | s :: ρ, j => by rw [lendE, List.length_cons, List.length_cons, lendE_len is ρ (j + 1)]
theorem lendS_mu {is : List Nat} {j : Nat} {o : Option Slot} {s : Slot} (h : lendS is j o = some s) : s.mu = false := by
  cases o with
  | none => cases h
  | some t =>
    cases t with
    | dat d => cases h; rfl
    | exc c fs => cases h; rfl
    | own ds =>
      have h : (if j ∈ is then some (Slot.dat (.lst ds)) else none) = some s := h
      by_cases hm : j ∈ is
      · rw [if_pos hm] at h; cases h; rfl
      · rw [if_neg hm] at h; cases h
    | par k c => cases h
section
variable {K : PySem.W.Frag} {mg : Str → Option Value} {B : Base} {O O' : Av} {ρ ρ1 : En} {σ : Sl} {H H1 : Hp} {v : V} {d : D}
theorem dif_rp {x y : D} (h : Rp K mg H O v x) (h2 : Rp K mg H1 O' v y) : dif x y = false := by
  cases h <;> cases h2 <;> simp [dif, kindN]
theorem difL_rp {vs : List V} {xs ds : List D} (h : RpL K mg H O vs xs) (h2 : RpL K mg H1 O' vs ds) : difL xs ds = false := by
  unfold difL
  rw [Bool.or_eq_false_iff]
  refine ⟨decide_eq_false (by rw [← h.1, ← h2.1]; simp), ?_⟩
  rw [List.any_eq_false]
  intro p hp
  obtain ⟨i, hi⟩ := List.mem_iff_getElem?.mp hp
  rw [List.getElem?_zip_eq_some] at hi
  obtain ⟨w, hw, r⟩ := h.get hi.1
  obtain ⟨w2, hw2, r2⟩ := h2.get hi.2
  rw [hw] at hw2
  cases hw2
  rw [dif_rp r r2]
  exact Bool.false_ne_true
theorem noAl_rp {ls : List (List D)} (hO : ∀ z, O z → ¬ O' z → ∃ ds ∈ ls, ∃ vs, H z = some (.lst vs) ∧ RpL K mg H O' vs ds) (h : Rp K mg H O' v d) : noAl ls d = true → Rp K mg H O v d := by
  induction h with
  | non => exact fun _ => .non
  | bl b => exact fun _ => .bl b
  | int i => exact fun _ => .int i
  | str s => exact fun _ => .str s
  | @lst a vs xs h o n e ih =>
    intro hn
    unfold noAl at hn
    obtain ⟨h1, h2⟩ := Bool.and_eq_true_iff.mp hn
    refine .lst h (fun z => ?_) n fun i v d x y => ih i v d x y (noAlL_at h2 y)
    obtain ⟨ds, hm, vs2, q1, q2⟩ := hO a z o
    rw [h] at q1
    cases q1
    have := List.all_eq_true.mp h1 ds hm
    rw [difL_rp (xs := xs) (ds := ds) ⟨n, e⟩ q2] at this
    cases this
  | @slst a vs xs h n e ih =>
    intro hn
    unfold noAl at hn
    refine .slst ?_ n fun i v d x y => ih i v d x y (noAlL_at hn y)
    rcases h with ⟨⟨o, h⟩, nn⟩ | h
    · refine .inl ⟨⟨o, h⟩, fun z => ?_⟩
      obtain ⟨ds, hm, vs2, q1, q2⟩ := hO a z nn
      rw [h] at q1
      cases q1
    · exact .inr h
  | @tup a vs xs h n e ih =>
    intro hn
    unfold noAl at hn
    refine .tup ?_ n fun i v d x y => ih i v d x y (noAlL_at hn y)
    rcases h with ⟨h, nn⟩ | h
    · refine .inl ⟨h, fun z => ?_⟩
      obtain ⟨ds, hm, vs2, q1, q2⟩ := hO a z nn
      rcases h with h | ⟨o, h⟩ <;> (rw [h] at q1; cases q1)
    · exact .inr h
  | @emp a h o =>
    intro hn
    refine .emp h fun z => ?_
    obtain ⟨ds, hm, vs2, q1, q2⟩ := hO a z o
    rw [h] at q1
    cases q1
  | @ins a C dx c fvs fs h o g n e ih =>
    intro hn
    unfold noAl at hn
    refine .ins h (fun z => ?_) g n fun i p q x y => ih i p q x y (noAlF_at hn y)
    obtain ⟨ds, hm, vs2, q1, q2⟩ := hO a z o
    rw [h] at q1
    cases q1
theorem noAlL_rp {ls : List (List D)} {vs : List V} {ds : List D} (hO : ∀ z, O z → ¬ O' z → ∃ ds ∈ ls, ∃ vs, H z = some (.lst vs) ∧ RpL K mg H O' vs ds) (h : RpL K mg H O' vs ds) (hn : noAlL ls ds = true) : RpL K mg H O vs ds :=
  ⟨h.1, fun i v d a b => noAl_rp hO (h.2 i v d a b) (noAlL_at hn b)⟩
theorem err_al {ls : List (List D)} {od : Option Addr} {fs : List (Str × D)} (hO : ∀ z, O z → ¬ O' z → ∃ ds ∈ ls, ∃ vs, H z = some (.lst vs) ∧ RpL K mg H O' vs ds) (h : ErrAt K mg H O' od fs) (hn : noAlF ls fs = true) : ErrAt K mg H O od fs := by
  rcases h with h | ⟨a, xfs, h1, h2, h3, h4⟩
  · exact .inl h
  · refine .inr ⟨a, xfs, h1, h2, fun z => ?_, fun f d e => ?_⟩
    · obtain ⟨ds, hm, vs2, q1, q2⟩ := hO a z h3
      rw [h2] at q1
      cases q1
    · obtain ⟨v, e1, e2⟩ := h4 f d e
      exact ⟨v, e1, noAl_rp hO e2 (noAlF_look hn e)⟩
/-- the lists lent -/
theorem Rep.lent (R : Rep K mg B O ρ σ H) (is : List Nat) : ∃ O' : Av, Rep K mg B O' (lendE is 0 ρ) σ H ∧ ∀ z, O z → ¬ O' z → ∃ ds ∈ lentL is ρ, ∃ vs, H z = some (.lst vs) ∧ RpL K mg H O' vs ds := by
  let O' : Av := fun z => O z ∧ ¬ ∃ i ds, i ∈ is ∧ ρ[i]? = some (some (.own ds)) ∧ σ[i]? = some (some (.ref z))
  have k : Kp H O H O' := fun a u e o => ⟨e, fun h => o h.1⟩
  have at0 : ∀ i, (lendE is 0 ρ)[i]? = (ρ[i]?).map (lendS is i) := fun i => by rw [lendE_at, Nat.zero_add]
  refine ⟨O', ⟨?_, ?_, ?_, R.base, fun a h => R.live a h.1, ?_, R.b0, R.pao⟩, ?_⟩
  · rw [lendE_len]; exact R.len
  · intro i s h
    rw [at0] at h
    cases e : ρ[i]? with
    | none => rw [e] at h; cases h
    | some o =>
      rw [e] at h
      have h : lendS is i o = some s := Option.some.inj h
      cases o with
      | none => cases h
      | some t =>
        obtain ⟨v, h1, h2⟩ := R.slot i t e
        cases t with
        | dat d => cases h; exact ⟨v, h1, Rp.kp k h2⟩
        | exc c fs => cases h; exact ⟨v, h1, h2.1, h2.2.1, h2.2.2.kp k⟩
        | own ds =>
          have h : (if i ∈ is then some (Slot.dat (.lst ds)) else none) = some s := h
          by_cases hm : i ∈ is
          · rw [if_pos hm] at h
            cases h
            obtain ⟨a, rfl, o, n, vs, q1, q2⟩ := h2
            have q3 := q2.kp k
            exact ⟨_, h1, .lst q1 (fun z => z.2 ⟨i, ds, hm, e, h1⟩) q3.1 q3.2⟩
          · rw [if_neg hm] at h; cases h
        | par n c => cases h
  · intro i j s t a h1 h2 h3 h4 h5 h6
    rw [at0] at h1
    cases e : ρ[i]? with
    | none => rw [e] at h1; cases h1
    | some o =>
      rw [e] at h1
      rw [lendS_mu (Option.some.inj h1)] at h3
      cases h3
  · intro a h
    refine ⟨R.o0 a h, ?_⟩
    rintro ⟨i, ds, hm, e, h1⟩
    obtain ⟨v, h2, a2, e2, o, n, _⟩ := R.slot i _ e
    rw [h1] at h2
    cases h2
    cases e2
    exact R.b0 a h n
  · intro z hz hn
    have : ∃ i ds, i ∈ is ∧ ρ[i]? = some (some (.own ds)) ∧ σ[i]? = some (some (.ref z)) := Classical.not_not.mp fun q => hn ⟨hz, q⟩
    obtain ⟨i, ds, hm, e, h1⟩ := this
    obtain ⟨v, h2, a2, e2, o, n, vs, q1, q2⟩ := R.slot i _ e
    rw [h1] at h2
    cases h2
    cases e2
    refine ⟨ds, List.mem_filterMap.mpr ⟨i, hm, by rw [e]; rfl⟩, vs, q1, q2.kp k⟩
theorem lend_same {is : List Nat} (g : Go K mg B O' σ (lendE is 0 ρ) H ρ1 H1) : Same H H1 := fun b o e => g.fr b o e fun ⟨i, s, h1, h2, _⟩ => by
  rw [lendE_at] at h1
  cases q : ρ[i]? with
  | none => rw [q] at h1; cases h1
  | some o =>
    rw [q] at h1
    rw [lendS_mu (Option.some.inj h1)] at h2
    cases h2
end
section
variable {X : Cx} {W : Wi} {e : Expr}
def lendR {α : Type} (ls : List (List D)) (chk : α → Bool) (ρ : En) : R α → R α
  | .ok d _ => if chk d = true then .ok d ρ else .stuck
  | .err c fs _ => if noAlF ls fs = true then .err c fs ρ else .stuck
  | .stuck => .stuck
def fLend (is : List Nat) (f : F) : F := fun ρ => lendR (lentL is ρ) (noAl (lentL is ρ)) ρ (f (lendE is 0 ρ))
def tLend (is : List Nat) (f : FB) : FB := fun ρ => lendR (lentL is ρ) (fun _ => true) ρ (f (lendE is 0 ρ))
def nLend (is : List Nat) (f : FL) : FL := fun ρ => lendR (lentL is ρ) (noAlL (lentL is ρ)) ρ (f (lendE is 0 ρ))
theorem lend_ok {α : Type} {ls : List (List D)} {chk : α → Bool} {ρ ρ1 : En} {d : α} {ok : α → En → Prop} {er : Str → List (Str × D) → En → Prop} (x : RPost (lendR ls chk ρ (.ok d ρ1)) ok er) : chk d = true ∧ ok d ρ := by
  have x : RPost (if chk d = true then R.ok d ρ else .stuck) ok er := x
  by_cases h : chk d = true
  · rw [if_pos h] at x; exact ⟨h, x⟩
  · rw [if_neg h] at x; exact x.elim
theorem lend_err {α : Type} {ls : List (List D)} {chk : α → Bool} {ρ ρ1 : En} {c : Str} {fs : List (Str × D)} {ok : α → En → Prop} {er : Str → List (Str × D) → En → Prop} (x : RPost (lendR ls chk ρ (.err c fs ρ1)) ok er) : noAlF ls fs = true ∧ er c fs ρ := by
  have x : RPost (if noAlF ls fs = true then R.err c fs ρ else .stuck) ok er := x
  by_cases h : noAlF ls fs = true
  · rw [if_pos h] at x; exact ⟨h, x⟩
  · rw [if_neg h] at x; exact x.elim
theorem erE_lend {B : Base} {O O' : Av} {ρ ρ1 : En} {σ : Sl} {H : Hp} {is : List Nat} {c : Str} {fs : List (Str × D)} (R : Rep X.K X.mg B O ρ σ H)
    (hO : ∀ z, O z → ¬ O' z → ∃ ds ∈ lentL is ρ, ∃ vs, H z = some (.lst vs) ∧ RpL X.K X.mg H O' vs ds) (hn : noAlF (lentL is ρ) fs = true) (x : ErE X B W O σ ρ H c fs ρ) : ErE X B W O' σ (lendE is 0 ρ) H c fs ρ1 := by
  intro C od H' g hm ea
  have s := lend_same g
  refine x C od H' (Go.same R s) hm (err_al (fun z h1 h2 => ?_) ea hn)
  obtain ⟨ds, m, vs, q1, q2⟩ := hO z h1 h2
  exact ⟨ds, m, vs, s _ _ q1, q2.kp (Same.kp s)⟩
theorem de_lend {f : F} (is : List Nat) (h : DE X W e f) : DE X W e (fLend is f) := by
  obtain ⟨t, p, q⟩ := h
  refine ⟨t, p, fun B ρ σ H O Q R x => ?_⟩
  obtain ⟨O', R', hO⟩ := R.lent is
  refine q B _ σ H O' Q R' ?_
  unfold fLend at x
  cases e : f (lendE is 0 ρ) with
  | stuck => rw [e] at x; exact x.elim
  | ok d ρ1 =>
    rw [e] at x
    obtain ⟨hn, x⟩ := lend_ok x
    intro v H' g r
    have s := lend_same g
    refine x v H' (Go.same R s) (noAl_rp (fun z h1 h2 => ?_) r hn)
    obtain ⟨ds, m, vs, q1, q2⟩ := hO z h1 h2
    exact ⟨ds, m, vs, s _ _ q1, q2.kp (Same.kp s)⟩
  | err c fs ρ1 =>
    rw [e] at x
    obtain ⟨hn, x⟩ := lend_err x
    exact erE_lend R hO hn x
theorem dt_lend {f : FB} (is : List Nat) (h : DT X W e f) : DT X W e (tLend is f) := by
  obtain ⟨t, p, q⟩ := h
  refine ⟨t, p, fun B ρ σ H O Q R x => ?_⟩
  obtain ⟨O', R', hO⟩ := R.lent is
  refine q B _ σ H O' Q R' ?_
  unfold tLend at x
  cases e : f (lendE is 0 ρ) with
  | stuck => rw [e] at x; exact x.elim
  | ok d ρ1 =>
    rw [e] at x
    obtain ⟨_, x⟩ := lend_ok x
    exact fun H' g => x H' (Go.same R (lend_same g))
  | err c fs ρ1 =>
    rw [e] at x
    obtain ⟨hn, x⟩ := lend_err x
    exact erE_lend R hO hn x
theorem dn_lend {f : FL} (is : List Nat) (h : DN X W e f) : DN X W e (nLend is f) := by
  obtain ⟨t, p, q⟩ := h
  refine ⟨t, p, fun B ρ σ H O Q R x => ?_⟩
  obtain ⟨O', R', hO⟩ := R.lent is
  refine q B _ σ H O' Q R' ?_
  unfold nLend at x
  cases e : f (lendE is 0 ρ) with
  | stuck => rw [e] at x; exact x.elim
  | ok d ρ1 =>
    rw [e] at x
    obtain ⟨hn, x⟩ := lend_ok x
    intro vs p H' g hp r
    have s := lend_same g
    refine x vs p H' (Go.same R s) hp (noAlL_rp (fun z h1 h2 => ?_) r hn)
    obtain ⟨ds, m, vs, q1, q2⟩ := hO z h1 h2
    exact ⟨ds, m, vs, s _ _ q1, q2.kp (Same.kp s)⟩
  | err c fs ρ1 =>
    rw [e] at x
    obtain ⟨hn, x⟩ := lend_err x
    exact erE_lend R hO hn x
/-- what a list that changes holds -/
def lstS : Option (Option Slot) → Option (List D)
  | some (some (.own ds)) => some ds
  | some (some (.par _ (.lst ds))) => some ds
  | _ => none
theorem Rep.lstAt {B : Base} {O : Av} {ρ : En} {σ : Sl} {H : Hp} {K : PySem.W.Frag} {mg : Str → Option Value} (R : Rep K mg B O ρ σ H) {i : Nat} {ds : List D} (h : lstS ρ[i]? = some ds) : ∃ a vs, σ[i]? = some (some (.ref a)) ∧ H a = some (.lst vs) ∧ RpL K mg H O vs ds := by
  unfold lstS at h
  split at h
  · rename_i xs e
    cases h
    obtain ⟨v, h1, a, rfl, o, n, vs, q1, q2⟩ := R.slot i _ e
    exact ⟨a, vs, h1, q1, q2⟩
  · rename_i k xs e
    cases h
    obtain ⟨v, h1, a, rfl, o, n, vs, q1, q2⟩ := R.slot i _ e
    exact ⟨a, vs, h1, q1, q2⟩
  · cases h
/-- list(x), tuple(x), x a list that changes -/
def fListX (i : Nat) : FL := fun ρ => R.of (lstS ρ[i]?) ρ
def fTupX (i : Nat) : F := fun ρ => R.of ((lstS ρ[i]?).map .tup) ρ
theorem dn_listX (i : Nat) {x : Str} {p p2 pos : Pos} (hm : X.mg "list" = none) (hg : Gl X "list" := by rfl) (hN : X.N[i]? = some x := by rfl) (hv : Vis X.env.scope x := by first | exact Or.inl rfl | exact Or.inr (Or.inl rfl) | exact Or.inr (Or.inr rfl)) (hd : (x == ("__debug__" : Str)) = false := by decide)
    (hcd : (x == ("__classdict__" : Str)) = false := by decide) (hs : starEach [.Name x p2] X.env = (false, eval (.Name x p2) X.env) :: starEach [] X.env := by rfl)
    (hpl : (backTo pos (starEach [] X.env)).any (·.1) = false := by rfl) : DN X W (.Call (.Name "list" p) [.Name x p2] [] pos) (fListX i) := by
  refine ⟨_, pe_callTy call_list_of hg hm (by decide +kernel) (pa_cons (pe_var hN hv hd hcd) pa_nil hs) (by decide) (by decide) hs hpl, fun B ρ σ H O Q R p => ?_⟩
  obtain ⟨ds, e, p⟩ := rpost_of p
  obtain ⟨a, vs, h1, h2, h3⟩ := R.lstAt e
  exact ⟨.ref a, h1, a, vs, rfl, .inl (SqL.of h2), fun q hq => p vs q H (Go.refl R) hq h3⟩
theorem de_tupX (i : Nat) {x : Str} {p p2 pos : Pos} (hm : X.mg "tuple" = none) (hg : Gl X "tuple" := by rfl) (hN : X.N[i]? = some x := by rfl) (hv : Vis X.env.scope x := by first | exact Or.inl rfl | exact Or.inr (Or.inl rfl) | exact Or.inr (Or.inr rfl)) (hd : (x == ("__debug__" : Str)) = false := by decide)
    (hcd : (x == ("__classdict__" : Str)) = false := by decide) (hs : starEach [.Name x p2] X.env = (false, eval (.Name x p2) X.env) :: starEach [] X.env := by rfl)
    (hpl : (backTo pos (starEach [] X.env)).any (·.1) = false := by rfl) : DE X W (.Call (.Name "tuple" p) [.Name x p2] [] pos) (fTupX i) := by
  refine ⟨_, pe_callTy call_tuple_of hg hm (by decide +kernel) (pa_cons (pe_var hN hv hd hcd) pa_nil hs) (by decide) (by decide) hs hpl, fun B ρ σ H O Q R p => ?_⟩
  obtain ⟨d, e, p⟩ := rpost_of p
  cases c : lstS ρ[i]? with
  | none => rw [c] at e; cases e
  | some ds =>
    rw [c] at e
    cases e
    obtain ⟨a, vs, h1, h2, h3⟩ := R.lstAt c
    exact ⟨.ref a, h1, a, vs, rfl, .inl ⟨SqL.of h2, fun l hl => p _ _ (.same R (same_new hl)) (new_tup R.live hl h3)⟩⟩
/-- what is never reached -/
def gStuck : G := fun _ => .stuck
theorem ds_stuck {st : Stmt} : DS X W st gStuck := ⟨fun _ _ _ => False, ⟨fun _ _ _ _ _ _ h => h.elim⟩, fun _ _ _ _ _ _ _ p => p.elim⟩
def fStuck : F := fun _ => .stuck
theorem de_stuck : DE X W e fStuck := ⟨fun _ _ _ => False, ⟨fun _ _ _ _ _ _ h => h.elim⟩, fun _ _ _ _ _ _ _ p => p.elim⟩
/-- {} -/
theorem de_dict0 {pos : Pos} : DE X W (.Dict [] [] pos) (fC .emp) :=
  ⟨_, pe_dnewK, fun B ρ σ H O Q R p q hq => p _ _ (.same R (same_new hq)) (.emp upd_same (fresh_not R.live hq))⟩
end
end DL

set_option Elab.async false
set_option linter.all false
set_option maxRecDepth 100000
set_option autoImplicit false
/-! DLX: empty dicts compared. -/
namespace DL
open PySem PySem.Spec PyProof.Rows L2
section
variable {X : Cx}
def eqE : D → D → Option D := fun a b => match a, b with
  | .emp, .emp => some (.bl true)
  | _, _ => none
theorem o_eqE (hu : X.A.units + 64 < cLine) : Op2 X (compareOp .Eq) eqE := by
  refine ⟨_, op_eqV hu, fun H O x y a b d Q lv rx ry e q => ?_⟩
  unfold eqE at e
  split at e
  · cases e
    cases rx with
    | emp h1 h2 =>
      cases ry with
      | emp h3 h4 =>
        refine ⟨0, Nat.zero_le _, .inr ⟨_, _, [], [], rfl, rfl, h1, h3, rfl, fun p hp => nomatch hp⟩, q _ H (Same.refl H) (.bl true)⟩
  · cases e
end
end DL
/-! sorted(t), t a tuple of whole numbers -/
namespace DL
open PySem PySem.Spec PyProof.Rows L2 Srt SrtO
section
variable {prog : Program} {w : World} {A : Around} {E : Value → Shared → Prop} {s : Shared}
/-- the heap with a list of those values new in it -/
abbrev hpC (h : Heap) (vs : List Value) : Heap := (h.push (seqObj "list" #[] 0)).update h.objs.size (Obj.mapSeq (· ++ vs.toArray))
theorem collect_tupI {l : Addr} {vs : List Value} {Q : List Value → Shared → Prop} (hl : s.heap.IsTuple l vs.toArray) (hz : vs.length ≤ sizeLine) (h : Q vs { s with heap := hpC s.heap vs }) : wpAny (model prog w) A (collect (.ref l)) Q E s := by
  obtain ⟨o, ho, hc, n, hd⟩ := id hl; unfold collect
  have ht : (Value.type "tuple" == Value.type "tuple") = true := by rfl
  have new : (s.heap.push (seqObj "list" #[] 0)).get? s.heap.objs.size = some (seqObj "list" #[] 0) := Heap.get?_push_size _ rfl
  have old : (s.heap.push (seqObj "list" #[] 0)).get? l = some o := Heap.get?_push_of_some _ ho
  have e : ((#[] : Array Value) ++ vs.toArray).toList = vs := by simp
  refine wpAny_bind (wpAny_runValue (codeAny_builtin entry_proto_collect' ?_)); show wpAny _ _ (do again (.builtin "list.__iadd__" ⟨[← newList [], .ref l], []⟩)) _ _ s
  refine wpAny_bind (wpAny_newList (wpAny_pure ⟨Code.quiet_builtin _ (by decide +kernel), codeAny_builtin entry_list_iadd' ?_⟩)); show wpAny _ _ (Builtin.List.listExtendWith (.ref s.heap.objs.size) (.ref l) (.ref s.heap.objs.size)) _ _ { s with heap := s.heap.push (seqObj "list" #[] 0) }
  unfold Builtin.List.listExtendWith; refine wpAny_bind (wpAny_typeOf (T := "tuple") ⟨o, old, hc⟩ ?_); rw [if_pos (by rw [ht]; simp)]
  refine wpAny_bind (listItems_at old hd ?_); refine wpAny_bind (listItems_at (xs := #[]) (n := 0) new rfl ?_); rw [if_neg (by simp)]
  refine wpAny_bind (listUpdate_at (xs := #[]) (n := 0) new rfl ?_ (Nat.zero_le _) (by show (#[] ++ vs.toArray).size ≤ sizeLine + 1; simp only [Array.size_append, List.size_toArray, List.length_nil]; omega)); refine wpAny_pure ?_
  show wpAny (model prog w) A (load s.heap.objs.size >>= fun o => match o.data with | .seq xs _ => pure xs.toList | _ => unsupported "internal:collect") Q E { s with heap := hpC s.heap vs }
  refine wpAny_bind (wpAny_load (get?_update_seq new _) ?_); show wpAny _ _ (pure ((#[] : Array Value) ++ vs.toArray).toList) Q E _; rw [e]; exact wpAny_pure h
theorem sorted_tupI {l : Addr} {vs : List Value} {ns : List Int} {Q : Value → Shared → Prop} (hl : s.heap.IsTuple l vs.toArray) (hz : vs.length ≤ sizeLine) (hI : IntsAre vs ns)
    (h : ∀ out : List Value, Srtd ltIv out → Stb ltIv out vs → Q (.ref (s.heap.objs.size + 1)) { s with heap := sortedAll s.heap vs out.toArray }) : wpAny (model prog w) A (call (.builtin "sorted") [.ref l]) Q E s := by
  refine Calls.call_function_entry kind_sorted plain_sorted entry_sorted (args_sorted1 _) ?_; unfold Builtin.«sorted»
  refine wpAny_bind (m := checkCount "sorted" 1 1 _) (wpAny_pure ?_); refine wpAny_bind (collect_tupI hl hz ?_); refine wpAny_bind (wpAny_newList ?_ hz)
  have sz : (hpC s.heap vs).objs.size = s.heap.objs.size + 1 := by rw [Heap.size_update, size_push']
  have atL : ((hpC s.heap vs).push (seqObj "list" vs.toArray 0)).get? (s.heap.objs.size + 1) = some (seqObj "list" vs.toArray 0) := by rw [← sz]; exact Heap.get?_push_size _ rfl
  show wpAny _ _ _ _ _ { s with heap := (hpC s.heap vs).push (seqObj "list" vs.toArray 0) }; rw [sz]
  refine wpAny_bind (wpAny_holding (wpAny_call_entry slot_list_sort ⟨_, atL, rfl⟩ entry_list_sort (list_sort_ord swo_int atL hz (fun h2 => ints_sortable hI h2) fun out k1 k2 => ⟨_, rfl, ?_⟩) (args_list_sort _))); exact wpAny_pure ⟨_, rfl, h out k1 k2⟩
end
def rSortTI (K : PySem.W.Frag) : List V → Hp → VK → Prop := fun vs H Q => ∃ (a : Addr) (ns : List Int), vs = [V.ref a] ∧ SqT K H a (ns.map V.int) ∧ ∀ (ns' : List Int) (p : Addr), ns'.Perm ns → ns'.Pairwise (· ≤ ·) → H p = none → Q (.ref p) (upd H p (.lst (ns'.map V.int)))
section
variable {X : Cx}
theorem cr_sortTI : CallR X (.builtin "sorted") (rSortTI X.K) := by
  intro pins s σ H vs us Q I r h; obtain ⟨a, ns, rfl, hs, q⟩ := h; obtain ⟨its, rv, hl, hz⟩ := I.tuple hs; rw [Vals.ref1 r]
  refine sorted_tupI (show s.heap.IsTuple a its.toArray from hl) (by rw [← rv.length]; exact hz) rv.ints fun out h1 h2 => ?_
  obtain ⟨k1, k2, k3⟩ := ints_out rv.ints h1 h2; obtain ⟨ep, he'⟩ := PyProof.Rows.sortedAll_at s.heap its out.toArray
  have hlen : ((out.map iv).map V.int).length ≤ sizeLine := by rw [List.length_map, k2.length_eq]; rw [List.length_map] at hz; exact hz
  exact ⟨.ref _, upd H (s.heap.objs.size + 1) (.lst ((out.map iv).map V.int)), I.laid (t' := s.toks) (fun _ _ => PyProof.Rows.sortedAll_old) (Nat.le_succ _) ⟨hlen, out, ep, vals_of_ints k1, he'⟩, rfl, q _ _ k2 k3 (I.hok.fresh (Nat.le_succ _))⟩
def sortT : List D → Option D
  | [.tup ds] => (intsOf ds).map fun ns => .lst ((srtI ns).map .int)
  | _ => none
theorem c_sortT : CallV X (.builtin "sorted") sortT := by
  refine ⟨_, cr_sortTI, fun H O xs as d Q lv r e q => ?_⟩
  unfold sortT at e
  split at e
  · rename_i ds
    cases c : intsOf ds with
    | none => rw [c] at e; cases e
    | some ns =>
      rw [c] at e
      cases e
      obtain ⟨v, rfl, rv⟩ := r.one
      cases rv with
      | @tup a vs ds hT n el =>
        cases ints_inv (show RpL X.K X.mg H O vs ds from ⟨n, el⟩) c
        refine ⟨a, ns, rfl, hT.sq, fun ns' p hp hs hn => ?_⟩
        rw [sorted_uniq (hp.trans (srtI_perm ns).symm) hs (srtI_sorted ns)]
        exact q _ _ (same_new hn) (new_lst lv hn (ints_rp _))
  · cases e
end
end DL
/-! range(i, j, c) -/
namespace DL
open PySem PySem.Spec PyProof.Rows L2
section
variable {X : Cx} {W : Wi}
def stepL (lo c : Int) (n : Nat) : List D := (List.range n).map fun i => .int (lo + (i : Nat) * c)
theorem walk_step {K : PySem.W.Frag} {mg : Str → Option Value} {lo c : Int} {n : Nat} {H1 : Hp} {O1 : Av} : WalkD K mg (Itc lo c n) (stepL lo c n) H1 O1 := fun H O k l => ⟨fun i d hi => by
  rw [stepL, List.getElem?_map] at hi
  by_cases h : i < n
  · rw [List.getElem?_range h] at hi
    cases hi
    refine ⟨h, fun x H' y => ?_⟩
    obtain ⟨e1, e2⟩ := y
    subst e1 e2
    exact ⟨Same.refl _, .int _⟩
  · rw [List.getElem?_eq_none (by rw [List.length_range]; omega)] at hi
    exact (nomatch hi), by
  show n ≤ (stepL lo c n).length
  rw [stepL, List.length_map, List.length_range]
  exact Nat.le_refl _⟩
def fRange3G (f : FL) : FL := fun ρ => (f ρ).bind fun ds ρ1 => match ds with
  | [.int i, .int j, .int c] => if c ≠ 0 ∧ c.natAbs < 1073741824 ∧ Builtin.Range.small i j c = true ∧ 0 ≤ Builtin.Range.rangeSize i j c then .ok (stepL i c (Builtin.Range.rangeSize i j c).toNat) ρ1 else .stuck
  | _ => .stuck
theorem di_range3G {tg a b c : Expr} {fl : FL} {p pos : Pos} (hg : Gl X "range") (hm : X.mg "range" = none) (ha : DA X W [a, b, c] fl) (hs : starEach [a, b, c] X.env = (false, eval a X.env) :: starEach [b, c] X.env := by rfl) (hpl : (backTo pos (starEach [b, c] X.env)).any (·.1) = false := by rfl) :
    DI X W tg (.Call (.Name "range" p) [a, b, c] [] pos) (fRange3G fl) := by
  obtain ⟨t, pa, ia⟩ := ha
  refine ⟨_, pi_range3 hg hm pa hs hpl, fun B ρ σ H O R' R p => ?_⟩
  unfold fRange3G at p
  rw [rpost_bind] at p
  refine ia B ρ σ H O _ R (p.mono (fun ds ρ1 p vs H1 g r => ?_) fun _ _ _ e => e)
  split at p
  · rename_i i j c
    split at p
    · rename_i hj
      obtain ⟨h0, h1, h2, h3⟩ := hj
      obtain ⟨v, w, u, rfl, r1, r2, r3⟩ := r.three
      cases r1.int_inv
      cases r2.int_inv
      cases r3.int_inv
      exact ⟨i, j, c, _, rfl, ⟨h0, h1, h2, (Int.toNat_of_nonneg h3).symm⟩, p _ H1 g walk_step⟩
    · exact p.elim
  · exact p.elim
end
end DL

set_option Elab.async false
set_option linter.all false
set_option maxRecDepth 100000
set_option autoImplicit false
/-! DLY: isinstance of a caught error that has fields. -/
namespace DL
open PySem PySem.Spec PySem.Calls PySem.W PyProof.Rows
section
variable {prog : Program} {w : World} {A : Around} {E : Value → Shared → Prop} {s : Shared} {K : Frag} {x D : Addr} {ox : Obj} {od : Option Obj}
theorem find_dataX {C : Addr} {nm : Str} {a g : Value} (hc : (clsIn K C).isSome = true) (ha : findIn K (.ref C) nm = some (some a)) (hg : specialIn K a "__get__" = some (some g)) (ht : takesIn K a = some true) : findObj K C od nm = some (.bind g a) := by
  obtain ⟨cd, hc⟩ := Option.isSome_iff_exists.mp hc; unfold findObj; rw [hc, Option.bind_some, ha, Option.bind_some]; simp [hg, ht]
theorem class_excX {Q : Option Value → Shared → Prop} (T : L2.ExcC K D) (X : K.In s.heap) (I : InstAt s.heap x ox D od) (h : Q (some (.ref D)) { s with toks := s.toks + 1 }) : wpAny (model prog w) A (getAttr? (.ref x) "__class__") Q E s := by
  have hf : findObj K D od "__class__" = some (.bind (.builtin "getset_descriptor.__get__") (.builtin "object.__class__")) := find_dataX (by obtain ⟨cd, hc, _⟩ := any_some T.hd; rw [hc]; rfl) T.ha T.hn T.ht
  obtain ⟨hp, g, d, t, os⟩ := s; have L0 := I.type (M := model prog w); have L1 := looks_findIn (M := model prog w) X T.hg; have L2 := looks_findIn (M := model prog w) X T.hk; have L3 := looks_find (M := model prog w) X I hf
  have sub : Looks (model prog w) hp (isInstance (.ref x) (.type "BaseException")) true := L0.andThen (looks_subIn X T.hs)
  have no : (false && onTheHeap (Value.builtin "BaseException.__getattribute__")) = false := rfl
  have ne : (Value.builtin "BaseException.__getattribute__" == Value.builtin "object.__getattribute__") = false := by decide +kernel
  have nx : (onTheHeap (Value.ref D) && Value.builtin "BaseException.__getattribute__" == Value.builtin "object.__getattribute__") = false := by rw [ne]; rfl
  unfold getAttr? getAttrBy? getAttrBy; refine wpAny_bind (wpAny_mkText (wpAny_bind (wpAny_attempt (wpAny_holding (wpAny_bind (L0.at (wpAny_bind (L1.at ?_)))))))); show wpAny _ _ (if (onTheHeap (Value.ref D) && Value.builtin "BaseException.__getattribute__" == Value.builtin "object.__getattribute__") = true then _ else _) _ _ _
  rw [nx, if_neg Bool.false_ne_true]; unfold getAttrByItsOwn hookBefore; refine wpAny_bind ?_; rw [if_pos (show onTheHeap (Value.ref D) = true from rfl)]; refine L2.at ?_; refine wpAny_bind (wpAny_attempt (wpAny_holding ?_))
  unfold callGetattribute; rw [no, if_neg Bool.false_ne_true]; unfold boundAndCalled; rw [PySem.F.excAttr_ValueError.ga.bind (.ref x)]; refine wpAny_bind (wpAny_pure ?_); show wpAny _ _ (call (.builtin "BaseException.__getattribute__") [.ref x, .str "__class__" t]) _ _ _
  refine wpAny_call (codeAny_call_builtin PySem.F.excAttr_ValueError.ga.plain PySem.F.entry_bexc_ga ?_); refine @check_slot (model prog w) _ _ ⟨hp, g, d, t + 1, os⟩ "BaseException.__getattribute__" "BaseException" "__getattribute__" (.ref x) [.str "__class__" t] [] _ (by decide +kernel) (by decide +kernel) sub (PySem.F.args_bexc_ga (.ref x) (.str "__class__" t)) ?_
  unfold Builtin.«object.__getattribute__»; refine wpAny_bind (wpAny_of_eq (a := ((Value.ref x : Value), [Value.str "__class__" t])) (by first | rfl | (simp only [slotArgs]; rfl)) ?_); refine wpAny_bind (wpAny_pure (wpAny_bind (L0.at (wpAny_bind (L3.at ?_)))))
  show wpAny _ _ (holding [Value.builtin "object.__class__"] (call (.builtin "getset_descriptor.__get__") [.builtin "object.__class__", .ref x, .ref D]) >>= ret) _ _ _; refine wpAny_bind (wpAny_holding (wpAny_call (class_get (s := ⟨hp, g, d, t + 1, os⟩) (ox := ox) (od := od) X I T.hm ?_)))
  refine wpAny_pure ?_; show wpAny _ _ (handedOut (.ref D)) _ _ _; rw [handedOut_of (v := .ref D) rfl]
  first | exact wpAny_pure (wpAny_pure h) | exact wpAny_pure h | exact wpAny_pure (wpAny_bind (wpAny_pure (wpAny_pure h)))
theorem kit_excX (T : L2.ExcC K D) : KitX K (.ref x) (.ref D) (fun h => ∃ ox od, InstAt h x ox D od) where
  ty := fun _ _ _ ⟨_, _, I⟩ => I.type
  it := fun _ h X _ => by
    obtain ⟨cd, hc, _⟩ := any_some T.hd; unfold clsIn at hc; split at hc
    · rename_i ho; intro A' Q' E' s' k q; unfold isType loadHead; exact wpAny_bind (wpAny_loadPart (k _ _ (X _ _ ho)) (wpAny_pure q))
    · cases hc
  ne := fun h tp dd its n sl X htp => by
    refine Bool.eq_false_iff.mpr fun q => ?_; have e : D = tp := Value.ref.inj (beq_iff_eq.mp q); subst e
    obtain ⟨cd, hc, _⟩ := any_some T.hd; unfold clsIn at hc; split at hc
    · rename_i ho; have z := (X _ _ ho).symm.trans htp; cases z
    · cases hc
  ca := fun X ⟨_, _, I⟩ k => class_excX T X I k
end
end DL
namespace DL
open PySem PySem.Spec PyProof.Rows L2
/-- isinstance(e, c), e the error that the suite holds -/
def rIsX (K : PySem.W.Frag) (a : Addr) (cls : Value) (d : Option Addr) : List V → Hp → VK → Prop := fun xs H Q => ∃ (D : Addr) (c : V) (cv : Value) (b : Bool) (ad : Addr) (fs : List (Str × V)), xs = [.ref a, c] ∧ cls = .ref D ∧ d = some ad ∧ H ad = some (.xd fs) ∧ ExcC K D ∧ (∀ u, RelV c u → u = cv) ∧ PySem.W.kitOne K (.ref D) cv = some b ∧ Q (.bl b) H
theorem call_isX {X : Cx} {a : Addr} {cls : Value} {d : Option Addr} {oe : Obj} {pn : List (Addr × Obj)} (hz : Zc cls d oe) (hf : ∃ vs, oe.data = .fields vs) : CallR (X.suite a ((a, oe) :: pn)) (.builtin "isinstance") (rIsX X.K a cls d) := by
  intro pins s σ H xs us Q I r h
  obtain ⟨D, c, cv, b, ad, fs, rfl, rfl, rfl, ea, T, hcv, e, q⟩ := h
  cases r with
  | cons rx rr =>
    cases rr with
    | cons rt rr =>
      cases rr
      cases rx
      cases hcv _ rt
      obtain ⟨ha, _⟩ := I.pin (a, oe) (List.mem_append_left _ List.mem_cons_self)
      obtain ⟨vs, hd⟩ := hf
      obtain ⟨mA, hns, hr⟩ := (show ObjOk X.prog X.w H s.heap ad (.xd fs) from I.hok ad _ ea)
      obtain ⟨od, ho, hl⟩ := lookIn_ns hns
      have J : PySem.W.InstAt s.heap a oe D (some od) := ⟨ha, hz.1, by unfold PySem.W.notCls; rw [hd] <;> rfl, by rw [hz.2]; exact ho⟩
      exact PySem.W.kia_one (kit_excX T) I.kIn ⟨oe, some od, J⟩ e (fun z => nomatch z) fun tk => ⟨.bl b, H, I.kept (t' := tk) fun _ _ z => z, rfl, q⟩
def fIsX (i : Nat) (tab : Str → Option Bool) : F := fun ρ => match ρ[i]? with
  | some (some (.exc c fs)) => if fs = [] then .stuck else R.of ((tab c).map .bl) ρ
  | _ => .stuck
theorem de_isX {X : Cx} {a : Addr} {oe : Obj} {cls : Value} {d : Option Addr} {pn : List (Addr × Obj)} {C : Addr} {n x : Str} {tab : Str → Option Bool} {np p p2 pos : Pos} {i : Nat} (hm : X.mg "isinstance" = none) (hmC : X.mg x = some (.ref C)) (hz : Zc cls d oe) (hv : ∃ vs, oe.data = .fields vs)
    (ht : ∀ c b C', tab c = some b → X.mg c = some (.ref C') → ExcC X.K C' ∧ PySem.W.kitOne X.K (.ref C') (.ref C) = some b) (hN : X.N[i]? = some n := by rfl) (hvis : Vis X.env.scope n := by first | exact Or.inl rfl | exact Or.inr (Or.inl rfl) | exact Or.inr (Or.inr rfl)) (hd : (n == ("__debug__" : Str)) = false := by decide) (hcd : (n == ("__classdict__" : Str)) = false := by decide)
    (hg : Gl X "isinstance" := by rfl) (hgC : Gl X x := by rfl) (hdx : (x == ("__debug__" : Str)) = false := by decide) (hs1 : starEach [.Name x p2] X.env = (false, eval (.Name x p2) X.env) :: starEach [] X.env := by rfl) (hs : starEach [.Name n np, .Name x p2] X.env = (false, eval (.Name n np) X.env) :: starEach [.Name x p2] X.env := by rfl)
    (hpl : (backTo pos (starEach [.Name x p2] X.env)).any (·.1) = false := by rfl) : DE (X.suite a ((a, oe) :: pn)) (WS a cls d) (.Call (.Name "isinstance" p) [.Name n np, .Name x p2] [] pos) (fIsX i tab) := by
  refine ⟨_, pe_callB (X := X.suite a ((a, oe) :: pn)) (call_isX hz hv) hg hm (by decide +kernel) (pa_cons (pe_var (i := i) hN hvis hd hcd) (pa_cons (pe_glob (v := .ref C) hgC hmC rfl hdx) pa_nil hs1) hs) (by decide) (by decide) hs hpl, fun B ρ σ H O Q R p => ?_⟩
  unfold fIsX at p
  split at p
  · rename_i c fs h
    split at p
    · exact p.elim
    rename_i hne
    obtain ⟨dd, e, p⟩ := rpost_of p
    cases c0 : tab c with
    | none => rw [c0] at e; cases e
    | some b =>
      rw [c0] at e
      cases e
      obtain ⟨v, h1, e1, ⟨C1, m1, m2⟩, er⟩ := R.slot i _ h
      have ba : B.1.xa = a := B.2.1
      have bd : B.1.xd = d := B.2.2.1
      have bc : B.1.xc = cls := B.2.2.2
      rw [ba] at e1
      rw [bd] at er
      subst e1
      obtain ⟨T, k⟩ := ht c b C1 c0 m1
      rcases er with ⟨_, e⟩ | ⟨ad, xfs, e2, e3, _, _⟩
      · exact absurd e hne
      · exact ⟨.ref a, h1, C1, .ref C, .ref C, b, ad, xfs, rfl, bc.symm.trans m2, e2, e3, T, (fun u z => z), k, p _ H (Go.refl R) (.bl b)⟩
  · exact p.elim
end DL

set_option Elab.async false
set_option linter.all false
set_option maxRecDepth 100000
set_option autoImplicit false
/-! DLZ: an own thing compared with a tuple, by its own __eq__. -/
namespace DL
open PySem PySem.Spec PyProof.Rows L2
section
variable {X : Cx} {C f : Addr} {fd : FuncData} {ps : List Str} {sp : Sp} {k : Nat}
def rIT (K : PySem.W.Frag) (C : Addr) (sp : Sp) : R2 := fun x y H Q => ∃ a dx fs b ys, x = .ref a ∧ y = .ref b ∧ H a = some (.ins C dx fs) ∧ SqT K H b ys ∧ PySem.W.notFirst K C (.type "tuple") = true ∧ sp [x, y] H Q (fun _ _ _ => False)
theorem op_it (F : FnOk X.prog X.w X.K X.mg X.base (L2.CX X.prog X.w) k f fd ps sp) (hs : PySem.W.findIn X.K (.ref C) "__eq__" = some (some (.ref f))) (hf : PySem.W.isFn X.K (.ref f) = true) (hb : Binds X.K fd ps []) (hr : Room k X.A)
    (hx : Passes (L2.CX X.prog X.w) X (fun _ _ _ => False)) : OpR X (compareOp .Eq) (rIT X.K C sp) := fun pins s σ H x y v u Q I rx ry h => by
  obtain ⟨a, dx, fs, b, ys, ex, ey, ha, h2, hn, q⟩ := h
  subst ex ey
  cases (show v = Value.ref a from rx)
  cases (show u = Value.ref b from ry)
  obtain ⟨_, j1, _⟩ := ins_get I.hok ha
  obtain ⟨_, i1, _⟩ := j1.look
  obtain ⟨its, _, ⟨o, ho, hc, _⟩, _⟩ := I.tuple h2
  obtain ⟨_, fr⟩ := I.fr
  have rr : Vals [V.ref a, V.ref b] [Value.ref a, Value.ref b] := .cons rfl (.cons rfl .nil)
  have run := run_g (us := [.ref a, .ref b]) (vs := [.ref a, .ref b]) (dvs := []) (ds := []) F hr hb .nil hx I rr (by rw [List.append_nil]; exact q)
  refine PySem.W.cmp_K (op := .Eq) (tb := .type "tuple") hr.units0 fr I.ok.mod.kin i1 (fun A Q E s' kp q => wpAny_typeOf_ref (kp _ _ ho) (by rw [hc]; exact q)) hn hs hf (wpAny_mono run (fun w s' z => ?_) fun _ _ x => x)
  obtain ⟨z, H', I', rz, qz⟩ := z
  exact SlX.cmpback rz ⟨z, H', I', rz, qz⟩
/-- a == b, a of the class c, b a tuple -/
def eqT (c : Str) (m : Fn) : D → D → Option D := fun a b => match a, b with
  | .ins c1 fs, .tup ds => if c1 = c then (match m [.dat (.ins c1 fs), .dat (.tup ds)] with
    | .ok d _ => some d
    | _ => none) else none
  | _, _ => none
theorem o_eqT {c : Str} {m : Fn} (hm : X.mg c = some (.ref C)) (hn : PySem.W.notFirst X.K C (.type "tuple") = true) (F : FnOk X.prog X.w X.K X.mg X.base (L2.CX X.prog X.w) k f fd ps (spD X.K X.mg 2 m))
    (hs : PySem.W.findIn X.K (.ref C) "__eq__" = some (some (.ref f))) (hf : PySem.W.isFn X.K (.ref f) = true) (hb : Binds X.K fd ps []) (hr : Room k X.A) (hx : Passes (L2.CX X.prog X.w) X (fun _ _ _ => False)) : Op2 X (compareOp .Eq) (eqT c m) := by
  refine ⟨_, op_it F hs hf hb hr hx, fun H O x y a b d Q lv rx ry e q => ?_⟩
  unfold eqT at e
  split at e
  · rename_i c1 fs ds
    split at e
    rotate_left
    · cases e
    rename_i hc
    subst hc
    have r2 := RpL.nil.cons ry |>.cons rx
    cases rx with
    | ins a1 a2 a3 a4 a5 =>
      cases ry with
      | tup b1 b2 b3 =>
        rw [hm] at a3
        cases a3
        refine ⟨_, _, _, _, _, rfl, rfl, a1, b1.sq, hn, call_post (ds := [.ins c1 fs, .tup ds]) lv rfl r2 ?_⟩
        cases z : m (List.map Slot.dat [D.ins c1 fs, D.tup ds]) with
        | ok d' w =>
          have z : m [.dat (.ins c1 fs), .dat (.tup ds)] = .ok d' w := z
          rw [z] at e
          cases e
          exact fun v H' s rv => q v H' s rv
        | okn ds' w =>
          have z : m [.dat (.ins c1 fs), .dat (.tup ds)] = .okn ds' w := z
          rw [z] at e
          cases e
        | err c3 fs3 w =>
          have z : m [.dat (.ins c1 fs), .dat (.tup ds)] = .err c3 fs3 w := z
          rw [z] at e
          cases e
        | stuck =>
          have z : m [.dat (.ins c1 fs), .dat (.tup ds)] = .stuck := z
          rw [z] at e
          cases e
  · cases e
end
end DL

set_option Elab.async false
set_option linter.all false
set_option maxRecDepth 100000
set_option autoImplicit false
/-! DLr: repr of data. -/
namespace DL
open PySem PySem.Spec PyProof.Rows L2
/-- what a text of data asks -/
def fitsR (p : PyData) : Bool := p.showable && !p.hasDict && decide (p.depth ≤ 64) && decide (p.shown.length ≤ sizeLine)
def reprD : List D → Option D
  | [d] => d.py.bind fun p => if fitsR p = true then some (.str p.shown) else none
  | _ => none
section
variable {X : Cx} {k : Nat}
def rRep (K : PySem.W.Frag) : List V → Hp → VK → Prop := fun xs H Q => ∃ v p, xs = [v] ∧ Dp K H v p ∧ fitsR p = true ∧ Q (.str p.shown) H
theorem fitsR_inv {p : PyData} (h : fitsR p = true) : p.showable = true ∧ p.hasDict = false ∧ p.depth ≤ 64 ∧ p.shown.length ≤ sizeLine := by
  unfold fitsR at h
  simpa [and_assoc] using h
theorem call_rep (hg : X.A.guards = some []) (hu : X.A.units + 66 < cLine) : CallR X (.builtin "repr") (rRep X.K) := fun pins s σ H xs us Q I r h => by
  obtain ⟨v, p, ex, dp, hf, q⟩ := h
  subst ex
  obtain ⟨f1, f2, f3, f4⟩ := fitsR_inv hf
  match us, r with
  | [u], .cons rv .nil =>
    obtain ⟨as, rd⟩ := Dp.reads I p v u dp rv
    have fin : ∀ (h' : Heap) (t tk : Tok), (∀ b o, s.heap.get? b = some o → h'.get? b = some o) → EP X pins σ Q (.str p.shown t) { s with heap := h', toks := tk } := fun h' t tk kp => ⟨.str p.shown, H, I.kept kp, ⟨t, rfl⟩, q⟩
    cases rd with
    | none => exact P.repr_of_none (fin s.heap _ _ fun _ _ e => e)
    | bool b => exact P.repr_of_bool (by
        have := fin s.heap s.toks (s.toks + 1) fun _ _ e => e
        cases b <;> exact this)
    | int i t => exact P.repr_of_int (by simpa [PyData.showable] using f1) (fin s.heap _ _ fun _ _ e => e)
    | str x t => exact P.repr_of_str (fin s.heap _ _ fun _ _ e => e) f4
    | list a b c d => exact repr_of_reads' (.list a b c d) f1 (PyData.noDict_hsm f2) hg (by omega) (fun _ _ e => e) fin f4
    | tuple a b c d => exact repr_of_reads' (.tuple a b c d) f1 (PyData.noDict_hsm f2) hg (by omega) (fun _ _ e => e) fin f4
    | dict a b c d e => simp [PyData.hasDict] at f2
theorem c_repr (hg : X.A.guards = some []) (hu : X.A.units + 66 < cLine) : CallV X (.builtin "repr") reprD := by
  refine ⟨_, call_rep hg hu, fun H O xs as d Q lv r e q => ?_⟩
  unfold reprD at e
  split at e
  · rename_i a
    obtain ⟨v, rfl, rv⟩ := r.one
    cases c : a.py with
    | none => rw [c] at e; cases e
    | some p =>
      rw [c] at e
      dsimp only [Option.bind] at e
      split at e
      · rename_i hf
        cases e
        exact ⟨v, p, rfl, dp_of a v p rv c, hf, q _ H (Same.refl H) (.str _)⟩
      · cases e
  · cases e
end
end DL

set_option Elab.async false
set_option linter.all false
set_option maxRecDepth 100000
set_option autoImplicit false
/-! DLn: a comprehension within a comprehension. -/
namespace DL
open PySem PySem.Spec PyProof.Rows L2
theorem lookup_relS_free {sc : Scope} : ∀ {names : List (Str × NameKind)} {x : Str}, names.lookup x = some .free →
    (names.map fun (n, k) => if (k == NameKind.free && sc.kind == .function && sc.names.lookup n == some .cell) then (n, NameKind.cell) else (n, k)).lookup x = some .cell ∨
    (names.map fun (n, k) => if (k == NameKind.free && sc.kind == .function && sc.names.lookup n == some .cell) then (n, NameKind.cell) else (n, k)).lookup x = some .free
  | [], _, h => by simp at h
  | (n, k) :: r, x, h => by
    have ih := @lookup_relS_free sc r x
    show List.lookup x ((if (k == NameKind.free && sc.kind == .function && sc.names.lookup n == some .cell) = true then (n, NameKind.cell) else (n, k)) :: _) = _ ∨ List.lookup x ((if (k == NameKind.free && sc.kind == .function && sc.names.lookup n == some .cell) = true then (n, NameKind.cell) else (n, k)) :: _) = _
    cases hx : x == n with
    | true =>
      simp only [List.lookup_cons, hx] at h
      cases h
      by_cases hc : (NameKind.free == NameKind.free && sc.kind == .function && sc.names.lookup n == some .cell) = true
      · rw [if_pos hc]; simp only [List.lookup_cons, hx]; exact .inl trivial
      · rw [if_neg hc]; simp only [List.lookup_cons, hx]; exact .inr trivial
    | false =>
      simp only [List.lookup_cons, hx] at h
      by_cases hc : (k == NameKind.free && sc.kind == .function && sc.names.lookup n == some .cell) = true
      · rw [if_pos hc]; simp only [List.lookup_cons, hx]; exact ih h
      · rw [if_neg hc]; simp only [List.lookup_cons, hx]; exact ih h
theorem blkOk_in {N : List Str} {scope inner : Scope} {own : List (Str × Nat)} {cl : List (Str × Addr)} {C : Addr} {env : Env} (h : blkC N scope inner own = true) :
    BlkOk N (compEnvC scope cl C env).scope inner own := by
  have b := blkOk_by h
  refine ⟨b.kind, b.uniq, b.ix, fun y hy e => ?_, b.own⟩
  have e1 : (compEnvC scope cl C env).scope = relS scope env.scope := rfl
  rw [e1]
  rcases b.free y hy e with z | z
  · exact .inl (lookup_relS_keep (sc := env.scope) (by decide) z)
  · exact lookup_relS_free (sc := env.scope) z
end DL

set_option Elab.async false
set_option linter.all false
set_option maxRecDepth 100000
set_option autoImplicit false
set_option maxHeartbeats 4000000
/-! DLo: a tuple no times. -/
namespace DL
open PySem PySem.Spec PyProof.Rows L2
theorem tuple_mul0 (l : Addr) (items : Array Value) (n : Nat) (dd : Option Addr) (sl : Array (Option Value)) (u : Tok) (c1 : (items.isEmpty || (0 : Int) == 1) = false) (c2 : (decide ((0 : Int) ≤ 0) || items.isEmpty) = true) :
    Meets (Builtin.«tuple.__mul__» ⟨[.ref l, .int 0 u], []⟩) (fun _ R s => s.heap.get? l = some { cls := .type "tuple", dict := dd, data := .seq items n, slots := sl } ∧
      R (.ok (.ret (Value.ref s.heap.objs.size))) { s with heap := s.heap.push { cls := Value.type "tuple", data := Data.seq #[] }, toks := s.toks }) :=
  .of_wp fun prog w A R s h => by
    obtain ⟨hp, g, d, tk, os⟩ := s
    obtain ⟨hl, h⟩ := h
    have f1 := AutoSeq1.idx_int
    wp_walk using wpAny_loadPart' hl
    repeat (first
      | (refine wpAny_ite_false (decide_eq_false (by rw [c1]; exact Bool.false_ne_true)) ?_; wp_walk using wpAny_loadPart' hl)
      | (refine wpAny_ite_true (decide_eq_true (by rw [c2])) ?_; wp_walk using wpAny_loadPart' hl))
    exact ⟨_, rfl, h⟩
def rRep0 (K : PySem.W.Frag) : R2 := fun x y H Q => ∃ l xs, x = .ref l ∧ y = .int 0 ∧ SqT K H l xs ∧ xs ≠ [] ∧ ∀ p, H p = none → Q (.ref p) (upd H p (.tup []))
section
variable {X : Cx}
theorem op_rep0 : OpR X (binaryOp .Mult) (rRep0 X.K) := by
  intro pins s σ H x y v u Q I rx ry h
  obtain ⟨l, xs, rfl, rfl, hT, hne, q⟩ := h
  cases rx
  obtain ⟨t, rfl⟩ := ry
  obtain ⟨its, r, ⟨⟨cls, dd, data, sl⟩, ho, hc, n, hd⟩, hs⟩ := I.tuple hT
  simp only at hc hd
  subst hc hd
  have hle : its.length = xs.length := r.length.symm
  have hn : its ≠ [] := fun e => hne (by
    rw [e] at hle
    exact List.eq_nil_of_length_eq_zero hle.symm)
  have hi : its.toArray.isEmpty = false := by
    cases its with
    | nil => exact absurd rfl hn
    | cons a b => rfl
  have c1 : (its.toArray.isEmpty || (0 : Int) == 1) = false := by
    rw [hi, Bool.false_or]
    rfl
  have c2 : (decide ((0 : Int) ≤ 0) || its.toArray.isEmpty) = true := by
    rw [hi, Bool.or_false]
    rfl
  refine wpAny_binaryOp_repeat_ref (T := "tuple") (U := "int") (by decide) ⟨_, ho, rfl⟩ (fun s' => typeIs_int s' 0 t) noFill_tuple_mul F.fills_int_mul F.slot_int_rmul repeat_tuple F.slot_int_index.lookup
    (call_meets F.slot_int_rmul (typeIs_int s 0 t) F.entry_int_rmul (F.args_int_rmul_2 _ _) (int_rmul_tuple 0 t l its.toArray n dd sl)
      ⟨ho, rfl, ⟨_, ho, rfl⟩, call_meets F.slot_tuple_mul ⟨_, ho, rfl⟩ F.entry_tuple_mul (F.args_tuple_mul_2 _ _) (tuple_mul0 l its.toArray n dd sl t c1 c2) ⟨ho, ?_⟩⟩)
  refine ⟨.ref s.heap.objs.size, _, I.laid (t' := s.toks) (o := .tup []) (fun b ob q => Heap.get?_push_of_some _ q) (Nat.le_refl _) ?_, rfl, q _ (I.hok.fresh (Nat.le_refl _))⟩
  have r0 := r.rep 0
  exact ⟨by rw [sizeLine_eq]; exact Nat.zero_le _, _, r0, IsTup.new _ _⟩
def mulT0 : D → D → Option D := fun a b => match a, b with
  | .tup xs, .int k => if xs ≠ [] ∧ k = 0 then some (.tup []) else none
  | _, _ => none
theorem o_mulT0 : Op2 X (binaryOp .Mult) mulT0 := by
  refine ⟨_, op_rep0, fun H O x y a b d Q lv rx ry e q => ?_⟩
  cases a with
  | tup xs =>
    cases b with
    | int k =>
      by_cases hl : xs ≠ [] ∧ k = 0
      · have e' : some (D.tup []) = some d := by
          have h : mulT0 (.tup xs) (.int k) = some (.tup []) := if_pos hl
          rw [h] at e
          exact e
        cases e'
        obtain ⟨h1, rfl⟩ := hl
        obtain ⟨p, us, rfl, tp, ru⟩ := rx.tup_inv
        exact ⟨p, us, rfl, ry.int_inv, tp.sq, fun z => h1 ((nil_iff ru).mp z), fun np hn => q _ _ (same_new hn) (new_tup lv hn (ru.rep 0))⟩
      · have h : mulT0 (.tup xs) (.int k) = none := if_neg hl
        rw [h] at e
        cases e
    | _ => cases e
  | _ => cases e
def mulZ := alt2 mulD mulT0
theorem o_mulZ : Op2 X (binaryOp .Mult) mulZ := o_mul.alt o_mulT0
end
end DL

set_option Elab.async false
set_option linter.all false
set_option maxRecDepth 100000
set_option autoImplicit false
/-! DLp: comb, lcm; data and a new list at once. -/
namespace DL
open PySem PySem.Spec PyProof.Rows L2
section
variable {X : Cx}
def rComb : List V → Hp → VK → Prop := fun vs H Q => ∃ a b : Int, vs = [.int a, .int b] ∧ 0 ≤ a ∧ 0 ≤ b ∧ a < 2 ^ 62 ∧ b ≤ 9000 ∧ Q (.int (PySem.W.mcComb a b)) H
theorem cr_comb : CallR X (.builtin "math.comb") rComb := by
  intro pins s σ H vs us Q I r h
  obtain ⟨a, b, rfl, h1, h2, h3, h4, q⟩ := h
  obtain ⟨t, u, rfl⟩ := Vals.int2 r
  exact PySem.W.mc_comb h1 h2 (by omega) (.inl h4) fun _ => ⟨.int _, H, I.tok _, ⟨_, rfl⟩, q⟩
def combD : List D → Option D
  | [.int a, .int b] => if 0 ≤ a ∧ 0 ≤ b ∧ a < 2 ^ 62 ∧ b ≤ 9000 then some (.int (PySem.W.mcComb a b)) else none
  | _ => none
theorem c_comb : CallV X (.builtin "math.comb") combD := by
  refine ⟨_, cr_comb, fun H O xs as d Q lv r e q => ?_⟩
  unfold combD at e
  split at e
  · rename_i a b
    split at e
    · rename_i hc
      cases e
      obtain ⟨v, w, rfl, rv, rw'⟩ := r.two
      cases rv.int_inv
      cases rw'.int_inv
      exact ⟨a, b, rfl, hc.1, hc.2.1, hc.2.2.1, hc.2.2.2, q _ H (Same.refl H) (.int _)⟩
    · cases e
  · cases e
def rLcm : List V → Hp → VK → Prop := fun vs H Q => ∃ a b : Int, vs = [.int a, .int b] ∧ a.natAbs < 2 ^ 64 ∧ b.natAbs < 2 ^ 64 ∧ Q (.int ((a.natAbs.lcm b.natAbs : Nat) : Int)) H
theorem cr_lcm : CallR X (.builtin "math.lcm") rLcm := by
  intro pins s σ H vs us Q I r h
  obtain ⟨a, b, rfl, h1, h2, q⟩ := h
  obtain ⟨t, u, rfl⟩ := Vals.int2 r
  exact PySem.W.mc_lcm h1 h2 fun _ => ⟨.int _, H, I.tok _, ⟨_, rfl⟩, q⟩
def lcmD : List D → Option D
  | [.int a, .int b] => if a.natAbs < 2 ^ 64 ∧ b.natAbs < 2 ^ 64 then some (.int ((a.natAbs.lcm b.natAbs : Nat) : Int)) else none
  | _ => none
theorem c_lcm : CallV X (.builtin "math.lcm") lcmD := by
  refine ⟨_, cr_lcm, fun H O xs as d Q lv r e q => ?_⟩
  unfold lcmD at e
  split at e
  · rename_i a b
    split at e
    · rename_i hc
      cases e
      obtain ⟨v, w, rfl, rv, rw'⟩ := r.two
      cases rv.int_inv
      cases rw'.int_inv
      exact ⟨a, b, rfl, hc.1, hc.2, q _ H (Same.refl H) (.int _)⟩
    · cases e
  · cases e
end
section
variable {X : Cx}
def rSumT (K : PySem.W.Frag) : List V → Hp → VK → Prop := fun vs H Q => ∃ (a : Addr) (ns : List Int), vs = [V.ref a] ∧ SqT K H a (ns.map V.int) ∧ Q (.int ns.sum) H
theorem cr_sumT (hc : X.calm = true) : CallR X (.builtin "sum") (rSumT X.K) := by
  intro pins s σ H vs us Q I r h
  obtain ⟨a, ns, rfl, hs, q⟩ := h
  obtain ⟨its, rv, ht, _⟩ := I.tuple hs
  rw [Vals.ref1 r]
  have hi := rv.ints
  obtain ⟨xs, e⟩ := hi.allInts.items
  have hn : numsOf (intItems xs).toList = ns := by rw [← e]; exact hi.numsOf
  rw [nums_intItems] at hn
  rw [e] at ht
  refine PySem.W.ktm_sumG (I.ok.hd hc) ht fun h' tk t' hk => ?_
  rw [preSum_eq, List.take_of_length_le (by simp), hn]
  exact ⟨.int _, H, I.kept hk, ⟨_, rfl⟩, q⟩
def sumTD : List D → Option D
  | [.tup ds] => (intsOf ds).map fun ns => .int ns.sum
  | _ => none
theorem c_sumT (hc : X.calm = true) : CallV X (.builtin "sum") sumTD := by
  refine ⟨_, cr_sumT hc, fun H O xs as d Q lv r e q => ?_⟩
  unfold sumTD at e
  split at e
  · rename_i ds
    obtain ⟨v, rfl, rv⟩ := r.one
    obtain ⟨p, us, rfl, tp, ru⟩ := rv.tup_inv
    cases c : intsOf ds with
    | none => rw [c] at e; cases e
    | some bs => rw [c] at e; cases e; cases ints_inv ru c; exact ⟨p, bs, rfl, tp.sq, q _ H (Same.refl H) (.int _)⟩
  · cases e
def sumA := alt1 sumD sumTD
theorem c_sumA (hc : X.calm = true) : CallV X (.builtin "sum") sumA := (c_sum hc).alt (c_sumT hc)
end
def gMix (i j : Nat) (f : F) (g : FL) : G := fun ρ => (f ρ).sr fun d ρ1 => (g ρ1).sr fun ys ρ2 => .nx ((ρ2.set i (some (.dat d))).set j (some (.own ys)))
section
variable {X : Cx} {W : Wi} {pos : Pos}
theorem ds_mix {i j : Nat} {x y : Str} {a b : Expr} {f : F} {g : FL} {px py pt : Pos} {kt k2 : Nat} {pt2 : Pos} (hc : X.calm = true) (hN : X.N.Nodup) (ha : DE X W a f) (hb : DN X W b g) (hi : X.N[i]? = some x := by rfl) (hj : X.N[j]? = some y := by rfl) (hij : i ≠ j := by decide)
    (hx : X.env.scope.names.lookup x = some .local := by rfl) (hy : X.env.scope.names.lookup y = some .local := by rfl)
    (hw : swappedStores [.Tuple [.Name x px, .Name y py] kt pt] (.Tuple [a, b] k2 pt2) X.env = pure (some [x, y]) := by rfl)
    (hs : swapsWithSole [.Tuple [.Name x px, .Name y py] kt pt] (.Tuple [a, b] k2 pt2) pos.line X.env = pure false := by rfl)
    (h1 : starEach [a, b] X.env = (false, eval a X.env) :: starEach [b] X.env := by rfl) (h2 : starEach [b] X.env = (false, eval b X.env) :: starEach [] X.env := by rfl) :
    DS X W (.Assign [.Tuple [.Name x px, .Name y py] kt pt] (.Tuple [a, b] k2 pt2) pos) (gMix i j f g) := by
  obtain ⟨ta, pa, ia⟩ := ha
  obtain ⟨tb, pb, ib⟩ := hb
  refine ⟨_, ps_par hc hN hi hj hij hx hy (pa_cons pa (pa_cons pb pa_nil h2) h1) hw hs, fun B ρ σ H O D R p => ?_⟩
  refine ia B ρ σ H O _ R ((spost_sr R p).mono (fun d ρ1 p v H1 g1 r1 => ?_) fun _ _ _ e => e)
  have p := p H1 g1
  refine ib B ρ1 σ H1 O _ g1.rep ((spost_sr g1.rep p).mono (fun ys ρ2 p ws z H2 g2 hz r2 => ?_) fun _ _ _ e => e)
  have p := p H2 g2
  have r1' := r1.kp (g2.kp g1.rep)
  have Rc := (g2.rep.setD i r1').setOwn (i := j) hz r2
  exact ⟨v, .ref z, rfl, p _ (upd H2 z (.lst ws)) (O.add z) (kp_add hz) Rc⟩
end
end DL

set_option Elab.async false
set_option linter.all false
set_option maxRecDepth 100000
/-! PV: how the tellers are reckoned: rows for simp, first argument first. -/
namespace DL
open PySem PySem.Spec PyProof.Rows L2

section
variable {α β : Type} {ρ ρ1 : En} {a : α} {c : Str} {fs : List (Str × D)}
@[simp] theorem bind_ok {k : α → En → R β} : (R.ok a ρ).bind k = k a ρ := (rfl)
@[simp] theorem bind_err {k : α → En → R β} : (R.err c fs ρ : R α).bind k = .err c fs ρ := (rfl)
@[simp] theorem bindN_ok {k : α → En → R β} : (R.ok a ρ).bindN k = k a ρ := (rfl)
@[simp] theorem of_some : R.of (some a) ρ = .ok a ρ := (rfl)
@[simp] theorem sr_ok {k : α → En → SR} : (R.ok a ρ).sr k = k a ρ := (rfl)
@[simp] theorem sr_err {k : α → En → SR} : (R.err c fs ρ : R α).sr k = .err c fs ρ := (rfl)
class Kt (α β : Type) where
  run : α → En → β
class Kl (β : Type) where
  run : List D → β
class Th (β : Type) where
  run : β
class Ke (β : Type) where
  run : En → β
def bnd {α β : Type} (r : R α) [k : Kt α (R β)] : R β := r.bind k.run
def srk {α : Type} (r : R α) [k : Kt α SR] : SR := r.sr k.run
@[simp] theorem bnd_ok {k : Kt α (R β)} : bnd (R.ok a ρ) (k := k) = k.run a ρ := (rfl)
@[simp] theorem bnd_err {k : Kt α (R β)} : bnd (.err c fs ρ : R α) (k := k) = .err c fs ρ := (rfl)
@[simp] theorem srk_ok {k : Kt α SR} : srk (R.ok a ρ) (k := k) = k.run a ρ := (rfl)
@[simp] theorem srk_err {k : Kt α SR} : srk (.err c fs ρ : R α) (k := k) = .err c fs ρ := (rfl)
/-! what matches become -/
def rdS (o : Option (Option Slot)) (ρ : En) : R D := match o with
  | some (some (.dat d)) => .ok d ρ
  | _ => .stuck
@[simp] theorem rdS_dat {d : D} : rdS (some (some (.dat d))) ρ = .ok d ρ := (rfl)
def kB (o : Option D) (ρ : En) : R Bool := match o with
  | some (.bl k) => .ok k ρ
  | _ => .stuck
@[simp] theorem kB_bl {k : Bool} : kB (some (.bl k)) ρ = .ok k ρ := (rfl)
def dB (d : D) (ρ : En) : R Bool := match d with
  | .bl k => .ok k ρ
  | _ => .stuck
@[simp] theorem dB_bl {k : Bool} : dB (.bl k) ρ = .ok k ρ := (rfl)
def k3 (o : Option D) [x : Th (R D)] (ρ : En) : R D := match o with
  | some (.bl true) => x.run
  | some (.bl false) => .ok (.bl false) ρ
  | _ => .stuck
@[simp] theorem k3_bl {k : Bool} {x : Th (R D)} : k3 (some (.bl k)) (x := x) ρ = if k = true then x.run else .ok (.bl false) ρ := by cases k <;> rfl
def kA (d : D) [x : Th (R D)] (ρ : En) : R D := match d with
  | .bl true => x.run
  | .bl false => .ok (.bl false) ρ
  | _ => .stuck
@[simp] theorem kA_bl {k : Bool} {x : Th (R D)} : kA (.bl k) (x := x) ρ = if k = true then x.run else .ok (.bl false) ρ := by cases k <;> rfl
def kO (d : D) [x : Th (R D)] (ρ : En) : R D := match d with
  | .bl true => .ok (.bl true) ρ
  | .bl false => x.run
  | _ => .stuck
@[simp] theorem kO_bl {k : Bool} {x : Th (R D)} : kO (.bl k) (x := x) ρ = if k = true then .ok (.bl true) ρ else x.run := by cases k <;> rfl
def callR (r : FR) (ρ : En) : R D := match r with
  | .ok d _ => .ok d ρ
  | .okn ds _ => .ok (.lst ds) ρ
  | .err c fs _ => .err c fs ρ
  | .stuck => .stuck
@[simp] theorem callR_ok {d : D} {m} : callR (.ok d m) ρ = .ok d ρ := (rfl)
@[simp] theorem callR_okn {d : List D} {m} : callR (.okn d m) ρ = .ok (.lst d) ρ := (rfl)
@[simp] theorem callR_err {m} : callR (.err c fs m) ρ = .err c fs ρ := (rfl)
def callN (r : FR) (ρ : En) : R (List D) := match r with
  | .okn ds _ => .ok ds ρ
  | .err c fs _ => .err c fs ρ
  | _ => .stuck
@[simp] theorem callN_okn {d : List D} {m} : callN (.okn d m) ρ = .ok d ρ := (rfl)
@[simp] theorem callN_err {m} : callN (.err c fs m) ρ = .err c fs ρ := (rfl)
def put2 (ρ : En) (i : Nat) (ds : List D) (d : D) : R D := match slotPut ρ i ds with
  | some ρ2 => .ok d ρ2
  | none => .stuck
def callM (r : FR) (i : Nat) (ρ : En) : R D := match r with
  | .ok d (some (.lst ys)) => (match slotPut ρ i ys with
    | some ρ2 => .ok d ρ2
    | none => .stuck)
  | .okn ds2 (some (.lst ys)) => (match slotPut ρ i ys with
    | some ρ2 => .ok (.lst ds2) ρ2
    | none => .stuck)
  | .err c fs (some (.lst ys)) => (match slotPut ρ i ys with
    | some ρ2 => .err c fs ρ2
    | none => .stuck)
  | _ => .stuck
@[simp] theorem callM_ok {d : D} {i : Nat} {ys : List D} : callM (.ok d (some (.lst ys))) i ρ = put2 ρ i ys d := (rfl)
@[simp] theorem callM_okn {d : List D} {i : Nat} {ys : List D} : callM (.okn d (some (.lst ys))) i ρ = put2 ρ i ys (.lst d) := (rfl)
def listO0 (o : Option (Option Slot)) (k : List D → R D) : R D := match o with
  | some (some s) => (match s.list with
    | some ds => k ds
    | none => .stuck)
  | _ => .stuck
def listO (o : Option (Option Slot)) [k : Kl (R D)] : R D := listO0 o k.run
@[simp] theorem listO_own {ds : List D} {k : Kl (R D)} : listO (some (some (.own ds))) (k := k) = k.run ds := (rfl)
@[simp] theorem listO_par {n : Nat} {ds : List D} {k : Kl (R D)} : listO (some (some (.par n (.lst ds)))) (k := k) = k.run ds := (rfl)
end
section
variable {ρ : En} {i j : Nat}
@[simp] theorem e_var : fVar i ρ = rdS ρ[i]? ρ := (rfl)
@[simp] theorem e_C {d : D} : fC d ρ = .ok d ρ := (rfl)
@[simp] theorem e_f1 {g : D → Option D} {fa : F} : f1 g fa ρ = bnd (fa ρ) (k := ⟨fun a ρ1 => R.of (g a) ρ1⟩) := (rfl)
@[simp] theorem e_f2 {g : D → D → Option D} {fa fb : F} : f2 g fa fb ρ = bnd (fa ρ) (k := ⟨fun a ρ1 => bnd (fb ρ1) (k := ⟨fun b ρ2 => R.of (g a b) ρ2⟩)⟩) := (rfl)
@[simp] theorem e_t2 {g : D → D → Option D} {fa fb : F} : t2 g fa fb ρ = bnd (fa ρ) (k := ⟨fun a ρ1 => bnd (fb ρ1) (k := ⟨fun b ρ2 => kB (g a b) ρ2⟩)⟩) := (rfl)
@[simp] theorem e_f3 {g g' : D → D → Option D} {fa fb fc : F} : f3 g g' fa fb fc ρ = bnd (fa ρ) (k := ⟨fun a ρ1 => bnd (fb ρ1) (k := ⟨fun b ρ2 => k3 (g a b) (x := ⟨bnd (fc ρ2) (k := ⟨fun c ρ3 => R.of (g' b c) ρ3⟩)⟩) ρ2⟩)⟩) := (rfl)
@[simp] theorem e_asB {f : F} : asB f ρ = (f ρ).bind dB := (rfl)
@[simp] theorem e_Tru {f : F} : fTru f ρ = bnd (f ρ) (k := ⟨fun a ρ1 => R.of a.truth ρ1⟩) := (rfl)
@[simp] theorem e_And {a b : FB} : fAnd a b ρ = bnd (a ρ) (k := ⟨fun k ρ1 => if k = true then b ρ1 else .ok false ρ1⟩) := (rfl)
@[simp] theorem e_Or {a b : FB} : fOr a b ρ = bnd (a ρ) (k := ⟨fun k ρ1 => if k = true then .ok true ρ1 else b ρ1⟩) := (rfl)
@[simp] theorem e_Not {a : FB} : fNot a ρ = bnd (a ρ) (k := ⟨fun k ρ1 => .ok (!k) ρ1⟩) := (rfl)
theorem rawe_vNotT {f : F} : vNotT f ρ = (f ρ).bind fun d ρ1 => (R.of d.truth ρ1).bind fun k ρ2 => .ok (.bl (!k)) ρ2 := by
  unfold vNotT
  congr 1
  funext d ρ1
  cases d.truth <;> rfl
@[simp] theorem e_vNotT {f : F} : vNotT f ρ = bnd (f ρ) (k := ⟨fun d ρ1 => bnd (R.of d.truth ρ1) (k := ⟨fun k ρ2 => .ok (.bl (!k)) ρ2⟩)⟩) := rawe_vNotT
@[simp] theorem e_vAnd {a b : F} : vAnd a b ρ = bnd (a ρ) (k := ⟨fun k ρ1 => kA k (x := ⟨b ρ1⟩) ρ1⟩) := (rfl)
@[simp] theorem e_vOr {a b : F} : vOr a b ρ = bnd (a ρ) (k := ⟨fun k ρ1 => kO k (x := ⟨b ρ1⟩) ρ1⟩) := (rfl)
@[simp] theorem e_If {c : FB} {a b : F} : fIf c a b ρ = bnd (c ρ) (k := ⟨fun k ρ1 => if k = true then a ρ1 else b ρ1⟩) := (rfl)
@[simp] theorem e_Nil : fNil ρ = .ok [] ρ := (rfl)
@[simp] theorem e_Cons {a : F} {b : FL} : fCons a b ρ = bnd (a ρ) (k := ⟨fun x ρ1 => bnd (b ρ1) (k := ⟨fun xs ρ2 => .ok (x :: xs) ρ2⟩)⟩) := (rfl)
def szI {α : Type} (xs : List D) (x : R α) : R α := if xs.length ≤ sizeLine then x else .stuck
theorem szI_le {α : Type} {xs : List D} {x : R α} (h : xs.length ≤ 1000000) : szI xs x = x := if_pos (Nat.le_trans h (by rw [sizeLine_eq]; decide))
@[simp] theorem szI_nil {α : Type} {x : R α} : szI [] x = x := szI_le (by decide)
@[simp] theorem szI_1 {α : Type} {a : D} {x : R α} : szI [a] x = x := szI_le (by simp)
@[simp] theorem szI_2 {α : Type} {a b : D} {x : R α} : szI [a, b] x = x := szI_le (by simp)
@[simp] theorem szI_3 {α : Type} {a b c : D} {x : R α} : szI [a, b, c] x = x := szI_le (by simp)
@[simp] theorem szI_4 {α : Type} {a b c d : D} {x : R α} : szI [a, b, c, d] x = x := szI_le (by simp)
@[simp] theorem szI_5 {α : Type} {a b c d e : D} {x : R α} : szI [a, b, c, d, e] x = x := szI_le (by simp)
@[simp] theorem szI_6 {α : Type} {a b c d e f : D} {x : R α} : szI [a, b, c, d, e, f] x = x := szI_le (by simp)
@[simp] theorem szI_7 {α : Type} {a b c d e f g : D} {x : R α} : szI [a, b, c, d, e, f, g] x = x := szI_le (by simp)
@[simp] theorem e_Tup {a : FL} : fTup a ρ = bnd (a ρ) (k := ⟨fun xs ρ1 => szI xs (.ok (.tup xs) ρ1)⟩) := (rfl)
@[simp] theorem e_Lst {a : FL} : fLst a ρ = bnd (a ρ) (k := ⟨fun xs ρ1 => szI xs (.ok (.lst xs) ρ1)⟩) := (rfl)
@[simp] theorem e_Disp {a : FL} : fDisp a ρ = bnd (a ρ) (k := ⟨fun xs ρ1 => szI xs (.ok xs ρ1)⟩) := (rfl)
@[simp] theorem e_B {g : List D → Option D} {a : FL} : fB g a ρ = bnd (a ρ) (k := ⟨fun xs ρ1 => R.of (g xs) ρ1⟩) := (rfl)
@[simp] theorem e_OfL {f : FL} : fOfL f ρ = bnd (f ρ) (k := ⟨fun ds ρ1 => .ok (.lst ds) ρ1⟩) := (rfl)
@[simp] theorem e_ListOf {f : F} : fListOf f ρ = bnd (f ρ) (k := ⟨fun d ρ1 => R.of (seqOf d) ρ1⟩) := (rfl)
@[simp] theorem e_It {f : F} : fIt f ρ = bnd (f ρ) (k := ⟨fun d ρ1 => R.of (items d) ρ1⟩) := (rfl)
@[simp] theorem e_Yes : fYes ρ = .ok true ρ := (rfl)
def isK (o : Option String) (T : String) (ρ : En) : R D := match o with
  | some t => (match kitB t T with
    | some b => .ok (.bl b) ρ
    | none => .stuck)
  | none => .stuck
def isK2 (o : Option String) (T T' : String) (ρ : En) : R D := match o with
  | some t => (match kitB t T, kitB t T' with
    | some b, some b' => .ok (.bl (b || b')) ρ
    | _, _ => .stuck)
  | none => .stuck
@[simp] theorem e_isi {T : String} {f : F} : fIsi T f ρ = bnd (f ρ) (k := ⟨fun d ρ1 => isK d.ty T ρ1⟩) := (rfl)
@[simp] theorem e_isi2 {T T' : String} {f : F} : fIsi2 T T' f ρ = bnd (f ρ) (k := ⟨fun d ρ1 => isK2 d.ty T T' ρ1⟩) := (rfl)
@[simp] theorem kit_NoneType_bool : kitB "NoneType" "bool" = some false := by decide +kernel
@[simp] theorem kit_NoneType_int : kitB "NoneType" "int" = some false := by decide +kernel
@[simp] theorem kit_NoneType_str : kitB "NoneType" "str" = some false := by decide +kernel
@[simp] theorem kit_NoneType_list : kitB "NoneType" "list" = some false := by decide +kernel
@[simp] theorem kit_NoneType_tuple : kitB "NoneType" "tuple" = some false := by decide +kernel
@[simp] theorem kit_NoneType_dict : kitB "NoneType" "dict" = some false := by decide +kernel
@[simp] theorem kit_bool_bool : kitB "bool" "bool" = some true := by decide +kernel
@[simp] theorem kit_bool_int : kitB "bool" "int" = some true := by decide +kernel
@[simp] theorem kit_bool_str : kitB "bool" "str" = some false := by decide +kernel
@[simp] theorem kit_bool_list : kitB "bool" "list" = some false := by decide +kernel
@[simp] theorem kit_bool_tuple : kitB "bool" "tuple" = some false := by decide +kernel
@[simp] theorem kit_bool_dict : kitB "bool" "dict" = some false := by decide +kernel
@[simp] theorem kit_int_bool : kitB "int" "bool" = some false := by decide +kernel
@[simp] theorem kit_int_int : kitB "int" "int" = some true := by decide +kernel
@[simp] theorem kit_int_str : kitB "int" "str" = some false := by decide +kernel
@[simp] theorem kit_int_list : kitB "int" "list" = some false := by decide +kernel
@[simp] theorem kit_int_tuple : kitB "int" "tuple" = some false := by decide +kernel
@[simp] theorem kit_int_dict : kitB "int" "dict" = some false := by decide +kernel
@[simp] theorem kit_str_bool : kitB "str" "bool" = some false := by decide +kernel
@[simp] theorem kit_str_int : kitB "str" "int" = some false := by decide +kernel
@[simp] theorem kit_str_str : kitB "str" "str" = some true := by decide +kernel
@[simp] theorem kit_str_list : kitB "str" "list" = some false := by decide +kernel
@[simp] theorem kit_str_tuple : kitB "str" "tuple" = some false := by decide +kernel
@[simp] theorem kit_str_dict : kitB "str" "dict" = some false := by decide +kernel
@[simp] theorem kit_list_bool : kitB "list" "bool" = some false := by decide +kernel
@[simp] theorem kit_list_int : kitB "list" "int" = some false := by decide +kernel
@[simp] theorem kit_list_str : kitB "list" "str" = some false := by decide +kernel
@[simp] theorem kit_list_list : kitB "list" "list" = some true := by decide +kernel
@[simp] theorem kit_list_tuple : kitB "list" "tuple" = some false := by decide +kernel
@[simp] theorem kit_list_dict : kitB "list" "dict" = some false := by decide +kernel
@[simp] theorem kit_tuple_bool : kitB "tuple" "bool" = some false := by decide +kernel
@[simp] theorem kit_tuple_int : kitB "tuple" "int" = some false := by decide +kernel
@[simp] theorem kit_tuple_str : kitB "tuple" "str" = some false := by decide +kernel
@[simp] theorem kit_tuple_list : kitB "tuple" "list" = some false := by decide +kernel
@[simp] theorem kit_tuple_tuple : kitB "tuple" "tuple" = some true := by decide +kernel
@[simp] theorem kit_tuple_dict : kitB "tuple" "dict" = some false := by decide +kernel
def isB (o : Option Bool) (ρ : En) : R D := match o with
  | some b => .ok (.bl b) ρ
  | none => .stuck
@[simp] theorem isB_some {b : Bool} : isB (some b) ρ = .ok (.bl b) ρ := (rfl)
@[simp] theorem isK_some {t T : String} : isK (some t) T ρ = isB (kitB t T) ρ := by
  show (match kitB t T with
    | some b => R.ok (.bl b) ρ
    | none => .stuck) = isB (kitB t T) ρ
  cases kitB t T <;> rfl
def isBB (o o' : Option Bool) (ρ : En) : R D := match o, o' with
  | some b, some b' => .ok (.bl (b || b')) ρ
  | _, _ => .stuck
@[simp] theorem isBB_some {b b' : Bool} : isBB (some b) (some b') ρ = .ok (.bl (b || b')) ρ := (rfl)
@[simp] theorem isK2_some {t T T' : String} : isK2 (some t) T T' ρ = isBB (kitB t T) (kitB t T') ρ := by
  show (match kitB t T, kitB t T' with
    | some b, some b' => R.ok (.bl (b || b')) ρ
    | _, _ => .stuck) = isBB (kitB t T) (kitB t T') ρ
  cases kitB t T <;> cases kitB t T' <;> rfl
@[simp] theorem kit_dict_bool : kitB "dict" "bool" = some false := by decide +kernel
@[simp] theorem kit_dict_int : kitB "dict" "int" = some false := by decide +kernel
@[simp] theorem kit_dict_str : kitB "dict" "str" = some false := by decide +kernel
@[simp] theorem kit_dict_list : kitB "dict" "list" = some false := by decide +kernel
@[simp] theorem kit_dict_tuple : kitB "dict" "tuple" = some false := by decide +kernel
@[simp] theorem kit_dict_dict : kitB "dict" "dict" = some true := by decide +kernel
@[simp] theorem ty_emp : D.ty .emp = some "dict" := (rfl)
@[simp] theorem ty_non : D.ty .non = some "NoneType" := (rfl)
@[simp] theorem ty_bl {b : Bool} : D.ty (.bl b) = some "bool" := (rfl)
@[simp] theorem ty_int {b : Int} : D.ty (.int b) = some "int" := (rfl)
@[simp] theorem ty_str {b : Str} : D.ty (.str b) = some "str" := (rfl)
@[simp] theorem ty_lst {b : List D} : D.ty (.lst b) = some "list" := (rfl)
@[simp] theorem ty_slst {b : List D} : D.ty (.slst b) = some "list" := (rfl)
@[simp] theorem ty_tup {b : List D} : D.ty (.tup b) = some "tuple" := (rfl)
@[simp] theorem e_call {n : Nat} {m : Fn} {dv : List D} {f : FL} : fCall n m dv f ρ = bnd (f ρ) (k := ⟨fun ds ρ1 => if (ds ++ dv).length = n then callR (m ((ds ++ dv).map .dat)) ρ1 else .stuck⟩) := (rfl)
@[simp] theorem e_callN {n : Nat} {m : Fn} {dv : List D} {f : FL} : fCallN n m dv f ρ = bnd (f ρ) (k := ⟨fun ds ρ1 => if (ds ++ dv).length = n then callN (m ((ds ++ dv).map .dat)) ρ1 else .stuck⟩) := (rfl)
theorem rawe_callM {n : Nat} {m : Fn} {f : FL} : fCallM n m i f ρ = listO0 ρ[i]? fun _ => (f ρ).bind fun ds ρ1 => listO0 ρ1[i]? fun xs => if ds.length + 1 = n then callM (m (.par 0 (.lst xs) :: ds.map .dat)) i ρ1 else .stuck := by
  unfold fCallM slotList listO0
  rcases ρ[i]? with _ | _ | s
  · rfl
  · rfl
  · dsimp only
    cases s.list with
    | none => rfl
    | some xs =>
      dsimp only
      congr 1
      funext ds ρ1
      rcases ρ1[i]? with _ | _ | s
      · rfl
      · rfl
      · dsimp only
        cases s.list <;> rfl
@[simp] theorem e_callM {n : Nat} {m : Fn} {f : FL} : fCallM n m i f ρ = listO ρ[i]? (k := ⟨fun _ => bnd (f ρ) (k := ⟨fun ds ρ1 => listO ρ1[i]? (k := ⟨fun xs => if ds.length + 1 = n then callM (m (.par 0 (.lst xs) :: ds.map .dat)) i ρ1 else .stuck⟩)⟩)⟩) := rawe_callM
def ixK (k : D) (ds : List D) (ρ : En) : R D := match k with
  | .int j => R.of (atI ds j) ρ
  | _ => .stuck
@[simp] theorem ixK_int {k : Int} {ds : List D} : ixK (.int k) ds ρ = R.of (atI ds k) ρ := (rfl)
theorem rawe_ixO {fk : F} : fIxO i fk ρ = listO0 ρ[i]? fun _ => (fk ρ).bind fun k ρ1 => listO0 ρ1[i]? fun ds => ixK k ds ρ1 := by
  unfold fIxO slotList listO0
  rcases ρ[i]? with _ | _ | s
  · rfl
  · rfl
  · dsimp only
    cases s.list with
    | none => rfl
    | some xs =>
      dsimp only
      congr 1
      funext k ρ1
      rcases ρ1[i]? with _ | _ | s
      · cases k <;> rfl
      · cases k <;> rfl
      · dsimp only
        cases s.list <;> cases k <;> rfl
@[simp] theorem e_ixO {fk : F} : fIxO i fk ρ = listO ρ[i]? (k := ⟨fun _ => bnd (fk ρ) (k := ⟨fun k ρ1 => listO ρ1[i]? (k := ⟨fun ds => ixK k ds ρ1⟩)⟩)⟩) := rawe_ixO
theorem rawe_lenO : fLenO i ρ = listO0 ρ[i]? fun ds => .ok (.int ds.length) ρ := by
  unfold fLenO slotList listO0
  rcases ρ[i]? with _ | _ | s
  · rfl
  · rfl
  · dsimp only
    all_goals (cases s.list <;> rfl)
@[simp] theorem e_lenO : fLenO i ρ = listO ρ[i]? (k := ⟨fun ds => .ok (.int ds.length) ρ⟩) := rawe_lenO
def putO (o : Option (Option Slot)) (ρ : En) (i : Nat) (ds : List D) : Option En := match o with
  | some (some s) => (s.put ds).map fun s' => ρ.set i (some s')
  | _ => none
@[simp] theorem e_slotPut {ds : List D} : slotPut ρ i ds = putO ρ[i]? ρ i ds := (rfl)
@[simp] theorem put_own {ds es : List D} : putO (some (some (.own es))) ρ i ds = some (ρ.set i (some (.own ds))) := (rfl)
@[simp] theorem put_par {k : Nat} {ds es : List D} : putO (some (some (.par k (.lst es)))) ρ i ds = some (ρ.set i (some (.par k (.lst ds)))) := (rfl)
def okO {α : Type} (o : Option En) (a : α) : R α := match o with
  | some ρ2 => .ok a ρ2
  | none => .stuck
@[simp] theorem okO_some {α : Type} {a : α} : okO (some ρ) a = .ok a ρ := (rfl)
@[simp] theorem e_put2 {ds : List D} {d : D} : put2 ρ i ds d = okO (slotPut ρ i ds) d := (rfl)
def frzO (o : Option (Option Slot)) (i : Nat) (ρ : En) : En := match o with
  | some (some (.own ds)) => ρ.set i (some (.dat (.lst ds)))
  | _ => ρ
@[simp] theorem e_frz : frz i ρ = frzO ρ[i]? i ρ := (rfl)
@[simp] theorem frz_own {ds : List D} : frzO (some (some (.own ds))) i ρ = ρ.set i (some (.dat (.lst ds))) := (rfl)
@[simp] theorem frz_dat {d : D} : frzO (some (some (.dat d))) i ρ = ρ := (rfl)
def xfO (o : Option (Option Slot)) (c0 f : Str) (ρ : En) : R D := match o with
  | some (some (.exc c fs)) => if c = c0 then R.of (fs.lookup f) ρ else .stuck
  | _ => .stuck
@[simp] theorem e_xf {c0 f : Str} : fXf i c0 f ρ = xfO ρ[i]? c0 f ρ := by
  unfold fXf xfO
  rcases ρ[i]? with _ | _ | s
  · rfl
  · rfl
  · cases s with
    | exc c fs =>
      dsimp only
      by_cases h : c = c0
      · rw [if_pos h, if_pos h]
        cases fs.lookup f <;> rfl
      · rw [if_neg h, if_neg h]
    | _ => rfl
@[simp] theorem xfO_exc {c0 f : Str} {fs : List (Str × D)} : xfO (some (some (.exc c0 fs))) c0 f ρ = R.of (fs.lookup f) ρ := if_pos rfl
/-! statements -/
def SR.seq (r : SR) (h : G) : SR := match r with
  | .nx ρ1 => h ρ1
  | r => r
variable {g h : G} {f : F} {fl : FL} {d : D} {c : Str} {fs : List (Str × D)}
@[simp] theorem sq_nx : (SR.nx ρ).seq h = h ρ := (rfl)
@[simp] theorem sq_rt : (SR.rt d ρ).seq h = .rt d ρ := (rfl)
@[simp] theorem sq_rtn {ds : List D} : (SR.rtn ds ρ).seq h = .rtn ds ρ := (rfl)
@[simp] theorem sq_bk : (SR.bk ρ).seq h = .bk ρ := (rfl)
@[simp] theorem sq_ct : (SR.ct ρ).seq h = .ct ρ := (rfl)
@[simp] theorem sq_err : (SR.err c fs ρ).seq h = .err c fs ρ := (rfl)
@[simp] theorem s_Nx : gNx ρ = .nx ρ := (rfl)
@[simp] theorem s_Brk : gBrk ρ = .bk ρ := (rfl)
@[simp] theorem s_Cont : gCont ρ = .ct ρ := (rfl)
@[simp] theorem s_RetN : gRetN ρ = .rt .non ρ := (rfl)
@[simp] theorem s_Ret : gRet f ρ = srk (f ρ) (k := ⟨fun d ρ1 => .rt d ρ1⟩) := (rfl)
@[simp] theorem s_Retn : gRetn fl ρ = srk (fl ρ) (k := ⟨fun d ρ1 => .rtn d ρ1⟩) := (rfl)
@[simp] theorem s_Drop : gDrop f ρ = srk (f ρ) (k := ⟨fun _ ρ1 => .nx ρ1⟩) := (rfl)
@[simp] theorem s_If {c : FB} : gIf c g h ρ = srk (c ρ) (k := ⟨fun k ρ1 => if k = true then g ρ1 else h ρ1⟩) := (rfl)
@[simp] theorem s_Set : gSet i f ρ = srk (f ρ) (k := ⟨fun d ρ1 => .nx (ρ1.set i (some (.dat d)))⟩) := (rfl)
@[simp] theorem s_Own : gOwn i fl ρ = srk (fl ρ) (k := ⟨fun ds ρ1 => .nx (ρ1.set i (some (.own ds)))⟩) := (rfl)
@[simp] theorem s_Frz : gFrz i g ρ = g (frz i ρ) := (rfl)
@[simp] theorem s_Seq : gSeq g h ρ = (g ρ).seq h := (rfl)
def nxO (o : Option En) : SR := match o with
  | some ρ2 => .nx ρ2
  | none => .stuck
@[simp] theorem nxO_some : nxO (some ρ) = .nx ρ := (rfl)
def listS0 (o : Option (Option Slot)) (k : List D → SR) : SR := match o with
  | some (some s) => (match s.list with
    | some ds => k ds
    | none => .stuck)
  | _ => .stuck
def listS (o : Option (Option Slot)) [k : Kl SR] : SR := listS0 o k.run
@[simp] theorem listS_own {ds : List D} {k : Kl SR} : listS (some (some (.own ds))) (k := k) = k.run ds := (rfl)
@[simp] theorem listS_par {n : Nat} {ds : List D} {k : Kl SR} : listS (some (some (.par n (.lst ds)))) (k := k) = k.run ds := (rfl)
def szS (xs : List D) (x : SR) : SR := if xs.length < sizeLine then x else .stuck
theorem szS_lt {xs : List D} {x : SR} (h : xs.length < 1000000) : szS xs x = x := if_pos (Nat.lt_of_lt_of_le h (by rw [sizeLine_eq]; decide))
theorem raws_App : gApp i f ρ = listS0 ρ[i]? fun _ => (f ρ).sr fun d ρ1 => listS0 ρ1[i]? fun ds => szS ds (nxO (slotPut ρ1 i (ds ++ [d]))) := by
  unfold gApp slotList listS0
  rcases ρ[i]? with _ | _ | s
  · rfl
  · rfl
  · dsimp only
    cases s.list with
    | none => rfl
    | some xs =>
      dsimp only
      congr 1
      funext d ρ1
      rcases ρ1[i]? with _ | _ | s
      · rfl
      · rfl
      · dsimp only
        cases s.list <;> rfl
@[simp] theorem s_App {f : F} : gApp i f ρ = listS ρ[i]? (k := ⟨fun _ => srk (f ρ) (k := ⟨fun d ρ1 => listS ρ1[i]? (k := ⟨fun ds => szS ds (nxO (slotPut ρ1 i (ds ++ [d])))⟩)⟩)⟩) := raws_App
def setK (k : D) (ds : List D) (d : D) (ρ : En) (i : Nat) : SR := match k with
  | .int j => (match ixN ds.length j with
    | some n => nxO (slotPut ρ i (ds.set n d))
    | none => .stuck)
  | _ => .stuck
def setN (o : Option Nat) (ds : List D) (d : D) (ρ : En) (i : Nat) : SR := match o with
  | some n => nxO (slotPut ρ i (ds.set n d))
  | none => .stuck
@[simp] theorem setK_int {k : Int} {ds : List D} : setK (.int k) ds d ρ i = setN (ixN ds.length k) ds d ρ i := (rfl)
@[simp] theorem setN_some {n : Nat} {ds : List D} : setN (some n) ds d ρ i = nxO (slotPut ρ i (ds.set n d)) := (rfl)
theorem raws_SetIx {fk : F} : gSetIx i fk f ρ = ((f ρ).sr fun d ρ1 => listS0 ρ1[i]? fun _ => (fk ρ1).sr fun k ρ2 => listS0 ρ2[i]? fun ds => setK k ds d ρ2 i) := by
  unfold gSetIx slotList listS0
  congr 1
  funext d ρ1
  rcases ρ1[i]? with _ | _ | s
  · rfl
  · rfl
  · dsimp only
    cases s.list with
    | none => rfl
    | some xs =>
      dsimp only
      congr 1
      funext k ρ2
      rcases ρ2[i]? with _ | _ | s
      · cases k <;> rfl
      · cases k <;> rfl
      · dsimp only
        cases s.list with
        | none => cases k <;> rfl
        | some xs => cases k <;> rfl
@[simp] theorem s_SetIx {fk : F} : gSetIx i fk f ρ = srk (f ρ) (k := ⟨fun d ρ1 => listS ρ1[i]? (k := ⟨fun _ => srk (fk ρ1) (k := ⟨fun k ρ2 => listS ρ2[i]? (k := ⟨fun ds => setK k ds d ρ2 i⟩)⟩)⟩)⟩) := raws_SetIx
def par2 (ds : List D) (i j : Nat) (ρ : En) : SR := match ds with
  | [a, b] => .nx ((ρ.set i (some (.dat a))).set j (some (.dat b)))
  | _ => .stuck
@[simp] theorem par2_at {a b : D} : par2 [a, b] i j ρ = .nx ((ρ.set i (some (.dat a))).set j (some (.dat b))) := (rfl)
@[simp] theorem s_Par : gPar i j fl ρ = srk (fl ρ) (k := ⟨fun ds ρ1 => par2 ds i j ρ1⟩) := (rfl)
def par3 (ds : List D) (i j l : Nat) (ρ : En) : SR := match ds with
  | [a, b, c] => .nx (((ρ.set i (some (.dat a))).set j (some (.dat b))).set l (some (.dat c)))
  | _ => .stuck
@[simp] theorem par3_at {l : Nat} {a b c : D} : par3 [a, b, c] i j l ρ = .nx (((ρ.set i (some (.dat a))).set j (some (.dat b))).set l (some (.dat c))) := (rfl)
@[simp] theorem s_Par3 {l : Nat} : gPar3 i j l fl ρ = srk (fl ρ) (k := ⟨fun ds ρ1 => par3 ds i j l ρ1⟩) := (rfl)
theorem raws_Asg {t : D → En → Option En} : gAsg t f ρ = (f ρ).sr fun d ρ1 => nxO (t d ρ1) := by
  unfold gAsg
  congr 1
@[simp] theorem s_Asg {t : D → En → Option En} : gAsg t f ρ = srk (f ρ) (k := ⟨fun d ρ1 => nxO (t d ρ1)⟩) := raws_Asg
@[simp] theorem s_Raise {c : Str} {fs : List Str} : gRaise c fs fl ρ = srk (fl ρ) (k := ⟨fun ds ρ1 => if ds.length = fs.length then .err c (fs.zip ds) ρ1 else .stuck⟩) := (rfl)
theorem s_For {t : D → En → Option En} : gFor fl t g ρ = (fl ρ).sr fun ds ρ1 => forL t g ds ρ1 := (rfl)
def SR.loop (r : SR) (k : G) : SR := match r with
  | .nx ρ2 => k ρ2
  | .ct ρ2 => k ρ2
  | .bk ρ2 => .nx ρ2
  | .rt d ρ2 => .rt d ρ2
  | .rtn ds ρ2 => .rtn ds ρ2
  | .err c fs ρ2 => .err c fs ρ2
  | .stuck => .stuck
@[simp] theorem lo_nx : (SR.nx ρ).loop h = h ρ := (rfl)
@[simp] theorem lo_ct : (SR.ct ρ).loop h = h ρ := (rfl)
@[simp] theorem lo_bk : (SR.bk ρ).loop h = .nx ρ := (rfl)
@[simp] theorem lo_rt : (SR.rt d ρ).loop h = .rt d ρ := (rfl)
@[simp] theorem lo_rtn {ds : List D} : (SR.rtn ds ρ).loop h = .rtn ds ρ := (rfl)
@[simp] theorem lo_err : (SR.err c fs ρ).loop h = .err c fs ρ := (rfl)
theorem forL_nil {t : D → En → Option En} : forL t g [] ρ = .nx ρ := (rfl)
theorem forL_cons {t : D → En → Option En} {ds : List D} {ρ1 : En} (e : t d ρ = some ρ1) : forL t g (d :: ds) ρ = (g ρ1).loop (forL t g ds) := by
  rw [forL]
  rw [e]
  rfl
@[simp] theorem tg_name : tgName i d ρ = some (ρ.set i (some (.dat d))) := (rfl)
@[simp] theorem tg_nil : tgNil [] ρ = some ρ := (rfl)
@[simp] theorem tg_cons {f : D → En → Option En} {r : List D → En → Option En} {ds : List D} : tgCons f r (d :: ds) ρ = (f d ρ).bind (r ds) := (rfl)
@[simp] theorem tg_tup {n : Nat} {f : List D → En → Option En} {ds : List D} : tgTup n f (.tup ds) ρ = if ds.length = n then f ds ρ else none := (rfl)
/-! try -/
def outX (r : SR) (i : Nat) : SR := match r with
  | .nx ρ2 => if noExc (ρ2.set i none) = true then .nx (ρ2.set i none) else .stuck
  | .rt d ρ2 => if noExc (ρ2.set i none) = true then .rt d (ρ2.set i none) else .stuck
  | .rtn ds ρ2 => if noExc (ρ2.set i none) = true then .rtn ds (ρ2.set i none) else .stuck
  | .bk ρ2 => if noExc (ρ2.set i none) = true then .bk (ρ2.set i none) else .stuck
  | .ct ρ2 => if noExc (ρ2.set i none) = true then .ct (ρ2.set i none) else .stuck
  | _ => .stuck
@[simp] theorem outX_nx : outX (.nx ρ) i = if noExc (ρ.set i none) = true then .nx (ρ.set i none) else .stuck := (rfl)
@[simp] theorem outX_rt : outX (.rt d ρ) i = if noExc (ρ.set i none) = true then .rt d (ρ.set i none) else .stuck := (rfl)
@[simp] theorem outX_ct : outX (.ct ρ) i = if noExc (ρ.set i none) = true then .ct (ρ.set i none) else .stuck := (rfl)
@[simp] theorem e_suiteAs : suiteAs i g c fs ρ = if noExc ρ = true then outX (g (ρ.set i (some (.exc c fs)))) i else .stuck := (rfl)
@[simp] theorem noExc_nil : noExc [] = true := (rfl)
@[simp] theorem noExc_none {l : En} : noExc (none :: l) = noExc l := (rfl)
@[simp] theorem noExc_dat {l : En} : noExc (some (.dat d) :: l) = noExc l := (rfl)
@[simp] theorem noExc_own {l : En} {ds : List D} : noExc (some (.own ds) :: l) = noExc l := (rfl)
@[simp] theorem noExc_par {l : En} {k : Nat} {ct : Cont} : noExc (some (.par k ct) :: l) = noExc l := (rfl)
def catK (o : Option Bool) [x : Th SR] (y : SR) : SR := match o with
  | some true => x.run
  | some false => y
  | none => .stuck
@[simp] theorem catK_t {x : Th SR} {y : SR} : catK (some true) (x := x) y = x.run := (rfl)
@[simp] theorem catK_f {x : Th SR} {y : SR} : catK (some false) (x := x) y = y := (rfl)
def SR.tryAs (r : SR) (cat : Str → Option Bool) (i : Nat) (g : G) : SR := match r with
  | .err c fs ρ1 => catK (cat c) (x := ⟨suiteAs i g c fs ρ1⟩) (.err c fs ρ1)
  | r => r
@[simp] theorem s_Try {cat : Str → Option Bool} : gTryAs h cat i g ρ = (h ρ).tryAs cat i g := by
  unfold gTryAs SR.tryAs
  cases h ρ with
  | err c fs ρ1 => dsimp only; cases cat c with
    | none => rfl
    | some b => cases b <;> rfl
  | _ => rfl
@[simp] theorem try_nx {cat : Str → Option Bool} : (SR.nx ρ).tryAs cat i g = .nx ρ := (rfl)
@[simp] theorem try_rt {cat : Str → Option Bool} : (SR.rt d ρ).tryAs cat i g = .rt d ρ := (rfl)
@[simp] theorem try_err {cat : Str → Option Bool} : (SR.err c fs ρ).tryAs cat i g = catK (cat c) (x := ⟨suiteAs i g c fs ρ⟩) (.err c fs ρ) := (rfl)
@[simp] theorem lk_hit {k : Str} {v : D} {l : List (Str × D)} : List.lookup k ((k, v) :: l) = some v := by
  rw [List.lookup_cons_self]
theorem lk_miss {k k' : Str} {v : D} {l : List (Str × D)} (h : (k == k') = false) : List.lookup k ((k', v) :: l) = List.lookup k l := by
  rw [List.lookup_cons, h]
/-! a def -/
def outM (b : Bool) (ρ : En) (k : Option Cont → FR) : FR := if b = true then (match fin ρ with
  | some c => k (some c)
  | none => .stuck) else k none
def outS (b : Bool) (r : SR) : FR := match r with
  | .nx ρ => outM b ρ (.ok .non)
  | .rt d ρ => outM b ρ (.ok d)
  | .rtn ds ρ => outM b ρ (.okn ds)
  | .err c fs ρ => outM b ρ (.err c fs)
  | _ => .stuck
theorem mk_out {nl : Nat} {ss : List Slot} : mkFn g nl ss = outS (isPar ss) (g (ss.map some ++ List.replicate nl none)) := by
  unfold mkFn outS outM
  generalize g (ss.map some ++ List.replicate nl none) = r
  generalize isPar ss = b
  cases r <;> first | rfl | (cases b <;> first | rfl | (rename_i ρ; dsimp only; rw [if_pos rfl, if_pos rfl]; cases fin ρ <;> rfl))
@[simp] theorem out_nx {b : Bool} : outS b (.nx ρ) = outM b ρ (.ok .non) := (rfl)
@[simp] theorem out_rt {b : Bool} : outS b (.rt d ρ) = outM b ρ (.ok d) := (rfl)
@[simp] theorem out_rtn {b : Bool} {ds : List D} : outS b (.rtn ds ρ) = outM b ρ (.okn ds) := (rfl)
@[simp] theorem out_err {b : Bool} : outS b (.err c fs ρ) = outM b ρ (.err c fs) := (rfl)
@[simp] theorem outM_f {k : Option Cont → FR} : outM false ρ k = k none := (rfl)
@[simp] theorem outM_t {k : Option Cont → FR} {n : Cont} {ss : En} : outM true (some (.par 0 n) :: ss) k = k (some n) := (rfl)
@[simp] theorem isPar_d {ss : List Slot} : isPar (.dat d :: ss) = false := (rfl)
@[simp] theorem isPar_nil : isPar [] = false := (rfl)
@[simp] theorem isPar_p {ct : Cont} {ss : List Slot} : isPar (.par 0 ct :: ss) = true := (rfl)
end
/-! numbers -/
theorem sm_bits {i : Int} {n : Nat} (h : i.natAbs < 2 ^ n) : Builtin.Int.intBits i ≤ n := by
  unfold Builtin.Int.intBits
  split
  · omega
  · rename_i h0
    have : i.natAbs ≠ 0 := fun z => h0 (by simp; omega)
    have := (Nat.log2_lt this).mpr h
    omega
theorem mulD_int {i j : Int} (h : Builtin.Int.intBits i ≤ 60000000) (h2 : Builtin.Int.intBits j ≤ 60000000) : mulD (.int i) (.int j) = some (.int (i * j)) := by
  have e : mulI (.int i) (.int j) = some (.int (i * j)) := by
    show (if mulC i j = true then some (D.int (i * j)) else none) = _
    unfold mulC
    rw [decide_eq_true h, decide_eq_true h2]
    rfl
  unfold mulD alt2
  simp only [e]
theorem mulD_sm {i j : Int} (h : i.natAbs < 2 ^ 80) (h2 : j.natAbs < 2 ^ 80) : mulD (.int i) (.int j) = some (.int (i * j)) := by
  have a := sm_bits h
  have b := sm_bits h2
  exact mulD_int (by omega) (by omega)
/-- small: room for one more product -/
def Sm (i : Int) : Prop := i.natAbs < 2 ^ 80
theorem sm_of {i : Int} (h : i.natAbs < 2 ^ 80) : Sm i := h
@[simp] theorem sm_lit {n : Nat} : Sm (no_index (OfNat.ofNat n)) ↔ n < 1208925819614629174706176 := by
  unfold Sm
  show Int.natAbs (n : Int) < _ ↔ _
  rw [Int.natAbs_natCast]
@[simp] theorem sm_one : Sm 1 := by unfold Sm; decide
@[simp] theorem sm_zero : Sm 0 := by unfold Sm; decide
@[simp] theorem sm_neg {i : Int} : Sm (-i) ↔ Sm i := by
  unfold Sm
  rw [Int.natAbs_neg]
theorem sm_mod {i j : Int} (h : 0 < j) (h2 : Sm j) : Sm (i % j) := by
  unfold Sm at *
  have := Int.emod_nonneg i (by omega : j ≠ 0)
  have := Int.emod_lt_of_pos i h
  omega
theorem mulD_s {i j : Int} (h : Sm i) (h2 : Sm j) : mulD (.int i) (.int j) = some (.int (i * j)) := mulD_sm h h2
theorem fdvI_s {i j : Int} (h : 0 < j) (h2 : Sm j) : fdvI (.int i) (.int j) = some (.int (i / j)) := by
  show (if (decide (0 < j) && decide (j.natAbs.log2 < 9000)) = true then some (D.int (i / j)) else none) = _
  have : j.natAbs.log2 < 80 := (Nat.log2_lt (by omega)).mpr h2
  rw [decide_eq_true h, decide_eq_true (by omega : j.natAbs.log2 < 9000)]
  rfl
@[simp] theorem addD_int {i j : Int} : addD (.int i) (.int j) = some (.int (i + j)) := (rfl)
theorem addD_tup {xs ys : List D} (h : xs.length + ys.length ≤ 1000000) : addD (.tup xs) (.tup ys) = some (.tup (xs ++ ys)) := by
  have e1 : addI (.tup xs) (.tup ys) = none := (rfl)
  have e2 : addT (.tup xs) (.tup ys) = some (.tup (xs ++ ys)) := if_pos (Nat.le_trans h (by rw [sizeLine_eq]; decide))
  unfold addD alt2
  simp only [e1, e2]
@[simp] theorem subI_int {i j : Int} : subI (.int i) (.int j) = some (.int (i - j)) := (rfl)
@[simp] theorem negI_int {i : Int} : negI (.int i) = some (.int (-i)) := (rfl)
theorem modI_int {i j : Int} (h : 0 < j) : modI (.int i) (.int j) = some (.int (i % j)) := by
  show (if decide (0 < j) = true then some (D.int (i % j)) else none) = _
  rw [decide_eq_true h]
  rfl
theorem fdvI_int {i j : Int} (h : 0 < j) (h2 : j < 2 ^ 80) : fdvI (.int i) (.int j) = some (.int (i / j)) := by
  show (if (decide (0 < j) && decide (j.natAbs.log2 < 9000)) = true then some (D.int (i / j)) else none) = _
  have : j.natAbs.log2 < 80 := (Nat.log2_lt (by omega)).mpr (by omega)
  rw [decide_eq_true h, decide_eq_true (by omega : j.natAbs.log2 < 9000)]
  rfl
theorem shrI_int {i j : Int} (h : 0 ≤ j) : shrI (.int i) (.int j) = some (.int (i / 2 ^ j.toNat)) := by
  show (if decide (0 ≤ j) = true then some (D.int (i / 2 ^ j.toNat)) else none) = _
  rw [decide_eq_true h]
  rfl
theorem shlI_one {j : Int} (h : 0 ≤ j) (h2 : j ≤ 1000) : shlI (.int 1) (.int j) = some (.int (2 ^ j.toNat)) := by
  show (if shlC 1 j = true then some (D.int (1 * 2 ^ j.toNat)) else none) = _
  have : shlC 1 j = true := by
    unfold shlC
    rw [decide_eq_true h, decide_eq_true (by omega : j.toNat ≤ 60000000)]
    decide
  rw [this, if_pos rfl, Int.one_mul]
@[simp] theorem ltI_int {i j : Int} : ltI (.int i) (.int j) = some (.bl (decide (i < j))) := (rfl)
@[simp] theorem leI_int {i j : Int} : leI (.int i) (.int j) = some (.bl (decide (i ≤ j))) := (rfl)
@[simp] theorem gtI_int {i j : Int} : gtI (.int i) (.int j) = some (.bl (decide (j < i))) := (rfl)
@[simp] theorem geI_int {i j : Int} : geI (.int i) (.int j) = some (.bl (decide (j ≤ i))) := (rfl)
@[simp] theorem int1D_int {i : Int} : int1D [.int i] = some (.int i) := (rfl)
@[simp] theorem tupleD_l {xs : List D} : tupleD [.lst xs] = some (.tup xs) := (rfl)
@[simp] theorem tupleD_s {xs : List D} : tupleD [.slst xs] = some (.tup xs) := (rfl)
@[simp] theorem tupleD_t {xs : List D} : tupleD [.tup xs] = some (.tup xs) := (rfl)
@[simp] theorem lenD_l {xs : List D} : lenD [.lst xs] = some (.int xs.length) := (rfl)
@[simp] theorem lenD_s {xs : List D} : lenD [.slst xs] = some (.int xs.length) := (rfl)
@[simp] theorem lenD_t {xs : List D} : lenD [.tup xs] = some (.int xs.length) := (rfl)
@[simp] theorem isN_non : isN .non .non = some (.bl true) := (rfl)
@[simp] theorem isN_int {i : Int} : isN (.int i) .non = some (.bl false) := (rfl)
@[simp] theorem seqOf_l {xs : List D} : seqOf (.lst xs) = some xs := (rfl)
@[simp] theorem seqOf_s {xs : List D} : seqOf (.slst xs) = some xs := (rfl)
@[simp] theorem seqOf_t {xs : List D} : seqOf (.tup xs) = some xs := (rfl)
@[simp] theorem items_l {xs : List D} : items (.lst xs) = some xs := (rfl)
@[simp] theorem items_s {xs : List D} : items (.slst xs) = some xs := (rfl)
@[simp] theorem items_t {xs : List D} : items (.tup xs) = some xs := (rfl)
@[simp] theorem tru_bl {b : Bool} : D.truth (.bl b) = some b := (rfl)
@[simp] theorem tru_int {i : Int} : D.truth (.int i) = some (i != 0) := (rfl)
@[simp] theorem tru_l {xs : List D} : D.truth (.lst xs) = some (!xs.isEmpty) := (rfl)
@[simp] theorem tru_t {xs : List D} : D.truth (.tup xs) = some (!xs.isEmpty) := (rfl)
@[simp] theorem tru_n : D.truth .non = some false := (rfl)
/-! places -/
theorem ixN_nat {n i : Nat} (h : i < n) : ixN n (i : Int) = some i := by
  unfold ixN
  rw [if_pos (by omega), if_pos (by omega)]
  simp
theorem ixN_int {n : Nat} {i : Int} (h0 : 0 ≤ i) (h : i < n) : ixN n i = some i.toNat := by
  unfold ixN
  rw [if_pos h0, if_pos h]
theorem atI_int {α : Type} {xs : List α} {i : Int} (h0 : 0 ≤ i) (h : i < xs.length) : atI xs i = xs[i.toNat]? := by
  unfold atI
  rw [ixN_int h0 h]
  rfl
theorem atI_nat {α : Type} {xs : List α} {i : Nat} (h : i < xs.length) : atI xs (i : Int) = xs[i]? := by
  unfold atI
  rw [ixN_nat h]
  rfl
theorem ixD_seq {xs : List D} {i : Int} {d x : D} (h : seqOf d = some xs) (e : atI xs i = some x) : ixD d (.int i) = some x := by
  have : ixSeq d (.int i) = some x := by
    unfold ixSeq
    rw [h]
    exact e
  unfold ixD alt2
  rw [this]
/-! plain data and == -/
theorem py_ints (xs : List Int) : pyAll (xs.map D.int) = some (xs.map PyData.int) := by
  induction xs with
  | nil => rfl
  | cons x xs ih =>
    show (match D.py (.int x), pyAll (xs.map D.int) with | some p, some ps => some (p :: ps) | _, _ => none) = _
    rw [ih]
    rfl
theorem lay_ints (xs : List Int) : PyData.canLayAll0 (xs.map PyData.int) = true := by
  induction xs with
  | nil => rfl
  | cons x xs ih =>
    simp only [List.map_cons, PyData.canLayAll0, PyData.canLay0, ih, Bool.and_self]
theorem dep_ints (xs : List Int) : PyData.depthAll (xs.map PyData.int) = 0 := by
  induction xs with
  | nil => simp [PyData.depthAll]
  | cons x xs ih =>
    simp [PyData.depthAll, PyData.depth, ih]
theorem eqv_ints (xs ys : List Int) : PyData.eqvAll (xs.map PyData.int) (ys.map PyData.int) = decide (xs = ys) := by
  induction xs generalizing ys with
  | nil => cases ys <;> simp [PyData.eqvAll]
  | cons x xs ih =>
    cases ys with
    | nil => simp [PyData.eqvAll]
    | cons y ys =>
      simp [PyData.eqvAll, PyData.eqv, ih]
      by_cases e : x = y <;> simp [e]
theorem sh_int (i : Int) : SeqAt.shaped (.int i) = true := by
  unfold SeqAt.shaped
  simp [PyData.canLay0, PyData.depth]
theorem sh_ints (xs : List Int) : SeqAt.shaped (.tuple (xs.map PyData.int)) = true := by
  unfold SeqAt.shaped
  simp [PyData.canLay0, PyData.depth, lay_ints, dep_ints]
theorem sh_intl (xs : List Int) : SeqAt.shaped (.list (xs.map PyData.int)) = true := by
  unfold SeqAt.shaped
  simp [PyData.canLay0, PyData.depth, lay_ints, dep_ints]
@[simp] theorem eqv_int {i j : Int} : eqvD (.int i) (.int j) = some (decide (i = j)) := by
  unfold eqvD
  show (if (SeqAt.shaped (.int i) && SeqAt.shaped (.int j)) = true then some (PyData.eqv (.int i) (.int j)) else none) = _
  rw [sh_int, sh_int, Bool.and_self, if_pos rfl]
  simp only [PyData.eqv]
  by_cases e : i = j <;> simp [e]
/-- a tuple, a list of whole numbers -/
def ti (xs : List Int) : D := .tup (xs.map .int)
def tl (xs : List Int) : D := .lst (xs.map .int)
theorem ti_py (xs : List Int) : (ti xs).py = some (.tuple (xs.map .int)) := by
  show (pyAll (xs.map D.int)).map PyData.tuple = _
  rw [py_ints]
  rfl
theorem tl_py (xs : List Int) : (tl xs).py = some (.list (xs.map .int)) := by
  show (pyAll (xs.map D.int)).map PyData.list = _
  rw [py_ints]
  rfl
@[simp] theorem eqv_ti {xs ys : List Int} : eqvD (ti xs) (ti ys) = some (decide (xs = ys)) := by
  unfold eqvD
  rw [ti_py, ti_py]
  dsimp only
  rw [sh_ints, sh_ints, Bool.and_self, if_pos rfl]
  simp only [PyData.eqv]
  rw [eqv_ints]
@[simp] theorem eqv_til {xs ys : List Int} : eqvD (ti xs) (tl ys) = some false := by
  unfold eqvD
  rw [ti_py, tl_py]
  dsimp only
  rw [sh_ints, sh_intl, Bool.and_self, if_pos rfl]
  simp only [PyData.eqv]
@[simp] theorem eqD_eq {a b : D} : eqD a b = (eqvD a b).map .bl := (rfl)
@[simp] theorem neD_eq {a b : D} : neD a b = (eqvD a b).map fun k => .bl (!k) := (rfl)
/-! places told by figures -/
@[simp] theorem atI_lit {α : Type} {xs : List α} {n : Nat} : atI xs (no_index (OfNat.ofNat n) : Int) = xs[n]? := by
  show atI xs ((n : Nat) : Int) = _
  by_cases h : n < xs.length
  · exact atI_nat h
  · unfold atI ixN
    rw [if_pos (by omega), if_neg (by omega)]
    rw [List.getElem?_eq_none (by omega)]
    rfl
@[simp] theorem atI_0 {α : Type} {xs : List α} : atI xs 0 = xs[0]? := by
  by_cases h : 0 < xs.length
  · exact atI_nat h
  · unfold atI ixN
    rw [if_pos (by omega), if_neg (by omega)]
    rw [List.getElem?_eq_none (by omega)]
    rfl
@[simp] theorem atI_1 {α : Type} {xs : List α} : atI xs 1 = xs[1]? := by
  by_cases h : 1 < xs.length
  · exact atI_nat h
  · unfold atI ixN
    rw [if_pos (by omega), if_neg (by omega)]
    rw [List.getElem?_eq_none (by omega)]
    rfl
@[simp] theorem ixN_lit {m n : Nat} : ixN m (no_index (OfNat.ofNat n) : Int) = if n < m then some n else none := by
  show ixN m (n : Int) = _
  by_cases h : n < m
  · rw [ixN_nat h, if_pos h]
  · unfold ixN
    rw [if_pos (by omega), if_neg (by omega), if_neg h]
@[simp] theorem ixN_0 {m : Nat} : ixN m 0 = if 0 < m then some 0 else none := by
  by_cases h : 0 < m
  · rw [show (0 : Int) = ((0 : Nat) : Int) from rfl, ixN_nat h, if_pos h]
  · unfold ixN
    rw [if_pos (by omega), if_neg (by omega), if_neg h]
@[simp] theorem ixN_1 {m : Nat} : ixN m 1 = if 1 < m then some 1 else none := by
  by_cases h : 1 < m
  · rw [show (1 : Int) = ((1 : Nat) : Int) from rfl, ixN_nat h, if_pos h]
  · unfold ixN
    rw [if_pos (by omega), if_neg (by omega), if_neg h]
theorem ixD_l {xs : List D} {i : Int} : ixD (.lst xs) (.int i) = atI xs i := by
  have e1 : ixSeq (.lst xs) (.int i) = atI xs i := (rfl)
  unfold ixD alt2
  rw [e1]
  cases atI xs i <;> rfl
theorem ixD_t {xs : List D} {i : Int} : ixD (.tup xs) (.int i) = atI xs i := by
  have e1 : ixSeq (.tup xs) (.int i) = atI xs i := (rfl)
  unfold ixD alt2
  rw [e1]
  cases atI xs i <;> rfl
theorem ixD_s {xs : List D} {i : Int} : ixD (.slst xs) (.int i) = atI xs i := by
  have e1 : ixSeq (.slst xs) (.int i) = atI xs i := (rfl)
  unfold ixD alt2
  rw [e1]
  cases atI xs i <;> rfl
end DL

set_option Elab.async false
set_option linter.all false
set_option maxRecDepth 100000
/-! PL: loops and comprehensions of the tellers. -/
namespace DL
open PySem PySem.Spec PyProof.Rows L2

theorem for_inv {t : D → En → Option En} {g : G} (I : List D → En → Prop) (hs : ∀ d ds ρ, I (d :: ds) ρ → ∃ ρ1 ρ2, t d ρ = some ρ1 ∧ (g ρ1 = .nx ρ2 ∨ g ρ1 = .ct ρ2) ∧ I ds ρ2) :
    ∀ (ds : List D) (ρ : En), I ds ρ → ∃ ρ', forL t g ds ρ = .nx ρ' ∧ I [] ρ' := by
  intro ds
  induction ds with
  | nil => exact fun ρ h => ⟨ρ, rfl, h⟩
  | cons d ds ih =>
    intro ρ h
    obtain ⟨ρ1, ρ2, e1, e2, h2⟩ := hs d ds ρ h
    obtain ⟨ρ', e3, h3⟩ := ih ρ2 h2
    refine ⟨ρ', ?_, h3⟩
    rw [forL_cons e1]
    rcases e2 with e2 | e2 <;> rw [e2] <;> exact e3
/-- .. that may leave early -/
theorem for_exit {t : D → En → Option En} {g : G} (I : List D → En → Prop) (E : SR → Prop) (hs : ∀ d ds ρ, I (d :: ds) ρ → ∃ ρ1, t d ρ = some ρ1 ∧ ((∃ ρ2, (g ρ1 = .nx ρ2 ∨ g ρ1 = .ct ρ2) ∧ I ds ρ2) ∨ (∃ v ρ2, g ρ1 = .rt v ρ2 ∧ E (.rt v ρ2)) ∨ (∃ c fs ρ2, g ρ1 = .err c fs ρ2 ∧ E (.err c fs ρ2)) ∨ (∃ ρ2, g ρ1 = .bk ρ2 ∧ E (.nx ρ2)))) (hn : ∀ ρ, I [] ρ → E (.nx ρ)) :
    ∀ (ds : List D) (ρ : En), I ds ρ → ∃ r, forL t g ds ρ = r ∧ E r := by
  intro ds
  induction ds with
  | nil => exact fun ρ h => ⟨_, rfl, hn ρ h⟩
  | cons d ds ih =>
    intro ρ h
    obtain ⟨ρ1, e1, h2⟩ := hs d ds ρ h
    rw [forL_cons e1]
    rcases h2 with ⟨ρ2, e2, h2⟩ | ⟨v, ρ2, e2, h2⟩ | ⟨c, fs, ρ2, e2, h2⟩ | ⟨ρ2, e2, h2⟩
    · obtain ⟨r, e3, h3⟩ := ih ρ2 h2
      refine ⟨r, ?_, h3⟩
      rcases e2 with e2 | e2 <;> rw [e2] <;> exact e3
    · rw [e2]; exact ⟨_, rfl, h2⟩
    · rw [e2]; exact ⟨_, rfl, h2⟩
    · rw [e2]; exact ⟨_, rfl, h2⟩
theorem backE_id {vs : List Nat} {ρ ρb : En} (h : ∀ j, j < ρ.length → j ∉ vs → ρb[j]? = ρ[j]?) : backE vs ρ ρb = ρ := by
  unfold backE
  apply List.ext_getElem?
  intro j
  rw [List.getElem?_map]
  by_cases hj : j < ρ.length
  · rw [List.getElem?_range hj]
    show some (if j ∈ vs then (ρ[j]?).getD none else (ρb[j]?).getD none) = _
    have e : (ρ[j]?).getD none = ρ[j] := by rw [List.getElem?_eq_getElem hj]; rfl
    rw [List.getElem?_eq_getElem hj]
    split
    · rfl
    · rename_i hm
      rw [h j hj hm, List.getElem?_eq_getElem hj]
      rfl
  · rw [List.getElem?_eq_none (by simpa using hj), List.getElem?_eq_none (by omega)]
    rfl
theorem lcL_map {α : Type} {vs : List Nat} {t : D → En → Option En} {tt : FB} {te : F} {ρ0 : En} (emb : α → D) (p : α → Bool) (f : α → D) :
    ∀ (xs : List α) (acc : List D), acc.length + xs.length ≤ 1000000 → (∀ x ∈ xs, ∃ ρ2, t (emb x) ρ0 = some ρ2 ∧ tt ρ2 = .ok (p x) ρ2 ∧ (p x = true → te ρ2 = .ok (f x) ρ2) ∧ wipeE ρ2 vs = ρ0) →
    lcL vs t tt te (xs.map emb) acc ρ0 = .ok (acc ++ (xs.filter p).map f) ρ0 := by
  intro xs
  induction xs with
  | nil => intro acc _ _; simp [lcL]
  | cons x xs ih =>
    intro acc hl h
    obtain ⟨ρ2, e1, e2, e3, e4⟩ := h x (List.mem_cons_self)
    simp only [List.length_cons] at hl
    rw [List.map_cons, lcL, e1]
    dsimp only
    rw [e2, bindN_ok]
    have hh : ∀ y ∈ xs, ∃ ρ2, t (emb y) ρ0 = some ρ2 ∧ tt ρ2 = .ok (p y) ρ2 ∧ (p y = true → te ρ2 = .ok (f y) ρ2) ∧ wipeE ρ2 vs = ρ0 := fun y hy => h y (List.mem_cons_of_mem _ hy)
    cases hp : p x with
    | true =>
      rw [if_pos rfl, e3 hp, bindN_ok, if_pos (Nat.lt_of_lt_of_le (by omega : acc.length < 1000000) (by rw [sizeLine_eq]; decide)), e4, ih _ (by rw [List.length_append]; simp only [List.length_cons, List.length_nil]; omega) hh]
      rw [List.filter_cons, if_pos hp, List.map_cons, List.append_assoc]
      rfl
    | false =>
      rw [if_neg Bool.false_ne_true, e4, ih _ (by omega) hh, List.filter_cons, if_neg (by rw [hp]; exact Bool.false_ne_true)]
theorem lc_map {α : Type} {it : FL} {vs : List Nat} {t : D → En → Option En} {tt : FB} {te : F} {ρ ρ1 : En} (emb : α → D) (p : α → Bool) (f : α → D) (xs : List α)
    (hit : it ρ = .ok (xs.map emb) ρ1) (hn : noMu vs ρ1 = true) (hl : xs.length ≤ 1000000) (h : ∀ x ∈ xs, ∃ ρ2, t (emb x) (wipeE ρ1 vs) = some ρ2 ∧ tt ρ2 = .ok (p x) ρ2 ∧ (p x = true → te ρ2 = .ok (f x) ρ2) ∧ wipeE ρ2 vs = wipeE ρ1 vs) :
    fLc it vs t tt te ρ = .ok ((xs.filter p).map f) ρ1 := by
  unfold fLc
  rw [hit, bind_ok, if_pos hn, lcL_map emb p f xs [] (by simpa using hl) h, bindN_ok, List.nil_append, backE_id fun j _ hj => wipeE_out hj]
/-- .. without a test -/
theorem lc_all {α : Type} {it : FL} {vs : List Nat} {t : D → En → Option En} {te : F} {ρ ρ1 : En} (emb : α → D) (f : α → D) (xs : List α)
    (hit : it ρ = .ok (xs.map emb) ρ1) (hn : noMu vs ρ1 = true) (hl : xs.length ≤ 1000000) (h : ∀ x ∈ xs, ∃ ρ2, t (emb x) (wipeE ρ1 vs) = some ρ2 ∧ te ρ2 = .ok (f x) ρ2 ∧ wipeE ρ2 vs = wipeE ρ1 vs) :
    fLc it vs t fYes te ρ = .ok (xs.map f) ρ1 := by
  have e := lc_map (tt := fYes) (te := te) emb (fun _ => true) f xs hit hn hl fun x hx => by
    obtain ⟨ρ2, a, b, c⟩ := h x hx
    exact ⟨ρ2, a, rfl, fun _ => b, c⟩
  rw [e, List.filter_eq_self.mpr fun _ _ => rfl]
/-- .. that changes what stands beside it -/
theorem lcL_inv {α : Type} {vs : List Nat} {t : D → En → Option En} {tt : FB} {te : F} (emb : α → D) (I : List α → List D → En → Prop)
    (h : ∀ x xs acc ρ, I (x :: xs) acc ρ → ∃ ρ2 b ρ3, t (emb x) ρ = some ρ2 ∧ tt ρ2 = .ok b ρ3 ∧ (b = true → ∃ y ρ4, te ρ3 = .ok y ρ4 ∧ I xs (acc ++ [y]) (wipeE ρ4 vs)) ∧ (b = false → I xs acc (wipeE ρ3 vs))) :
    ∀ (xs : List α) (acc : List D) (ρ : En), acc.length + xs.length ≤ 1000000 → I xs acc ρ → ∃ acc' ρ', lcL vs t tt te (xs.map emb) acc ρ = .ok acc' ρ' ∧ I [] acc' ρ' := by
  intro xs
  induction xs with
  | nil => intro acc ρ _ h; exact ⟨acc, ρ, rfl, h⟩
  | cons x xs ih =>
    intro acc ρ hl h0
    obtain ⟨ρ2, b, ρ3, e1, e2, e3, e4⟩ := h x xs acc ρ h0
    simp only [List.length_cons] at hl
    rw [List.map_cons, lcL, e1]
    dsimp only
    rw [e2, bindN_ok]
    cases hp : b with
    | true =>
      obtain ⟨y, ρ4, e5, h5⟩ := e3 hp
      rw [if_pos rfl, e5, bindN_ok, if_pos (Nat.lt_of_lt_of_le (by omega : acc.length < 1000000) (by rw [sizeLine_eq]; decide))]
      exact ih _ _ (by rw [List.length_append]; simp only [List.length_cons, List.length_nil]; omega) h5
    | false =>
      rw [if_neg Bool.false_ne_true]
      exact ih _ _ (by omega) (e4 hp)
theorem lc_inv {α : Type} {it : FL} {vs : List Nat} {t : D → En → Option En} {tt : FB} {te : F} {ρ ρ1 : En} (emb : α → D) (I : List α → List D → En → Prop) (xs : List α)
    (hit : it ρ = .ok (xs.map emb) ρ1) (hn : noMu vs ρ1 = true) (hl : xs.length ≤ 1000000) (h0 : I xs [] (wipeE ρ1 vs)) (h : ∀ x xs acc ρ, I (x :: xs) acc ρ → ∃ ρ2 b ρ3, t (emb x) ρ = some ρ2 ∧ tt ρ2 = .ok b ρ3 ∧ (b = true → ∃ y ρ4, te ρ3 = .ok y ρ4 ∧ I xs (acc ++ [y]) (wipeE ρ4 vs)) ∧ (b = false → I xs acc (wipeE ρ3 vs))) :
    ∃ acc ρb, fLc it vs t tt te ρ = .ok acc (backE vs ρ1 ρb) ∧ I [] acc ρb := by
  obtain ⟨acc, ρb, e, hI⟩ := lcL_inv emb I h xs [] _ (by simpa using hl) h0
  refine ⟨acc, ρb, ?_, hI⟩
  unfold fLc
  rw [hit, bind_ok, if_pos hn, e, bindN_ok]
def stepO (o : Option En) [k : Ke SR] : SR := match o with
  | some ρ => k.run ρ
  | none => .stuck
@[simp] theorem stepO_some {ρ : En} {k : Ke SR} : stepO (some ρ) (k := k) = k.run ρ := (rfl)
theorem forL_c {t : D → En → Option En} {g : G} {d : D} {ds : List D} {ρ : En} : forL t g (d :: ds) ρ = stepO (t d ρ) (k := ⟨fun ρ1 => (g ρ1).loop (forL t g ds)⟩) := by
  cases e : t d ρ with
  | none => rw [forL, e]; rfl
  | some ρ1 => rw [forL_cons e, stepO_some]; rfl
/-! ranges -/
def range1 (d : D) (ρ : En) : R (List D) := match d with
  | .int j => if -(2 ^ 62) ≤ j ∧ j < 2 ^ 62 then .ok (intsL 0 j.toNat) ρ else .stuck
  | _ => .stuck
theorem range1_nat {n : Nat} {ρ : En} (h : n ≤ 1000000) : range1 (.int n) ρ = .ok ((List.range n).map fun k => .int (k : Nat)) ρ := by
  unfold range1
  dsimp only
  rw [if_pos (by omega)]
  unfold intsL
  simp
theorem range1_int {n : Int} {ρ : En} (h0 : n ≤ 1000000) (h : -1000000 ≤ n) : range1 (.int n) ρ = .ok ((List.range n.toNat).map fun k => .int (k : Nat)) ρ := by
  unfold range1
  dsimp only
  rw [if_pos (by omega)]
  unfold intsL
  simp
@[simp] theorem e_range1 {a : F} {ρ : En} : fRange1 (fCons a fNil) ρ = (a ρ).bind range1 := by
  unfold fRange1 fCons
  cases a ρ with
  | ok x ρ1 => cases x <;> rfl
  | _ => rfl
def range2 (d e : D) (ρ : En) : R (List D) := match d, e with
  | .int i, .int j => if -(2 ^ 62) ≤ i ∧ i < 2 ^ 62 ∧ -(2 ^ 62) ≤ j ∧ j < 2 ^ 62 then .ok (intsL i (j - i).toNat) ρ else .stuck
  | _, _ => .stuck
theorem range2_int {m n : Int} {ρ : En} (h : -1000000 ≤ m ∧ m ≤ 1000000 ∧ -1000000 ≤ n ∧ n ≤ 1000000) : range2 (.int m) (.int n) ρ = .ok ((List.range (n - m).toNat).map fun k => .int (m + (k : Nat))) ρ := by
  unfold range2
  dsimp only
  rw [if_pos (by omega)]
  rfl
theorem raw_range2 {a b : F} {ρ : En} : fRange2 (fCons a (fCons b fNil)) ρ = (a ρ).bind fun x ρ1 => (b ρ1).bind fun y ρ2 => range2 x y ρ2 := by
  unfold fRange2 fCons
  cases a ρ with
  | ok x ρ1 =>
    dsimp only [R.bind]
    cases b ρ1 with
    | ok y ρ2 =>
      dsimp only [R.bind, fNil]
      cases x <;> cases y <;> rfl
    | _ => rfl
  | _ => rfl
@[simp] theorem e_range2 {a b : F} {ρ : En} : fRange2 (fCons a (fCons b fNil)) ρ = bnd (a ρ) (k := ⟨fun x ρ1 => bnd (b ρ1) (k := ⟨fun y ρ2 => range2 x y ρ2⟩)⟩) := raw_range2
def zip2 (a b : D) (ρ : En) : R (List D) := match seqOf a, seqOf b with
  | some xs, some ys => .ok ((pairs xs ys).map .tup) ρ
  | _, _ => .stuck
theorem zip2_at {a b : D} {xs ys : List D} {ρ : En} (h : seqOf a = some xs) (h2 : seqOf b = some ys) : zip2 a b ρ = .ok ((pairs xs ys).map .tup) ρ := by
  unfold zip2
  rw [h, h2]
theorem raw_zip2 {a b : F} {ρ : En} : fZip2 (fCons a (fCons b fNil)) ρ = (a ρ).bind fun x ρ1 => (b ρ1).bind fun y ρ2 => zip2 x y ρ2 := by
  unfold fZip2 fCons
  cases a ρ with
  | ok x ρ1 =>
    dsimp only [R.bind]
    cases b ρ1 with
    | ok y ρ2 =>
      dsimp only [R.bind, fNil, zip2]
      all_goals (rcases seqOf x with _ | xs; rfl; cases seqOf y <;> rfl)
    | _ => rfl
  | _ => rfl
@[simp] theorem e_zip2 {a b : F} {ρ : En} : fZip2 (fCons a (fCons b fNil)) ρ = bnd (a ρ) (k := ⟨fun x ρ1 => bnd (b ρ1) (k := ⟨fun y ρ2 => zip2 x y ρ2⟩)⟩) := raw_zip2
def enumF : Nat → List D → List D
  | _, [] => []
  | k, x :: xs => .tup [.int k, x] :: enumF (k + 1) xs
theorem enumF_eq (k : Nat) (xs : List D) : enumF k xs = ((List.range' k xs.length).zipWith (fun i x => [D.int (i : Nat), x]) xs).map .tup := by
  induction xs generalizing k with
  | nil => rfl
  | cons x xs ih =>
    rw [enumF, ih, List.length_cons, List.range'_succ]
    rfl
theorem count_enum (xs : List D) : (countD xs).map .tup = enumF 0 xs := by
  rw [enumF_eq]
  unfold countD
  rw [List.range_eq_range']
def enum1 (a : D) (ρ : En) : R (List D) := match seqOf a with
  | some xs => .ok (enumF 0 xs) ρ
  | _ => .stuck
theorem enum1_at {a : D} {xs : List D} {ρ : En} (h : seqOf a = some xs) : enum1 a ρ = .ok (enumF 0 xs) ρ := by
  unfold enum1
  rw [h]
@[simp] theorem e_enum {a : F} {ρ : En} : fEnum (fCons a fNil) ρ = (a ρ).bind enum1 := by
  unfold fEnum fCons
  cases a ρ with
  | ok x ρ1 =>
    dsimp only [R.bind, fNil]
    unfold enum1
    cases seqOf x with
    | none => rfl
    | some xs => dsimp only; rw [← count_enum]
  | _ => rfl
@[simp] theorem wipe_cons {ρ : En} {v : Nat} {vs : List Nat} : wipeE ρ (v :: vs) = (wipeE ρ vs).set v none := (rfl)
@[simp] theorem wipe_nil {ρ : En} : wipeE ρ [] = ρ := (rfl)
end DL

set_option Elab.async false
set_option linter.all false
set_option maxRecDepth 100000
set_option autoImplicit false
/-! PE: == and in, by data. -/
namespace DL
open PySem PySem.Spec PyProof.Rows L2

mutual
def good : Nat → D → Bool
  | _, .non => true
  | _, .bl _ => true
  | _, .int _ => true
  | _, .str s => PyData.strOk s
  | 0, .lst _ => false
  | 0, .slst _ => false
  | 0, .tup _ => false
  | n + 1, .lst xs => goodL n xs
  | n + 1, .slst xs => goodL n xs
  | n + 1, .tup xs => goodL n xs
  | _, .ins _ _ => false
  | _, .emp => false
def goodL : Nat → List D → Bool
  | _, [] => true
  | n, x :: xs => good n x && goodL n xs
end
mutual
def eqF : D → D → Bool
  | .non, .non => true
  | .bl a, .bl b => a == b
  | .bl a, .int j => (if a then 1 else 0) == j
  | .int i, .bl b => i == (if b then 1 else 0)
  | .int i, .int j => i == j
  | .str x, .str y => x == y
  | .lst xs, .lst ys => eqFL xs ys
  | .lst xs, .slst ys => eqFL xs ys
  | .slst xs, .lst ys => eqFL xs ys
  | .slst xs, .slst ys => eqFL xs ys
  | .tup xs, .tup ys => eqFL xs ys
  | _, _ => false
def eqFL : List D → List D → Bool
  | [], [] => true
  | x :: xs, y :: ys => eqF x y && eqFL xs ys
  | [], _ :: _ => false
  | _ :: _, [] => false
end
mutual
theorem good_py : ∀ (d : D) (n : Nat), good n d = true → ∃ p, d.py = some p ∧ p.canLay0 = true ∧ p.depth ≤ n
  | .non, n, _ => ⟨.none, rfl, by simp [PyData.canLay0], by simp [PyData.depth]⟩
  | .bl b, n, _ => ⟨.bool b, rfl, by simp [PyData.canLay0], by simp [PyData.depth]⟩
  | .int b, n, _ => ⟨.int b, rfl, by simp [PyData.canLay0], by simp [PyData.depth]⟩
  | .str b, n, h => ⟨.str b, rfl, by simpa [PyData.canLay0, good] using h, by simp [PyData.depth]⟩
  | .lst xs, 0, h => by simp [good] at h
  | .slst xs, 0, h => by simp [good] at h
  | .tup xs, 0, h => by simp [good] at h
  | .lst xs, n + 1, h => by
    obtain ⟨ps, e, a, b⟩ := goodL_py xs n (by simpa [good] using h)
    exact ⟨.list ps, by show (pyAll xs).map PyData.list = _; rw [e]; rfl, by simpa [PyData.canLay0] using a, by simp [PyData.depth]; omega⟩
  | .slst xs, n + 1, h => by
    obtain ⟨ps, e, a, b⟩ := goodL_py xs n (by simpa [good] using h)
    exact ⟨.list ps, by show (pyAll xs).map PyData.list = _; rw [e]; rfl, by simpa [PyData.canLay0] using a, by simp [PyData.depth]; omega⟩
  | .tup xs, n + 1, h => by
    obtain ⟨ps, e, a, b⟩ := goodL_py xs n (by simpa [good] using h)
    exact ⟨.tuple ps, by show (pyAll xs).map PyData.tuple = _; rw [e]; rfl, by simpa [PyData.canLay0] using a, by simp [PyData.depth]; omega⟩
  | .ins _ _, n, h => by simp [good] at h
  | .emp, n, h => by simp [good] at h
theorem goodL_py : ∀ (xs : List D) (n : Nat), goodL n xs = true → ∃ ps, pyAll xs = some ps ∧ PyData.canLayAll0 ps = true ∧ PyData.depthAll ps ≤ n
  | [], n, _ => ⟨[], rfl, by simp [PyData.canLayAll0], by simp [PyData.depthAll]⟩
  | x :: xs, n, h => by
    have h : good n x = true ∧ goodL n xs = true := by simpa [goodL] using h
    obtain ⟨p, e, a, b⟩ := good_py x n h.1
    obtain ⟨ps, e2, a2, b2⟩ := goodL_py xs n h.2
    refine ⟨p :: ps, ?_, by simp [PyData.canLayAll0, a, a2], by simp only [PyData.depthAll]; omega⟩
    show (match x.py, pyAll xs with | some p, some ps => some (p :: ps) | _, _ => none) = _
    rw [e, e2]
end
theorem py_seq {f : List PyData → PyData} {xs : List D} {p : PyData} (h : (pyAll xs).map f = some p) : ∃ ps, pyAll xs = some ps ∧ p = f ps := by
  cases e : pyAll xs with
  | none => rw [e] at h; cases h
  | some ps => rw [e] at h; cases h; exact ⟨ps, rfl, rfl⟩
mutual
theorem eqF_py : ∀ (a b : D) (p q : PyData), a.py = some p → b.py = some q → PyData.eqv p q = eqF a b
  | .lst xs, .lst ys, p, q, h, h2 => by
    obtain ⟨ps, e, rfl⟩ := py_seq (f := PyData.list) h
    obtain ⟨qs, e2, rfl⟩ := py_seq (f := PyData.list) h2
    simp only [PyData.eqv, eqF]
    exact eqFL_py xs ys ps qs e e2
  | .lst xs, .slst ys, p, q, h, h2 => by
    obtain ⟨ps, e, rfl⟩ := py_seq (f := PyData.list) h
    obtain ⟨qs, e2, rfl⟩ := py_seq (f := PyData.list) h2
    simp only [PyData.eqv, eqF]
    exact eqFL_py xs ys ps qs e e2
  | .slst xs, .lst ys, p, q, h, h2 => by
    obtain ⟨ps, e, rfl⟩ := py_seq (f := PyData.list) h
    obtain ⟨qs, e2, rfl⟩ := py_seq (f := PyData.list) h2
    simp only [PyData.eqv, eqF]
    exact eqFL_py xs ys ps qs e e2
  | .slst xs, .slst ys, p, q, h, h2 => by
    obtain ⟨ps, e, rfl⟩ := py_seq (f := PyData.list) h
    obtain ⟨qs, e2, rfl⟩ := py_seq (f := PyData.list) h2
    simp only [PyData.eqv, eqF]
    exact eqFL_py xs ys ps qs e e2
  | .tup xs, .tup ys, p, q, h, h2 => by
    obtain ⟨ps, e, rfl⟩ := py_seq (f := PyData.tuple) h
    obtain ⟨qs, e2, rfl⟩ := py_seq (f := PyData.tuple) h2
    simp only [PyData.eqv, eqF]
    exact eqFL_py xs ys ps qs e e2
  | .ins _ _, _, p, q, h, h2 => by cases h
  | .emp, _, p, q, h, h2 => by cases h
  | .non, b, p, q, h, h2 => by
    cases h
    cases b with
    | lst ys => obtain ⟨qs, e2, rfl⟩ := py_seq (f := PyData.list) h2; simp only [PyData.eqv, eqF]
    | slst ys => obtain ⟨qs, e2, rfl⟩ := py_seq (f := PyData.list) h2; simp only [PyData.eqv, eqF]
    | tup ys => obtain ⟨qs, e2, rfl⟩ := py_seq (f := PyData.tuple) h2; simp only [PyData.eqv, eqF]
    | ins _ _ => cases h2
    | emp => cases h2
    | _ => cases h2; simp only [PyData.eqv, eqF]
  | .bl _, b, p, q, h, h2 => by
    cases h
    cases b with
    | lst ys => obtain ⟨qs, e2, rfl⟩ := py_seq (f := PyData.list) h2; simp only [PyData.eqv, eqF]
    | slst ys => obtain ⟨qs, e2, rfl⟩ := py_seq (f := PyData.list) h2; simp only [PyData.eqv, eqF]
    | tup ys => obtain ⟨qs, e2, rfl⟩ := py_seq (f := PyData.tuple) h2; simp only [PyData.eqv, eqF]
    | ins _ _ => cases h2
    | emp => cases h2
    | _ => cases h2; simp only [PyData.eqv, eqF]
  | .int _, b, p, q, h, h2 => by
    cases h
    cases b with
    | lst ys => obtain ⟨qs, e2, rfl⟩ := py_seq (f := PyData.list) h2; simp only [PyData.eqv, eqF]
    | slst ys => obtain ⟨qs, e2, rfl⟩ := py_seq (f := PyData.list) h2; simp only [PyData.eqv, eqF]
    | tup ys => obtain ⟨qs, e2, rfl⟩ := py_seq (f := PyData.tuple) h2; simp only [PyData.eqv, eqF]
    | ins _ _ => cases h2
    | emp => cases h2
    | _ => cases h2; simp only [PyData.eqv, eqF]
  | .str _, b, p, q, h, h2 => by
    cases h
    cases b with
    | lst ys => obtain ⟨qs, e2, rfl⟩ := py_seq (f := PyData.list) h2; simp only [PyData.eqv, eqF]
    | slst ys => obtain ⟨qs, e2, rfl⟩ := py_seq (f := PyData.list) h2; simp only [PyData.eqv, eqF]
    | tup ys => obtain ⟨qs, e2, rfl⟩ := py_seq (f := PyData.tuple) h2; simp only [PyData.eqv, eqF]
    | ins _ _ => cases h2
    | emp => cases h2
    | _ => cases h2; simp only [PyData.eqv, eqF]
  | .lst xs, b, p, q, h, h2 => by
    cases b with
    | tup ys => obtain ⟨ps, e, rfl⟩ := py_seq (f := PyData.list) h; obtain ⟨qs, e2, rfl⟩ := py_seq (f := PyData.tuple) h2; simp only [PyData.eqv, eqF]
    | ins _ _ => cases h2
    | emp => cases h2
    | lst ys =>
      obtain ⟨ps, e, rfl⟩ := py_seq (f := PyData.list) h
      obtain ⟨qs, e2, rfl⟩ := py_seq (f := PyData.list) h2
      simp only [PyData.eqv, eqF]
      exact eqFL_py xs ys ps qs e e2
    | slst ys =>
      obtain ⟨ps, e, rfl⟩ := py_seq (f := PyData.list) h
      obtain ⟨qs, e2, rfl⟩ := py_seq (f := PyData.list) h2
      simp only [PyData.eqv, eqF]
      exact eqFL_py xs ys ps qs e e2
    | _ => obtain ⟨ps, e, rfl⟩ := py_seq (f := PyData.list) h; cases h2; simp only [PyData.eqv, eqF]
  | .slst xs, b, p, q, h, h2 => by
    cases b with
    | tup ys => obtain ⟨ps, e, rfl⟩ := py_seq (f := PyData.list) h; obtain ⟨qs, e2, rfl⟩ := py_seq (f := PyData.tuple) h2; simp only [PyData.eqv, eqF]
    | ins _ _ => cases h2
    | emp => cases h2
    | lst ys =>
      obtain ⟨ps, e, rfl⟩ := py_seq (f := PyData.list) h
      obtain ⟨qs, e2, rfl⟩ := py_seq (f := PyData.list) h2
      simp only [PyData.eqv, eqF]
      exact eqFL_py xs ys ps qs e e2
    | slst ys =>
      obtain ⟨ps, e, rfl⟩ := py_seq (f := PyData.list) h
      obtain ⟨qs, e2, rfl⟩ := py_seq (f := PyData.list) h2
      simp only [PyData.eqv, eqF]
      exact eqFL_py xs ys ps qs e e2
    | _ => obtain ⟨ps, e, rfl⟩ := py_seq (f := PyData.list) h; cases h2; simp only [PyData.eqv, eqF]
  | .tup xs, b, p, q, h, h2 => by
    cases b with
    | lst ys => obtain ⟨ps, e, rfl⟩ := py_seq (f := PyData.tuple) h; obtain ⟨qs, e2, rfl⟩ := py_seq (f := PyData.list) h2; simp only [PyData.eqv, eqF]
    | slst ys => obtain ⟨ps, e, rfl⟩ := py_seq (f := PyData.tuple) h; obtain ⟨qs, e2, rfl⟩ := py_seq (f := PyData.list) h2; simp only [PyData.eqv, eqF]
    | ins _ _ => cases h2
    | emp => cases h2
    | tup ys =>
      obtain ⟨ps, e, rfl⟩ := py_seq (f := PyData.tuple) h
      obtain ⟨qs, e2, rfl⟩ := py_seq (f := PyData.tuple) h2
      simp only [PyData.eqv, eqF]
      exact eqFL_py xs ys ps qs e e2
    | _ => obtain ⟨ps, e, rfl⟩ := py_seq (f := PyData.tuple) h; cases h2; simp only [PyData.eqv, eqF]
theorem eqFL_py : ∀ (xs ys : List D) (ps qs : List PyData), pyAll xs = some ps → pyAll ys = some qs → PyData.eqvAll ps qs = eqFL xs ys
  | [], [], ps, qs, h, h2 => by cases h; cases h2; simp only [PyData.eqvAll, eqFL]
  | [], y :: ys, ps, qs, h, h2 => by
    cases h
    have h2 : (match y.py, pyAll ys with | some p, some ps => some (p :: ps) | _, _ => none) = some qs := h2
    cases e : y.py with
    | none => rw [e] at h2; cases h2
    | some q => cases e2 : pyAll ys with
      | none => rw [e, e2] at h2; cases h2
      | some qs' => rw [e, e2] at h2; cases h2; simp only [PyData.eqvAll, eqFL]
  | y :: ys, [], ps, qs, h2, h => by
    cases h
    have h2 : (match y.py, pyAll ys with | some p, some ps => some (p :: ps) | _, _ => none) = some ps := h2
    cases e : y.py with
    | none => rw [e] at h2; cases h2
    | some q => cases e2 : pyAll ys with
      | none => rw [e, e2] at h2; cases h2
      | some qs' => rw [e, e2] at h2; cases h2; simp only [PyData.eqvAll, eqFL]
  | x :: xs, y :: ys, ps, qs, h, h2 => by
    have h : (match x.py, pyAll xs with | some p, some ps => some (p :: ps) | _, _ => none) = some ps := h
    have h2 : (match y.py, pyAll ys with | some p, some ps => some (p :: ps) | _, _ => none) = some qs := h2
    cases e : x.py with
    | none => rw [e] at h; cases h
    | some p => cases e2 : pyAll xs with
      | none => rw [e, e2] at h; cases h
      | some ps' =>
        rw [e, e2] at h; cases h
        cases e3 : y.py with
        | none => rw [e3] at h2; cases h2
        | some q => cases e4 : pyAll ys with
          | none => rw [e3, e4] at h2; cases h2
          | some qs' =>
            rw [e3, e4] at h2; cases h2
            simp only [PyData.eqvAll, eqFL]
            rw [eqF_py x y p q e e3, eqFL_py xs ys ps' qs' e2 e4]
end
theorem eqv_good {a b : D} (h : good 64 a = true) (h2 : good 64 b = true) : eqvD a b = some (eqF a b) := by
  obtain ⟨p, e, l, d⟩ := good_py a 64 h
  obtain ⟨q, e2, l2, d2⟩ := good_py b 64 h2
  unfold eqvD
  rw [e, e2]
  dsimp only
  have s1 : SeqAt.shaped p = true := by unfold SeqAt.shaped; rw [l, decide_eq_true d]; rfl
  have s2 : SeqAt.shaped q = true := by unfold SeqAt.shaped; rw [l2, decide_eq_true d2]; rfl
  rw [s1, s2, Bool.and_self, if_pos rfl, eqF_py a b p q e e2]
/-! rows -/
section
variable {n : Nat} {xs ys : List D}
@[simp] theorem good_non : good n .non = true := by simp only [good]
@[simp] theorem good_bl {b : Bool} : good n (.bl b) = true := by simp only [good]
@[simp] theorem good_int {b : Int} : good n (.int b) = true := by simp only [good]
@[simp] theorem good_str {b : Str} : good n (.str b) = PyData.strOk b := by simp only [good]
@[simp] theorem good_lst : good (n + 1) (.lst xs) = goodL n xs := by simp only [good]
@[simp] theorem good_slst : good (n + 1) (.slst xs) = goodL n xs := by simp only [good]
@[simp] theorem good_tup : good (n + 1) (.tup xs) = goodL n xs := by simp only [good]
@[simp] theorem goodL_nil : goodL n [] = true := by simp only [goodL]
@[simp] theorem goodL_cons {x : D} : goodL n (x :: xs) = (good n x && goodL n xs) := by simp only [goodL]
theorem goodL_all (h : ∀ x ∈ xs, good n x = true) : goodL n xs = true := by
  induction xs with
  | nil => exact goodL_nil
  | cons x xs ih => rw [goodL_cons, h x List.mem_cons_self, ih fun y hy => h y (List.mem_cons_of_mem _ hy)]; rfl
@[simp] theorem goodL_app : goodL n (xs ++ ys) = (goodL n xs && goodL n ys) := by
  induction xs with
  | nil => simp
  | cons x xs ih => simp [ih, Bool.and_assoc]
@[simp] theorem goodL_map {α : Type} {f : α → D} {as : List α} : goodL n (as.map f) = as.all fun a => good n (f a) := by
  induction as with
  | nil => simp
  | cons x xs ih => simp [ih]
@[simp] theorem good_ti {ws : List Int} : good (n + 1) (ti ws) = true := by
  unfold ti
  simp
@[simp] theorem good_tl {ws : List Int} : good (n + 1) (tl ws) = true := by
  unfold tl
  simp
@[simp] theorem eqv_g {a b : D} (h : good 64 a = true) (h2 : good 64 b = true) : eqvD a b = some (eqF a b) := eqv_good h h2
@[simp] theorem eqF_int {i j : Int} : eqF (.int i) (.int j) = decide (i = j) := by
  simp only [eqF]
  by_cases e : i = j <;> simp [e]
@[simp] theorem eqF_bl {i j : Bool} : eqF (.bl i) (.bl j) = decide (i = j) := by
  simp only [eqF]
  cases i <;> cases j <;> rfl
@[simp] theorem eqF_str {i j : Str} : eqF (.str i) (.str j) = decide (i = j) := by
  simp only [eqF]
  by_cases e : i = j <;> simp [e]
@[simp] theorem eqF_nn : eqF .non .non = true := by simp only [eqF]
@[simp] theorem eqF_tt : eqF (.tup xs) (.tup ys) = eqFL xs ys := by simp only [eqF]
@[simp] theorem eqF_ll : eqF (.lst xs) (.lst ys) = eqFL xs ys := by simp only [eqF]
@[simp] theorem eqF_tl : eqF (.tup xs) (.lst ys) = false := by simp only [eqF]
@[simp] theorem eqF_lt : eqF (.lst xs) (.tup ys) = false := by simp only [eqF]
@[simp] theorem eqF_ni {i : Int} : eqF .non (.int i) = false := by simp only [eqF]
@[simp] theorem eqF_in {i : Int} : eqF (.int i) .non = false := by simp only [eqF]
@[simp] theorem eqF_nt : eqF .non (.tup xs) = false := by simp only [eqF]
@[simp] theorem eqF_tn : eqF (.tup xs) .non = false := by simp only [eqF]
@[simp] theorem eqF_nl : eqF .non (.lst xs) = false := by simp only [eqF]
@[simp] theorem eqF_ln : eqF (.lst xs) .non = false := by simp only [eqF]
@[simp] theorem eqF_il {i : Int} : eqF (.int i) (.lst xs) = false := by simp only [eqF]
@[simp] theorem eqF_it {i : Int} : eqF (.int i) (.tup xs) = false := by simp only [eqF]
@[simp] theorem eqF_li {i : Int} : eqF (.lst xs) (.int i) = false := by simp only [eqF]
@[simp] theorem eqF_ti' {i : Int} : eqF (.tup xs) (.int i) = false := by simp only [eqF]
@[simp] theorem eqF_ib {i : Int} {b : Bool} : eqF (.int i) (.bl b) = decide (i = if b then 1 else 0) := by
  simp only [eqF]
  cases b <;> rfl
@[simp] theorem eqF_is {i : Int} {s : Str} : eqF (.int i) (.str s) = false := by simp only [eqF]
@[simp] theorem eqF_si {i : Int} {s : Str} : eqF (.str s) (.int i) = false := by simp only [eqF]
@[simp] theorem eqFL_nil : eqFL [] [] = true := by simp only [eqFL]
@[simp] theorem eqFL_cons {x y : D} : eqFL (x :: xs) (y :: ys) = (eqF x y && eqFL xs ys) := by simp only [eqFL]
@[simp] theorem eqFL_nc {y : D} : eqFL [] (y :: ys) = false := by simp only [eqFL]
@[simp] theorem eqFL_cn {y : D} : eqFL (y :: ys) [] = false := by simp only [eqFL]
@[simp] theorem eqFL_ints {xs ys : List Int} : eqFL (xs.map D.int) (ys.map D.int) = decide (xs = ys) := by
  induction xs generalizing ys with
  | nil => cases ys <;> simp
  | cons x xs ih =>
    cases ys with
    | nil => simp
    | cons y ys =>
      simp [ih]
@[simp] theorem eqF_titi {xs ys : List Int} : eqF (ti xs) (ti ys) = decide (xs = ys) := by
  unfold ti
  rw [eqF_tt, eqFL_ints]
@[simp] theorem eqF_til {xs : List Int} {ys : List D} : eqF (ti xs) (.lst ys) = false := by
  unfold ti
  rw [eqF_tl]
@[simp] theorem eqF_lti {xs : List Int} {ys : List D} : eqF (.lst ys) (ti xs) = false := by
  unfold ti
  rw [eqF_lt]
mutual
theorem eqF_refl : ∀ (d : D) (n : Nat), good n d = true → eqF d d = true
  | .non, _, _ => by simp
  | .bl _, _, _ => by simp
  | .int _, _, _ => by simp
  | .str _, _, _ => by simp
  | .lst xs, 0, h => by simp [good] at h
  | .slst xs, 0, h => by simp [good] at h
  | .tup xs, 0, h => by simp [good] at h
  | .lst xs, n + 1, h => by rw [eqF_ll]; exact eqFL_refl xs n (by simpa using h)
  | .slst xs, n + 1, h => by simp only [eqF]; exact eqFL_refl xs n (by simpa using h)
  | .tup xs, n + 1, h => by rw [eqF_tt]; exact eqFL_refl xs n (by simpa using h)
  | .ins _ _, _, h => by simp [good] at h
  | .emp, _, h => by simp [good] at h
theorem eqFL_refl : ∀ (ds : List D) (n : Nat), goodL n ds = true → eqFL ds ds = true
  | [], _, _ => eqFL_nil
  | x :: xs, n, h => by
    have h : good n x = true ∧ goodL n xs = true := by simpa using h
    rw [eqFL_cons, eqF_refl x n h.1, eqFL_refl xs n h.2]
    rfl
end
/-! in -/
theorem in_flat {neg : Bool} {a b : D} (h : seqOf b = some xs) (f : flatD a = true) (g : xs.all flatD = true) : inA neg a b = some (.bl (if neg = true then !(xs.any fun y => eqF y a) else xs.any fun y => eqF y a)) := by
  have e : inF neg a b = some (.bl (if neg = true then !(xs.any fun y => eqFl y a) else xs.any fun y => eqFl y a)) := by
    unfold inF
    rw [h]
    dsimp only
    rw [f, g, Bool.and_self, if_pos rfl]
  have e2 : ∀ y ∈ xs, eqFl y a = eqF y a := fun y hy => by
    have := List.all_eq_true.mp g y hy
    cases y <;> cases a <;> first | (cases f; done) | (cases this; done) | (simp only [eqFl, eqF])
  have e3 : (xs.any fun y => eqFl y a) = xs.any fun y => eqF y a := by
    rw [Bool.eq_iff_iff, List.any_eq_true, List.any_eq_true]
    exact ⟨fun ⟨y, hy, q⟩ => ⟨y, hy, (e2 y hy) ▸ q⟩, fun ⟨y, hy, q⟩ => ⟨y, hy, (e2 y hy).symm ▸ q⟩⟩
  unfold inA alt2
  rw [e, e3]
theorem any_py {a : D} {p : PyData} (ea : a.py = some p) : ∀ {xs : List D} {ps : List PyData}, pyAll xs = some ps → (ps.any fun z => PyData.eqv z p) = xs.any fun y => eqF y a
  | [], ps, h => by cases h; rfl
  | x :: xs, ps, h => by
    have h : (match x.py, pyAll xs with | some p, some ps => some (p :: ps) | _, _ => none) = some ps := h
    cases e : x.py with
    | none => rw [e] at h; cases h
    | some p => cases e2 : pyAll xs with
      | none => rw [e, e2] at h; cases h
      | some ps' =>
        rw [e, e2] at h; cases h
        rw [List.any_cons, List.any_cons, eqF_py x a _ _ e ea, any_py ea e2]
theorem in_deep {neg : Bool} {a : D} (h : good 64 a = true) (f : flatD a = false) (g : goodL 63 xs = true) : inA neg a (.lst xs) = some (.bl (if neg = true then !(xs.any fun y => eqF y a) else xs.any fun y => eqF y a)) := by
  have e : inF neg a (.lst xs) = none := by
    unfold inF
    dsimp only [seqOf]
    rw [f]
    rfl
  obtain ⟨p, ep, l, d⟩ := good_py a 64 h
  obtain ⟨qs, eq, l2, d2⟩ := goodL_py xs 63 g
  have s1 : SeqAt.shaped p = true := by unfold SeqAt.shaped; rw [l, decide_eq_true d]; rfl
  have s2 : SeqAt.shaped (.list qs) = true := by unfold SeqAt.shaped; simp only [PyData.canLay0, PyData.depth, l2]; simp; omega
  have ex : (D.lst xs).py = some (.list qs) := by show (pyAll xs).map PyData.list = _; rw [eq]; rfl
  have e2 : inDp neg a (.lst xs) = some (.bl (if neg = true then !(xs.any fun y => eqF y a) else xs.any fun y => eqF y a)) := by
    unfold inDp
    rw [ep, ex]
    dsimp only
    rw [s1, s2, Bool.and_self, if_pos rfl, any_py ep eq]
  unfold inA alt2
  rw [e, e2]
end
end DL
namespace DL
open PySem PySem.Spec PyProof.Rows L2
@[simp] theorem strOk_lit {s : String} : PyData.strOk (Str.ofString s) = true := by
  rw [Str.ofString_eq_toList]
  unfold PyData.strOk
  rw [Array.all_eq_true_iff_forall_mem]
  intro x hx
  rw [List.mem_toArray, List.mem_map] at hx
  obtain ⟨c, _, rfl⟩ := hx
  have := c.valid
  unfold UInt32.isValidChar Nat.isValidChar at this
  have e : c.toNat = c.val.toNat := rfl
  rw [e]
  exact decide_eq_true (by omega)
theorem toNats_inj : ∀ (a b : List Char), a.map Char.toNat = b.map Char.toNat → a = b
  | [], [], _ => rfl
  | [], _ :: _, h => nomatch h
  | _ :: _, [], h => nomatch h
  | x :: a, y :: b, h => by
    rw [List.map_cons, List.map_cons, List.cons.injEq] at h
    rw [toNats_inj a b h.2, Char.toNat_inj.mp h.1]
@[simp] theorem ofString_inj {s t : String} : Str.ofString s = Str.ofString t ↔ s = t := by
  refine ⟨fun h => ?_, fun h => h ▸ rfl⟩
  rw [Str.ofString_eq_toList, Str.ofString_eq_toList] at h
  have h2 : (s.toList.map Char.toNat).toArray = (t.toList.map Char.toNat).toArray := congrArg Str.cps h
  have h3 := toNats_inj _ _ (congrArg Array.toList h2)
  exact String.toList_inj.mp h3
end DL

set_option Elab.async false
set_option linter.all false
set_option maxRecDepth 100000
set_option autoImplicit false
/-! PW: rows for simp: objects, errors, several excepts, slices, new lists. -/
namespace DL
open PySem PySem.Spec PyProof.Rows L2

def altO (o : Option D) [y : Th (Option D)] : Option D := match o with
  | some d => some d
  | none => y.run
@[simp] theorem altO_some {d : D} {y : Th (Option D)} : altO (some d) (y := y) = some d := (rfl)
@[simp] theorem altO_none {y : Th (Option D)} : altO none (y := y) = y.run := (rfl)
@[simp] theorem e_alt2 {g g' : D → D → Option D} {a b : D} : alt2 g g' a b = altO (g a b) (y := ⟨g' a b⟩) := by
  unfold alt2 altO
  cases g a b <;> rfl
@[simp] theorem e_alt1 {g g' : List D → Option D} {a : List D} : alt1 g g' a = altO (g a) (y := ⟨g' a⟩) := by
  unfold alt1 altO
  cases g a <;> rfl
@[simp] theorem py_ins {c : Str} {fs : List (Str × D)} : D.py (.ins c fs) = none := by simp only [D.py]
@[simp] theorem eqv_ins {c : Str} {fs : List (Str × D)} {b : D} : eqvD (.ins c fs) b = none := by
  unfold eqvD
  rw [py_ins]
def eqR (r : FR) : Option D := match r with
  | .ok d _ => some d
  | _ => none
@[simp] theorem eqR_ok {d : D} {m : Option Cont} : eqR (.ok d m) = some d := (rfl)
@[simp] theorem e_eqI {c c1 c2 : Str} {cs : List Str} {m : Fn} {fs gs : List (Str × D)} : eqI c cs m (.ins c1 fs) (.ins c2 gs) = if c1 = c ∧ c2 ∈ cs then eqR (m [.dat (.ins c1 fs), .dat (.ins c2 gs)]) else none := (rfl)
def neR (r : FR) : Option D := match r with
  | .ok (.bl k) _ => some (.bl (!k))
  | _ => none
@[simp] theorem neR_ok {k : Bool} {m : Option Cont} : neR (.ok (.bl k) m) = some (.bl (!k)) := (rfl)
@[simp] theorem e_neI {c c1 c2 : Str} {cs : List Str} {m : Fn} {fs gs : List (Str × D)} : neI c cs m (.ins c1 fs) (.ins c2 gs) = if c1 = c ∧ c2 ∈ cs then neR (m [.dat (.ins c1 fs), .dat (.ins c2 gs)]) else none := (rfl)
@[simp] theorem lenD_ins {c : Str} {fs : List (Str × D)} : lenD [.ins c fs] = none := (rfl)
def lenR (r : FR) : Option D := match r with
  | .ok (.int i) _ => if 0 ≤ i ∧ i < 2 ^ 62 then some (.int i) else none
  | _ => none
@[simp] theorem lenR_nat {n : Nat} {m : Option Cont} : lenR (.ok (.int n) m) = if n < 4611686018427387904 then some (.int n) else none := by
  unfold lenR
  dsimp only
  by_cases h : n < 4611686018427387904
  · rw [if_pos ⟨by omega, by omega⟩, if_pos h]
  · rw [if_neg (by omega), if_neg h]
@[simp] theorem e_lenI {c c' : Str} {m : Fn} {fs : List (Str × D)} : lenI c m [.ins c' fs] = if c' = c then lenR (m [.dat (.ins c fs)]) else none := (rfl)
section
variable {ρ : En} {i j : Nat}
def isC (d : D) (bt : String → Option Bool) (tab : Str → Option Bool) (ρ : En) : R D := match d with
  | .ins c _ => isB (tab c) ρ
  | d => (match d.ty with
    | some t => isB (bt t) ρ
    | none => .stuck)
@[simp] theorem isC_ins {c : Str} {fs : List (Str × D)} {bt : String → Option Bool} {tab : Str → Option Bool} : isC (.ins c fs) bt tab ρ = isB (tab c) ρ := (rfl)
@[simp] theorem isC_emp {bt : String → Option Bool} {tab : Str → Option Bool} : isC .emp bt tab ρ = isB (bt "dict") ρ := (rfl)
@[simp] theorem isC_non {bt : String → Option Bool} {tab : Str → Option Bool} : isC .non bt tab ρ = isB (bt "NoneType") ρ := (rfl)
@[simp] theorem isC_bl {b : Bool} {bt : String → Option Bool} {tab : Str → Option Bool} : isC (.bl b) bt tab ρ = isB (bt "bool") ρ := (rfl)
@[simp] theorem isC_int {b : Int} {bt : String → Option Bool} {tab : Str → Option Bool} : isC (.int b) bt tab ρ = isB (bt "int") ρ := (rfl)
@[simp] theorem isC_str {b : Str} {bt : String → Option Bool} {tab : Str → Option Bool} : isC (.str b) bt tab ρ = isB (bt "str") ρ := (rfl)
@[simp] theorem isC_lst {b : List D} {bt : String → Option Bool} {tab : Str → Option Bool} : isC (.lst b) bt tab ρ = isB (bt "list") ρ := (rfl)
@[simp] theorem isC_slst {b : List D} {bt : String → Option Bool} {tab : Str → Option Bool} : isC (.slst b) bt tab ρ = isB (bt "list") ρ := (rfl)
@[simp] theorem isC_tup {b : List D} {bt : String → Option Bool} {tab : Str → Option Bool} : isC (.tup b) bt tab ρ = isB (bt "tuple") ρ := (rfl)
theorem rawe_isC {bt : String → Option Bool} {tab : Str → Option Bool} {f : F} : fIsiC bt tab f ρ = (f ρ).bind fun d ρ1 => isC d bt tab ρ1 := by
  unfold fIsiC isC isB
  congr 1
@[simp] theorem e_isC {bt : String → Option Bool} {tab : Str → Option Bool} {f : F} : fIsiC bt tab f ρ = bnd (f ρ) (k := ⟨fun d ρ1 => isC d bt tab ρ1⟩) := rawe_isC
def altR (r : R D) [y : Th (R D)] : R D := match r with
  | .stuck => y.run
  | r => r
@[simp] theorem altR_ok {d : D} {y : Th (R D)} : altR (.ok d ρ) (y := y) = .ok d ρ := (rfl)
@[simp] theorem altR_err {c : Str} {fs : List (Str × D)} {y : Th (R D)} : altR (.err c fs ρ) (y := y) = .err c fs ρ := (rfl)
@[simp] theorem altR_st {y : Th (R D)} : altR .stuck (y := y) = y.run := (rfl)
@[simp] theorem e_Alt {f g : F} : fAlt f g ρ = altR (f ρ) (y := ⟨g ρ⟩) := by
  unfold fAlt altR
  cases f ρ <;> rfl
def fldR (d : D) (cs : List Str) (f : Str) (ρ : En) : R D := match d with
  | .ins c fs => if c ∈ cs then R.of (fs.lookup f) ρ else .stuck
  | _ => .stuck
@[simp] theorem fldR_ins {c : Str} {fs : List (Str × D)} {cs : List Str} {f : Str} : fldR (.ins c fs) cs f ρ = if c ∈ cs then R.of (fs.lookup f) ρ else .stuck := (rfl)
@[simp] theorem e_Fld {cs : List Str} {n : Str} {f : F} : fFld cs n f ρ = bnd (f ρ) (k := ⟨fun d ρ1 => fldR d cs n ρ1⟩) := (rfl)
def mkR (r : FR) (c : Str) (ρ : En) : R D := match r with
  | .ok .non (some (.ins c' fs)) => if c' = c then .ok (.ins c fs) ρ else .stuck
  | .err c' fs _ => .err c' fs ρ
  | _ => .stuck
@[simp] theorem mkR_ok {c c' : Str} {fs : List (Str × D)} : mkR (.ok .non (some (.ins c' fs))) c ρ = if c' = c then .ok (.ins c fs) ρ else .stuck := (rfl)
@[simp] theorem mkR_err {c c' : Str} {fs : List (Str × D)} {m : Option Cont} : mkR (.err c' fs m) c ρ = .err c' fs ρ := (rfl)
theorem rawe_Make {c : Str} {n : Nat} {m : Fn} {dv : List D} {f : FL} : fMake c n m dv f ρ = (f ρ).bind fun ds ρ1 => if (ds ++ dv).length + 1 = n then mkR (m (.par 0 (.ins c []) :: (ds ++ dv).map .dat)) c ρ1 else .stuck := by
  unfold fMake
  congr 1
@[simp] theorem e_Make {c : Str} {n : Nat} {m : Fn} {dv : List D} {f : FL} : fMake c n m dv f ρ = bnd (f ρ) (k := ⟨fun ds ρ1 => if (ds ++ dv).length + 1 = n then mkR (m (.par 0 (.ins c []) :: (ds ++ dv).map .dat)) c ρ1 else .stuck⟩) := rawe_Make
def metR (d : D) (c nm : Str) (n : Nat) (m : Fn) (dv : List D) (fl : FL) (ρ1 : En) : R D := match d with
  | .ins c' fs => if c' = c ∧ fs.lookup nm = none then (fl ρ1).bind fun ds ρ2 => if (ds ++ dv).length + 1 = n then callR (m (.dat (.ins c fs) :: (ds ++ dv).map .dat)) ρ2 else .stuck else .stuck
  | _ => .stuck
@[simp] theorem metR_ins {c c' nm : Str} {n : Nat} {m : Fn} {dv : List D} {fl : FL} {fs : List (Str × D)} : metR (.ins c' fs) c nm n m dv fl ρ = if c' = c ∧ fs.lookup nm = none then bnd (fl ρ) (k := ⟨fun ds ρ2 => if (ds ++ dv).length + 1 = n then callR (m (.dat (.ins c fs) :: (ds ++ dv).map .dat)) ρ2 else .stuck⟩) else .stuck := (rfl)
theorem rawe_Meth {c nm : Str} {n : Nat} {m : Fn} {dv : List D} {f : F} {fl : FL} : fMeth c nm n m dv f fl ρ = (f ρ).bind fun d ρ1 => metR d c nm n m dv fl ρ1 := by
  unfold fMeth metR callR
  congr 1
@[simp] theorem e_Meth {c nm : Str} {n : Nat} {m : Fn} {dv : List D} {f : F} {fl : FL} : fMeth c nm n m dv f fl ρ = bnd (f ρ) (k := ⟨fun d ρ1 => metR d c nm n m dv fl ρ1⟩) := rawe_Meth
def proR (d : D) (c : Str) (m : Fn) (ρ : En) : R D := match d with
  | .ins c' fs => if c' = c then (match m [.dat (.ins c fs)] with
    | .ok d2 _ => .ok d2 ρ
    | .okn ds _ => .ok (.lst ds) ρ
    | _ => .stuck) else .stuck
  | _ => .stuck
def proO (r : FR) (ρ : En) : R D := match r with
  | .ok d2 _ => .ok d2 ρ
  | .okn ds _ => .ok (.lst ds) ρ
  | _ => .stuck
@[simp] theorem proO_ok {d : D} {m : Option Cont} : proO (.ok d m) ρ = .ok d ρ := (rfl)
@[simp] theorem proO_okn {d : List D} {m : Option Cont} : proO (.okn d m) ρ = .ok (.lst d) ρ := (rfl)
@[simp] theorem proR_ins {c c' : Str} {m : Fn} {fs : List (Str × D)} : proR (.ins c' fs) c m ρ = if c' = c then proO (m [.dat (.ins c fs)]) ρ else .stuck := (rfl)
@[simp] theorem e_Prop {c : Str} {m : Fn} {f : F} : fProp c m f ρ = bnd (f ρ) (k := ⟨fun d ρ1 => proR d c m ρ1⟩) := (rfl)
def setR (o : Option (Option Slot)) (cs : List Str) (i : Nat) (n : Str) (d : D) (ρ : En) : SR := match o with
  | some (some (.par k (.ins c fs))) => if c ∈ cs ∧ fs.length < 1000 then .nx (ρ.set i (some (.par k (.ins c (putD n d fs))))) else .stuck
  | _ => .stuck
@[simp] theorem setR_ins {cs : List Str} {n c : Str} {d : D} {k : Nat} {fs : List (Str × D)} : setR (some (some (.par k (.ins c fs)))) cs i n d ρ = if c ∈ cs ∧ fs.length < 1000 then .nx (ρ.set i (some (.par k (.ins c (putD n d fs))))) else .stuck := (rfl)
@[simp] theorem s_SetF {cs : List Str} {n : Str} {f : F} : gSetF cs i n f ρ = srk (f ρ) (k := ⟨fun d ρ1 => setR ρ1[i]? cs i n d ρ1⟩) := (rfl)
@[simp] theorem putD_nil {f : Str} {d : D} : putD f d [] = [(f, d)] := (rfl)
@[simp] theorem putD_cons {f g : Str} {d x : D} {r : List (Str × D)} : putD f d ((g, x) :: r) = if g = f then (g, d) :: r else (g, x) :: putD f d r := (rfl)
@[simp] theorem s_Raise0 {c : Str} : gRaise0 c ρ = .err c [] ρ := (rfl)
/-! several excepts -/
def outX0 (r : SR) : SR := match r with
  | .nx ρ2 => if noExc ρ2 = true then .nx ρ2 else .stuck
  | .rt d ρ2 => if noExc ρ2 = true then .rt d ρ2 else .stuck
  | .rtn ds ρ2 => if noExc ρ2 = true then .rtn ds ρ2 else .stuck
  | .bk ρ2 => if noExc ρ2 = true then .bk ρ2 else .stuck
  | .ct ρ2 => if noExc ρ2 = true then .ct ρ2 else .stuck
  | _ => .stuck
@[simp] theorem outX0_nx : outX0 (.nx ρ) = if noExc ρ = true then .nx ρ else .stuck := (rfl)
@[simp] theorem outX0_rt {d : D} : outX0 (.rt d ρ) = if noExc ρ = true then .rt d ρ else .stuck := (rfl)
@[simp] theorem outX0_ct : outX0 (.ct ρ) = if noExc ρ = true then .ct ρ else .stuck := (rfl)
@[simp] theorem e_suite0 {g : G} : suite0 g ρ = if noExc ρ = true then outX0 (g ρ) else .stuck := (rfl)
def hdO (oi : Option Nat) (g : G) (c : Str) (fs : List (Str × D)) (ρ : En) : SR := match oi with
  | some i => suiteAs i g c fs ρ
  | none => suite0 g ρ
@[simp] theorem hdO_some {g : G} {c : Str} {fs : List (Str × D)} : hdO (some i) g c fs ρ = suiteAs i g c fs ρ := (rfl)
@[simp] theorem hdO_none {g : G} {c : Str} {fs : List (Str × D)} : hdO none g c fs ρ = suite0 g ρ := (rfl)
def catK2 (o : Option Bool) [x : Th SR] (y : G) (ρ : En) : SR := match o with
  | some true => x.run
  | some false => y ρ
  | none => .stuck
@[simp] theorem catK2_t {x : Th SR} {y : G} : catK2 (some true) (x := x) y ρ = x.run := (rfl)
@[simp] theorem catK2_f {x : Th SR} {y : G} : catK2 (some false) (x := x) y ρ = y ρ := (rfl)
@[simp] theorem hand_nil {c : Str} {fs : List (Str × D)} : handM c fs [] ρ = .err c fs ρ := (rfl)
@[simp] theorem hand_cons {c : Str} {fs : List (Str × D)} {cat : Str → Option Bool} {oi : Option Nat} {g : G} {r : List ((Str → Option Bool) × Option Nat × G)} : handM c fs ((cat, oi, g) :: r) ρ = catK2 (cat c) (x := ⟨hdO oi g c fs ρ⟩) (handM c fs r) ρ := by
  show (match cat c with
    | some true => (match oi with
      | some i => suiteAs i g c fs ρ
      | none => suite0 g ρ)
    | some false => handM c fs r ρ
    | none => .stuck) = _
  unfold catK2 hdO
  cases cat c with
  | none => rfl
  | some b => cases b <;> rfl
def SR.tryM (r : SR) (hs : List ((Str → Option Bool) × Option Nat × G)) : SR := match r with
  | .err c fs ρ1 => handM c fs hs ρ1
  | r => r
@[simp] theorem s_TryM {h : G} {hs : List ((Str → Option Bool) × Option Nat × G)} : gTryM h hs ρ = (h ρ).tryM hs := by
  unfold gTryM SR.tryM
  cases h ρ <;> rfl
@[simp] theorem tryM_nx {hs : List ((Str → Option Bool) × Option Nat × G)} : (SR.nx ρ).tryM hs = .nx ρ := (rfl)
@[simp] theorem tryM_rt {d : D} {hs : List ((Str → Option Bool) × Option Nat × G)} : (SR.rt d ρ).tryM hs = .rt d ρ := (rfl)
@[simp] theorem tryM_err {c : Str} {fs : List (Str × D)} {hs : List ((Str → Option Bool) × Option Nat × G)} : (SR.err c fs ρ).tryM hs = handM c fs hs ρ := (rfl)
/-! new lists -/
@[simp] theorem e_Rev {f : F} : fRev f ρ = bnd (f ρ) (k := ⟨fun d ρ1 => R.of ((lstOf d).map List.reverse) ρ1⟩) := (rfl)
@[simp] theorem lstOf_l {xs : List D} : lstOf (.lst xs) = some xs := (rfl)
@[simp] theorem lstOf_s {xs : List D} : lstOf (.slst xs) = some xs := (rfl)
@[simp] theorem lstOf_t {xs : List D} : lstOf (.tup xs) = none := (rfl)
def revT (d : D) (ρ : En) : R D := match d with
  | .tup ds => .ok (.tup ds.reverse) ρ
  | _ => .stuck
@[simp] theorem revT_t {xs : List D} : revT (.tup xs) ρ = .ok (.tup xs.reverse) ρ := (rfl)
@[simp] theorem revT_l {xs : List D} : revT (.lst xs) ρ = .stuck := (rfl)
@[simp] theorem revT_s {xs : List D} : revT (.slst xs) ρ = .stuck := (rfl)
theorem rawe_RevT {f : F} : fRevT f ρ = (f ρ).bind fun d ρ1 => revT d ρ1 := by
  unfold fRevT revT
  congr 1
@[simp] theorem e_RevT {f : F} : fRevT f ρ = bnd (f ρ) (k := ⟨fun d ρ1 => revT d ρ1⟩) := rawe_RevT
def optI (d : D) (ρ : En) : R (Option Int) := match d with
  | .int i => .ok (some i) ρ
  | _ => .stuck
@[simp] theorem optI_int {i : Int} : optI (.int i) ρ = .ok (some i) ρ := (rfl)
theorem rawe_oSome {f : F} : oSome f ρ = (f ρ).bind fun d ρ1 => optI d ρ1 := by
  unfold oSome optI
  congr 1
@[simp] theorem e_oSome {f : F} : oSome f ρ = bnd (f ρ) (k := ⟨fun d ρ1 => optI d ρ1⟩) := rawe_oSome
@[simp] theorem e_oNone : oNone ρ = .ok none ρ := (rfl)
@[simp] theorem e_Sl {f : F} {fl fh : En → R (Option Int)} : fSl f fl fh ρ = bnd (f ρ) (k := ⟨fun d ρ1 => bnd (fl ρ1) (k := ⟨fun lo ρ2 => bnd (fh ρ2) (k := ⟨fun hi ρ3 => R.of (slD d lo hi) ρ3⟩)⟩)⟩) := (rfl)
@[simp] theorem slD_t {ds : List D} {lo hi : Option Int} : slD (.tup ds) lo hi = some (.tup (cutD ds lo hi)) := (rfl)
@[simp] theorem slD_l {ds : List D} {lo hi : Option Int} : slD (.lst ds) lo hi = some (.lst (cutD ds lo hi)) := (rfl)
@[simp] theorem slD_s {ds : List D} {lo hi : Option Int} : slD (.slst ds) lo hi = some (.lst (cutD ds lo hi)) := (rfl)
@[simp] theorem s_Own2 {f g : FL} : gOwn2 i j f g ρ = srk (f ρ) (k := ⟨fun xs ρ1 => srk (g ρ1) (k := ⟨fun ys ρ2 => .nx ((ρ2.set i (some (.own xs))).set j (some (.own ys)))⟩)⟩) := (rfl)
@[simp] theorem gcdD_int {a b : Int} : gcdD [.int a, .int b] = some (.int ((Nat.gcd a.natAbs b.natAbs : Nat) : Int)) := (rfl)
@[simp] theorem absD_int {a : Int} : absD [.int a] = some (.int (if a < 0 then -a else a)) := (rfl)
@[simp] theorem lk_cons {k k' : Str} {v : D} {l : List (Str × D)} : List.lookup k ((k', v) :: l) = if k = k' then some v else List.lookup k l := by
  by_cases h : k = k'
  · subst h
    rw [lk_hit, if_pos rfl]
  · rw [lk_miss (by simpa using h), if_neg h]
end
@[simp] theorem nat_lt0 {n : Nat} : ((n : Int) < 0) ↔ False := ⟨fun h => by omega, False.elim⟩
@[simp] theorem isN_bl {b : Bool} : isN (.bl b) .non = some (.bl false) := (rfl)
@[simp] theorem notN_bl {b : Bool} : notN (.bl b) .non = some (.bl true) := (rfl)
@[simp] theorem isN_str {b : Str} : isN (.str b) .non = some (.bl false) := (rfl)
@[simp] theorem notN_str {b : Str} : notN (.str b) .non = some (.bl true) := (rfl)
@[simp] theorem isN_lst {b : List D} : isN (.lst b) .non = some (.bl false) := (rfl)
@[simp] theorem notN_lst {b : List D} : notN (.lst b) .non = some (.bl true) := (rfl)
@[simp] theorem isN_slst {b : List D} : isN (.slst b) .non = some (.bl false) := (rfl)
@[simp] theorem notN_slst {b : List D} : notN (.slst b) .non = some (.bl true) := (rfl)
@[simp] theorem isN_tup {b : List D} : isN (.tup b) .non = some (.bl false) := (rfl)
@[simp] theorem notN_tup {b : List D} : notN (.tup b) .non = some (.bl true) := (rfl)
@[simp] theorem isN_ins {c : Str} {fs : List (Str × D)} : isN (.ins c fs) .non = some (.bl false) := (rfl)
@[simp] theorem notN_ins {c : Str} {fs : List (Str × D)} : notN (.ins c fs) .non = some (.bl true) := (rfl)
@[simp] theorem notN_int {b : Int} : notN (.int b) .non = some (.bl true) := (rfl)
@[simp] theorem notN_non : notN .non .non = some (.bl false) := (rfl)
end DL

set_option Elab.async false
set_option linter.all false
set_option maxRecDepth 100000
set_option autoImplicit false
/-! PX: rows for simp: calls that change several lists. -/
namespace DL
open PySem PySem.Spec PyProof.Rows L2
section
variable {ρ : En} {i j : Nat}
def conO (o : Option (Option Slot)) : Option Cont := match o with
  | some (some (.own ds)) => some (.lst ds)
  | some (some (.par _ c)) => some c
  | _ => none
@[simp] theorem e_slotCont : slotCont ρ i = conO ρ[i]? := (rfl)
@[simp] theorem conO_own {ds : List D} : conO (some (some (.own ds))) = some (.lst ds) := (rfl)
@[simp] theorem conO_par {k : Nat} {c : Cont} : conO (some (some (.par k c))) = some c := (rfl)
def tsO (o : Option Cont) (i k : Nat) (r : Option (List Slot × List Nat)) : Option (List Slot × List Nat) := match o with
  | some c => r.map fun p => (.par k c :: p.1, i :: p.2)
  | none => none
@[simp] theorem tsO_some {c : Cont} {k : Nat} {ss : List Slot} {is : List Nat} : tsO (some c) i k (some (ss, is)) = some (.par k c :: ss, i :: is) := (rfl)
@[simp] theorem ts_nil {k : Nat} : toSlots ρ k [] = some ([], []) := by rw [toSlots]
def tsD (d : D) (r : Option (List Slot × List Nat)) : Option (List Slot × List Nat) := r.map fun p => (.dat d :: p.1, p.2)
@[simp] theorem tsD_some {d : D} {ss : List Slot} {is : List Nat} : tsD d (some (ss, is)) = some (.dat d :: ss, is) := (rfl)
@[simp] theorem ts_dat {k : Nat} {d : D} {as : List Ag} : toSlots ρ k (.dat d :: as) = tsD d (toSlots ρ k as) := by
  rw [toSlots]
  rfl
@[simp] theorem ts_own {k : Nat} {as : List Ag} : toSlots ρ k (.own i :: as) = tsO (slotCont ρ i) i k (toSlots ρ (k + 1) as) := by
  rw [toSlots]
  unfold tsO
  cases slotCont ρ i <;> rfl
def putC (o : Option (Option Slot)) (i : Nat) (c : Cont) (ρ : En) : Option En := match o, c with
  | some (some (.own _)), .lst ds => some (ρ.set i (some (.own ds)))
  | some (some (.par k (.lst _))), .lst ds => some (ρ.set i (some (.par k (.lst ds))))
  | some (some (.par k (.ins _ _))), .ins c fs => some (ρ.set i (some (.par k (.ins c fs))))
  | _, _ => none
@[simp] theorem e_putC {c : Cont} : slotPutC ρ i c = putC ρ[i]? i c ρ := (rfl)
@[simp] theorem putC_own {ds es : List D} : putC (some (some (.own es))) i (.lst ds) ρ = some (ρ.set i (some (.own ds))) := (rfl)
@[simp] theorem putC_par {k : Nat} {ds es : List D} : putC (some (some (.par k (.lst es)))) i (.lst ds) ρ = some (ρ.set i (some (.par k (.lst ds)))) := (rfl)
def paO (o : Option En) (is : List Nat) (cs : List Cont) : Option En := match o with
  | some ρ1 => putAll ρ1 is cs
  | none => none
@[simp] theorem paO_some {is : List Nat} {cs : List Cont} : paO (some ρ) is cs = putAll ρ is cs := (rfl)
@[simp] theorem pa_nil {cs : List Cont} : putAll ρ [] cs = some ρ := by rw [putAll]
@[simp] theorem pa_cons {c : Cont} {is : List Nat} {cs : List Cont} : putAll ρ (i :: is) (c :: cs) = paO (slotPutC ρ i c) is cs := by
  rw [putAll]
  unfold paO
  cases slotPutC ρ i c <;> rfl
def cmA (r : FM) (is : List Nat) (ρ : En) : R D := match r with
  | .ok d ms => okO (putAll ρ is ms) d
  | .okn ds ms => okO (putAll ρ is ms) (.lst ds)
  | .err c fs ms => (match putAll ρ is ms with
    | some ρ2 => .err c fs ρ2
    | none => .stuck)
  | .stuck => .stuck
@[simp] theorem cmA_ok {d : D} {ms : List Cont} {is : List Nat} : cmA (.ok d ms) is ρ = okO (putAll ρ is ms) d := (rfl)
@[simp] theorem cmA_okn {d : List D} {ms : List Cont} {is : List Nat} : cmA (.okn d ms) is ρ = okO (putAll ρ is ms) (.lst d) := (rfl)
def cpO (o : Option (List Slot × List Nat)) (l n : Nat) (m : FnM) (ρ : En) : R D := match o with
  | none => .stuck
  | some (ss, is) => if l = n ∧ distinct is = true then cmA (m ss) is ρ else .stuck
@[simp] theorem cpO_some {ss : List Slot} {is : List Nat} {l n : Nat} {m : FnM} : cpO (some (ss, is)) l n m ρ = if l = n ∧ distinct is = true then cmA (m ss) is ρ else .stuck := (rfl)
@[simp] theorem dist_nil : distinct [] = true := (rfl)
@[simp] theorem dist_cons {is : List Nat} : distinct (i :: is) = (!(is.contains i) && distinct is) := (rfl)
theorem rawe_callP {n : Nat} {m : FnM} {f : FA} : fCallP n m f ρ = (f ρ).bind fun as ρ1 => cpO (toSlots ρ1 0 as) as.length n m ρ1 := by
  unfold fCallP cpO cmA okO
  congr 1
@[simp] theorem e_callP {n : Nat} {m : FnM} {f : FA} : fCallP n m f ρ = bnd (f ρ) (k := ⟨fun as ρ1 => cpO (toSlots ρ1 0 as) as.length n m ρ1⟩) := rawe_callP
@[simp] theorem e_aNil : aNil ρ = .ok [] ρ := (rfl)
@[simp] theorem e_aDat {a : F} {b : FA} : aDat a b ρ = bnd (a ρ) (k := ⟨fun x ρ1 => bnd (b ρ1) (k := ⟨fun xs ρ2 => .ok (.dat x :: xs) ρ2⟩)⟩) := (rfl)
def owR (o : Option (Option Slot)) [y : Th (R (List Ag))] : R (List Ag) := match o with
  | some (some s) => if s.mu = true then y.run else .stuck
  | _ => .stuck
@[simp] theorem owR_own {ds : List D} {y : Th (R (List Ag))} : owR (some (some (.own ds))) (y := y) = y.run := (rfl)
@[simp] theorem owR_par {k : Nat} {c : Cont} {y : Th (R (List Ag))} : owR (some (some (.par k c))) (y := y) = y.run := (rfl)
@[simp] theorem e_aOwn {b : FA} : aOwn i b ρ = owR ρ[i]? (y := ⟨bnd (b ρ) (k := ⟨fun xs ρ2 => .ok (.own i :: xs) ρ2⟩)⟩) := (rfl)
/-! a def that changes several parameters -/
def ouM (o : Option (List Cont)) (k : List Cont → FM) : FM := match o with
  | some ms => k ms
  | none => .stuck
@[simp] theorem ouM_some {ms : List Cont} {k : List Cont → FM} : ouM (some ms) k = k ms := (rfl)
def ouT (r : SR) (qs : List Nat) : FM := match r with
  | .nx ρ => ouM (conts 0 qs ρ) (.ok .non)
  | .rt d ρ => ouM (conts 0 qs ρ) (.ok d)
  | .rtn ds ρ => ouM (conts 0 qs ρ) (.okn ds)
  | .err c fs ρ => ouM (conts 0 qs ρ) (.err c fs)
  | _ => .stuck
@[simp] theorem ouT_nx {qs : List Nat} : ouT (.nx ρ) qs = ouM (conts 0 qs ρ) (.ok .non) := (rfl)
@[simp] theorem ouT_rt {qs : List Nat} {d : D} : ouT (.rt d ρ) qs = ouM (conts 0 qs ρ) (.ok d) := (rfl)
@[simp] theorem ouT_rtn {qs : List Nat} {ds : List D} : ouT (.rtn ds ρ) qs = ouM (conts 0 qs ρ) (.okn ds) := (rfl)
@[simp] theorem ouT_err {qs : List Nat} {c : Str} {fs : List (Str × D)} : ouT (.err c fs ρ) qs = ouM (conts 0 qs ρ) (.err c fs) := (rfl)
theorem mkM_out {g : G} {nl : Nat} {qs : List Nat} {ss : List Slot} (h : fewPars qs.length ss = true) : mkM g nl qs ss = ouT (g (ss.map some ++ List.replicate nl none)) qs := by
  unfold mkM
  rw [if_pos h]
  generalize g (ss.map some ++ List.replicate nl none) = r
  cases r <;> first | rfl | (rename_i ρ; unfold ouT ouM; dsimp only; cases conts 0 qs ρ <;> rfl)
def cnO (o : Option (Option Slot)) (k : Nat) (r : Option (List Cont)) : Option (List Cont) := match o with
  | some (some (.par k' c)) => if k' = k then r.map (c :: ·) else none
  | _ => none
@[simp] theorem cnO_par {k k' : Nat} {c : Cont} {ms : List Cont} : cnO (some (some (.par k' c))) k (some ms) = if k' = k then some (c :: ms) else none := (rfl)
@[simp] theorem cn_nil {k : Nat} : conts k [] ρ = some [] := by rw [conts]
@[simp] theorem cn_cons {k q : Nat} {qs : List Nat} : conts k (q :: qs) ρ = cnO ρ[q]? k (conts (k + 1) qs ρ) := by
  rw [conts]
  unfold cnO
  rcases ρ[q]? with _ | _ | s
  · rfl
  · rfl
  · cases s <;> rfl
end
end DL

set_option Elab.async false
set_option linter.all false
set_option maxRecDepth 100000
set_option autoImplicit false
/-! PQ: ratios as rational numbers, with bounds of bits. -/
namespace DL
open PySem PySem.Spec PyProof.Rows L2

/-- the tuple of a rational number -/
def rD (q : Rat) : D := .tup [.int q.num, .int q.den]
def rT (qs : List Rat) : D := .tup (qs.map rD)
/-- numerator and denominator below 2 ^ n -/
def Bd (n : Nat) (q : Rat) : Prop := q.num.natAbs < 2 ^ n ∧ q.den < 2 ^ n
theorem Bd.mono {m n : Nat} {q : Rat} (h : Bd m q) (hm : m ≤ n) : Bd n q :=
  ⟨Nat.lt_of_lt_of_le h.1 (Nat.pow_le_pow_right (by decide) hm), Nat.lt_of_lt_of_le h.2 (Nat.pow_le_pow_right (by decide) hm)⟩
theorem mk_num (a : Int) {b : Nat} (h : b ≠ 0) : (mkRat a b).num = a / (Nat.gcd a.natAbs b : Nat) := by
  rw [← Rat.normalize_eq_mkRat h, Rat.normalize_eq]
theorem mk_den (a : Int) {b : Nat} (h : b ≠ 0) : (mkRat a b).den = b / Nat.gcd a.natAbs b := by
  rw [← Rat.normalize_eq_mkRat h, Rat.normalize_eq]
theorem bd_mk {n : Nat} {a : Int} {b : Nat} (hb : b ≠ 0) (h : a.natAbs < 2 ^ n) (h2 : b < 2 ^ n) : Bd n (mkRat a b) := by
  refine ⟨?_, ?_⟩
  · rw [mk_num a hb, Int.natAbs_ediv_of_dvd (Int.ofNat_dvd_left.mpr (Nat.gcd_dvd_left _ _))]
    exact Nat.lt_of_le_of_lt (Nat.div_le_self _ _) h
  · rw [mk_den a hb]
    exact Nat.lt_of_le_of_lt (Nat.div_le_self _ _) h2
theorem natAbs_mul_lt {i j : Int} {m n : Nat} (h : i.natAbs < 2 ^ m) (h2 : j.natAbs < 2 ^ n) : (i * j).natAbs < 2 ^ (m + n) := by
  rw [Int.natAbs_mul, Nat.pow_add]
  exact Nat.mul_lt_mul'' h h2
theorem Bd.mul {m n : Nat} {p q : Rat} (h : Bd m p) (h2 : Bd n q) : Bd (m + n) (p * q) := by
  rw [Rat.mul_def']
  exact bd_mk (Nat.mul_ne_zero p.den_nz q.den_nz) (natAbs_mul_lt h.1 h2.1) (by rw [Nat.pow_add]; exact Nat.mul_lt_mul'' h.2 h2.2)
theorem den_abs (p : Rat) : ((p.den : Nat) : Int).natAbs = p.den := rfl
theorem Bd.add {m n : Nat} {p q : Rat} (h : Bd m p) (h2 : Bd n q) : Bd (m + n + 1) (p + q) := by
  rw [Rat.add_def']
  refine bd_mk (Nat.mul_ne_zero p.den_nz q.den_nz) ?_ ?_
  · have a := natAbs_mul_lt h.1 (show ((q.den : Nat) : Int).natAbs < 2 ^ n from h2.2)
    have b := natAbs_mul_lt h2.1 (show ((p.den : Nat) : Int).natAbs < 2 ^ m from h.2)
    rw [Nat.add_comm n m] at b
    have := Int.natAbs_add_le (p.num * q.den) (q.num * p.den)
    rw [Nat.pow_succ]
    omega
  · have := Nat.mul_lt_mul'' h.2 h2.2
    rw [← Nat.pow_add] at this
    rw [Nat.pow_succ]
    omega
theorem Bd.neg {m : Nat} {p : Rat} (h : Bd m p) : Bd m (-p) := by
  unfold Bd
  rw [Rat.neg_num, Rat.neg_den, Int.natAbs_neg]
  exact h
theorem Bd.sub {m n : Nat} {p q : Rat} (h : Bd m p) (h2 : Bd n q) : Bd (m + n + 1) (p - q) := by
  rw [Rat.sub_eq_add_neg]
  exact h.add h2.neg
theorem bd_int {n : Nat} {i : Int} (h : i.natAbs < 2 ^ n) (hn : 0 < n) : Bd n (i : Rat) := by
  unfold Bd
  rw [Rat.num_intCast, Rat.den_intCast]
  exact ⟨h, Nat.one_lt_two_pow (by omega)⟩
theorem bd_div {n : Nat} {a : Int} {b : Nat} (hb : b ≠ 0) (h : a.natAbs < 2 ^ n) (h2 : b < 2 ^ n) : Bd n (mkRat a b) := bd_mk hb h h2
/-! products and parts of numbers with bounds -/
theorem mulD_b {i j : Int} {m n : Nat} (h : i.natAbs < 2 ^ m) (h2 : j.natAbs < 2 ^ n) (hm : m ≤ 60000000) (hn : n ≤ 60000000) : mulD (.int i) (.int j) = some (.int (i * j)) :=
  mulD_int (Nat.le_trans (sm_bits h) hm) (Nat.le_trans (sm_bits h2) hn)
theorem fdvI_b {i j : Int} {n : Nat} (h : 0 < j) (h2 : j.natAbs < 2 ^ n) (hn : n ≤ 9000) : fdvI (.int i) (.int j) = some (.int (i / j)) := by
  show (if (decide (0 < j) && decide (j.natAbs.log2 < 9000)) = true then some (D.int (i / j)) else none) = _
  have : j.natAbs.log2 < n := (Nat.log2_lt (by omega)).mpr h2
  rw [decide_eq_true h, decide_eq_true (by omega : j.natAbs.log2 < 9000)]
  rfl
/-- a // common, b // common: the ratio -/
theorem low_ok {a : Int} {b n : Nat} (hb : b ≠ 0) (h : b < 2 ^ n) (hn : n ≤ 9000) :
    fdvI (.int a) (.int ((Nat.gcd a.natAbs b : Nat) : Int)) = some (.int (mkRat a b).num) ∧ fdvI (.int (b : Int)) (.int ((Nat.gcd a.natAbs b : Nat) : Int)) = some (.int ((mkRat a b).den : Nat)) := by
  have h0 : 0 < Nat.gcd a.natAbs b := Nat.gcd_pos_of_pos_right _ (Nat.pos_of_ne_zero hb)
  have h1 : ((Nat.gcd a.natAbs b : Nat) : Int).natAbs < 2 ^ n := Nat.lt_of_le_of_lt (Nat.gcd_le_right _ (Nat.pos_of_ne_zero hb)) h
  rw [fdvI_b (n := n) (by omega) h1 hn, fdvI_b (n := n) (by omega) h1 hn, mk_num a hb, mk_den a hb]
  exact ⟨rfl, rfl⟩
/-- the loop of the greatest common divisor -/
theorem gcd_while {cf : FB} {body : G} (hc : ∀ a b : Nat, cf [some (.dat (.int (a : Int))), some (.dat (.int (b : Int)))] = .ok (decide (b ≠ 0)) [some (.dat (.int (a : Int))), some (.dat (.int (b : Int)))])
    (hb : ∀ a b : Nat, b ≠ 0 → body [some (.dat (.int (a : Int))), some (.dat (.int (b : Int)))] = .nx [some (.dat (.int (b : Int))), some (.dat (.int ((a % b : Nat) : Int)))]) :
    ∀ (n a b : Nat), b < n → whileN cf body n [some (.dat (.int (a : Int))), some (.dat (.int (b : Int)))] = .nx [some (.dat (.int ((Nat.gcd a b : Nat) : Int))), some (.dat (.int 0))] := by
  intro n
  induction n with
  | zero => intro a b h; omega
  | succ n ih =>
    intro a b h
    rw [whileN, hc, sr_ok]
    by_cases e : b = 0
    · subst e
      rw [decide_eq_false (by simp), if_neg Bool.false_ne_true, Nat.gcd_zero_right]
      rfl
    · rw [decide_eq_true e, if_pos rfl, hb a b e]
      dsimp only
      have := Nat.mod_lt a (Nat.pos_of_ne_zero e)
      rw [ih b (a % b) (by omega), Nat.gcd_comm b, ← Nat.gcd_rec, Nat.gcd_comm]
@[simp] theorem fuel_cons {s : Slot} {ρ : En} : fuel (some s :: ρ) = (match s with
  | .dat d => size1 d + 2
  | .own ds => ds.length + 2
  | _ => 2) + fuel ρ := by
  unfold fuel
  rw [List.map_cons, List.sum_cons]
  cases s <;> rfl
@[simp] theorem fuel_none {ρ : En} : fuel (none :: ρ) = 2 + fuel ρ := by
  unfold fuel
  rw [List.map_cons, List.sum_cons]
@[simp] theorem fuel_nil : fuel [] = 0 := (rfl)
theorem s_While {c : FB} {g : G} {n : En → Nat} {ρ : En} : gWhile c g n ρ = whileN c g (n ρ) ρ := (rfl)
/-! ratios as data -/
@[simp] theorem ixD_rD0 {q : Rat} : ixD (rD q) (.int 0) = some (.int q.num) := by
  unfold rD
  rw [ixD_t, atI_0]
  rfl
@[simp] theorem ixD_rD1 {q : Rat} : ixD (rD q) (.int 1) = some (.int (q.den : Nat)) := by
  unfold rD
  rw [ixD_t, atI_1]
  rfl
@[simp] theorem good_rD {n : Nat} {q : Rat} : good (n + 1) (rD q) = true := by
  unfold rD
  simp
@[simp] theorem good_rT {n : Nat} {qs : List Rat} : good (n + 2) (rT qs) = true := by
  unfold rT
  simp
theorem rD_inj {p q : Rat} : rD p = rD q ↔ p = q := by
  unfold rD
  refine ⟨fun h => ?_, fun h => h ▸ rfl⟩
  injection h with h
  injection h with h1 h2
  injection h2 with h2 _
  injection h1 with h1
  injection h2 with h2
  exact Rat.ext h1 (by omega)
@[simp] theorem eqF_rD {p q : Rat} : eqF (rD p) (rD q) = decide (p = q) := by
  unfold rD
  simp
  by_cases h : p = q
  · subst h; simp
  · simp only [h, decide_false, Bool.and_eq_false_iff, decide_eq_false_iff_not]
    by_cases h1 : p.num = q.num
    · exact .inr fun h2 => h (Rat.ext h1 (by omega))
    · exact .inl h1
@[simp] theorem eqFL_rs {ps qs : List Rat} : eqFL (ps.map rD) (qs.map rD) = decide (ps = qs) := by
  induction ps generalizing qs with
  | nil => cases qs <;> simp
  | cons p ps ih =>
    cases qs with
    | nil => simp
    | cons q qs => simp [ih]
@[simp] theorem eqF_rT {ps qs : List Rat} : eqF (rT ps) (rT qs) = decide (ps = qs) := by
  unfold rT
  simp
@[simp] theorem rD_ty {q : Rat} : (rD q).ty = some "tuple" := (rfl)
@[simp] theorem seqOf_rT {qs : List Rat} : seqOf (rT qs) = some (qs.map rD) := (rfl)
@[simp] theorem items_rT {qs : List Rat} : items (rT qs) = some (qs.map rD) := (rfl)
@[simp] theorem lenD_rT {qs : List Rat} : lenD [rT qs] = some (.int qs.length) := by
  unfold rT
  rw [lenD_t, List.length_map]
@[simp] theorem lenD_rD {q : Rat} : lenD [rD q] = some (.int 2) := (rfl)
@[simp] theorem tupleD_rT {qs : List Rat} : tupleD [rT qs] = some (rT qs) := (rfl)
theorem ixD_rT {qs : List Rat} {i : Int} (h0 : 0 ≤ i) (h : i < qs.length) : ixD (rT qs) (.int i) = some (rD (qs[i.toNat]'(by omega))) := by
  unfold rT
  rw [ixD_t, atI_int h0 (by simpa using h), List.getElem?_map, List.getElem?_eq_getElem (by omega)]
  rfl
def noInt : D → Bool
  | .int _ => false
  | .ins _ _ => false
  | _ => true
theorem no_int {d : D} {k : Nat} (h : good k d = true) : (∃ i, d = .int i) ∨ noInt d = true := by
  cases d <;> first | exact .inl ⟨_, rfl⟩ | exact .inr rfl | (simp [good] at h)
/-- a ratio in lowest terms -/
def ratB : D → Bool
  | .tup [.int a, .int b] => decide (0 < b) && decide (Nat.gcd a.natAbs b.natAbs = 1)
  | _ => false
theorem ratB_rD {d : D} (h : ratB d = true) : ∃ q, d = rD q := by
  unfold ratB at h
  split at h
  · rename_i a b
    simp at h
    obtain ⟨h1, h2⟩ := h
    refine ⟨⟨a, b.natAbs, by omega, h2⟩, ?_⟩
    unfold rD
    congr 3
    show D.int b = D.int ((b.natAbs : Nat) : Int)
    congr 1
    omega
  · cases h
@[simp] theorem ratB_r {q : Rat} : ratB (rD q) = true := by
  unfold rD ratB
  have := q.den_pos
  have := q.reduced
  unfold Nat.Coprime at this
  simp
  omega
/-- a ratio above 0 -/
def posB (d : D) : Bool := ratB d && (match d with
  | .tup (.int a :: _) => decide (0 < a)
  | _ => false)
theorem mk_lt {p q : Rat} : (p.num * q.den < q.num * p.den) ↔ p < q := (Rat.lt_iff p q).symm
theorem mk_pos {p : Rat} : 0 < p.num ↔ 0 < p := by
  have := Rat.lt_iff 0 p
  simp at this
  exact this.symm
@[simp] theorem posB_r {q : Rat} : posB (rD q) = decide (0 < q) := by
  unfold posB
  rw [ratB_r]
  unfold rD
  simp [mk_pos]
/-- the ratio that data tells -/
def ratV : D → Rat
  | .tup [.int a, .int b] => mkRat a b.toNat
  | _ => 0
@[simp] theorem ratV_r {q : Rat} : ratV (rD q) = q := by
  unfold rD ratV
  show mkRat q.num ((q.den : Nat) : Int).toNat = q
  rw [Int.toNat_natCast, Rat.mkRat_self]
theorem rD_ratV {d : D} (h : ratB d = true) : rD (ratV d) = d := by
  obtain ⟨q, rfl⟩ := ratB_rD h
  rw [ratV_r]
theorem tupleD_seq {d : D} {xs : List D} (h : seqOf d = some xs) : tupleD [d] = some (.tup xs) := by
  cases d <;> cases h <;> rfl
theorem lenD_seq {d : D} {xs : List D} (h : seqOf d = some xs) : lenD [d] = some (.int xs.length) := by
  cases d <;> cases h <;> rfl
theorem items_seq {d : D} {xs : List D} (h : seqOf d = some xs) : items d = some xs := by
  cases d <;> cases h <;> rfl
/-- an item of a list (none beyond it) -/
def nth (xs : List D) (k : Nat) : D := xs.getD k .non
theorem nth_at {xs : List D} {k : Nat} (h : k < xs.length) : nth xs k = xs[k] := by
  unfold nth
  rw [List.getD_eq_getElem?_getD, List.getElem?_eq_getElem h]
  rfl
theorem nth_mem {xs : List D} {k : Nat} (h : k < xs.length) : nth xs k ∈ xs := by
  rw [nth_at h]
  exact List.getElem_mem h
theorem ixD_nat {d : D} {xs : List D} {k : Nat} (h : seqOf d = some xs) (hk : k < xs.length) : ixD d (.int (k : Int)) = some (nth xs k) := by
  refine ixD_seq h ?_
  rw [atI_nat hk, List.getElem?_eq_getElem hk, nth_at hk]
/-! two rows of a line: the first fault -/
def fltL (xs ys : List D) (k : Nat) : Option Str :=
  if posB (nth xs k) = false then some "length" else if ratB (nth ys k) = false then some "mark" else if k ≠ 0 ∧ ¬ ratV (nth ys (k - 1)) < ratV (nth ys k) then some "rising" else none
def dueN (xs ys : List D) : Nat → Nat → Option (Nat × Str)
  | 0, _ => none
  | n + 1, k => match fltL xs ys k with
    | some w => some (k, w)
    | none => dueN xs ys n (k + 1)
def dueR (xs ys : List D) : Option (Nat × Str) := if 1 ≤ xs.length ∧ xs.length ≤ 24 ∧ xs.length = ys.length then dueN xs ys xs.length 0 else some (0, "many")
def dueD : Option (Nat × Str) → D
  | none => .non
  | some (i, w) => .lst [.int (i : Int), .str w]
theorem dueN_none {xs ys : List D} : ∀ (n k : Nat), (∀ j, k ≤ j → j < k + n → fltL xs ys j = none) → dueN xs ys n k = none
  | 0, _, _ => rfl
  | n + 1, k, h => by
    rw [dueN, h k (by omega) (by omega)]
    exact dueN_none n (k + 1) fun j h1 h2 => h j (by omega) (by omega)
theorem enumF_drop {xs : List D} {k : Nat} (h : k < xs.length) : enumF k (xs.drop k) = .tup [.int (k : Int), nth xs k] :: enumF (k + 1) (xs.drop (k + 1)) := by
  rw [List.drop_eq_getElem_cons h, enumF, nth_at h]
theorem good_getD {xs : List D} {n k : Nat} (h : goodL n xs = true) : good n (nth xs k) = true := by
  by_cases hk : k < xs.length
  · induction xs generalizing k with
    | nil => simp at hk
    | cons x xs ih =>
      simp at h
      cases k with
      | zero => exact h.1
      | succ k => exact ih h.2 (by simpa using hk)
  · unfold nth
    rw [List.getD_eq_getElem?_getD, List.getElem?_eq_none (by omega)]
    simp
@[simp] theorem nth_map {α : Type} {f : α → D} {xs : List α} {k : Nat} (h : k < xs.length) : nth (xs.map f) k = f (xs[k]'h) := by
  rw [nth_at (by simpa using h), List.getElem_map]
/-- a line: lengths above 0, marks rising -/
structure LnOk (ls ms : List Rat) (n : Nat) : Prop where
  l1 : ls.length = n
  l2 : ms.length = n
  n1 : 1 ≤ n
  n2 : n ≤ 24
  pos : ∀ l ∈ ls, 0 < l
  up : ms.Pairwise (· < ·)
theorem flt_none {ls ms : List Rat} (hl : ls.length = ms.length) (pos : ∀ l ∈ ls, 0 < l) (up : ms.Pairwise (· < ·)) {k : Nat} (hk : k < ls.length) : fltL (ls.map rD) (ms.map rD) k = none := by
  unfold fltL
  have h1 : k < ms.length := by omega
  rw [nth_map hk, nth_map h1, if_neg (by simp [pos _ (List.getElem_mem hk)]), if_neg (by simp), if_neg]
  intro h
  obtain ⟨h0, h⟩ := h
  rw [nth_map (by omega : k - 1 < ms.length), ratV_r, ratV_r] at h
  exact h (List.pairwise_iff_getElem.mp up (k - 1) k (by omega) h1 (by omega))
theorem LnOk.due {ls ms : List Rat} {n : Nat} (h : LnOk ls ms n) : dueR (ls.map rD) (ms.map rD) = none := by
  unfold dueR
  have := h.l1
  have := h.l2
  have := h.n1
  have := h.n2
  rw [if_pos ⟨by simp; omega, by simp; omega, by simp; omega⟩]
  refine dueN_none _ _ fun j _ hj => flt_none (by omega) h.pos h.up (by simpa using hj)
/-- the line as data -/
def lnD (ls ms : List Rat) : D := .ins "Line" [("lengths", rT ls), ("marks", rT ms)]
def rws (ls ms : List Rat) : D := .tup [rT ls, rT ms]
@[simp] theorem good_rws {n : Nat} {ls ms : List Rat} : good (n + 3) (rws ls ms) = true := by
  unfold rws
  simp
@[simp] theorem ixD_rws0 {ls ms : List Rat} : ixD (rws ls ms) (.int 0) = some (rT ls) := by
  unfold rws
  rw [ixD_t, atI_0]
  rfl
@[simp] theorem ixD_rws1 {ls ms : List Rat} : ixD (rws ls ms) (.int 1) = some (rT ms) := by
  unfold rws
  rw [ixD_t, atI_1]
  rfl
theorem goodL_rs {n : Nat} {qs : List Rat} : goodL (n + 1) (qs.map rD) = true := by
  rw [goodL_map, List.all_eq_true]
  exact fun q _ => good_rD
theorem bd_rs {m : Nat} {qs : List Rat} (h : ∀ q ∈ qs, Bd m q) : ∀ y ∈ qs.map rD, ratB y = true → Bd m (ratV y) := by
  intro y hy _
  obtain ⟨q, hq, rfl⟩ := List.mem_map.mp hy
  rw [ratV_r]
  exact h q hq
theorem Bd.lt {n : Nat} {a : Int} {b : Nat} (hb : b ≠ 0) (h : a.natAbs < 2 ^ n) (h2 : b < 2 ^ n) : Bd n (mkRat a b) := bd_mk hb h h2
theorem mk_gt {a : Int} {b : Nat} (ha : 0 < a) (hb : b ≠ 0) : 0 < mkRat a b := by
  rw [← mk_pos, mk_num a hb]
  have h1 : (0 : Int) < (Nat.gcd a.natAbs b : Nat) := by
    have := Nat.gcd_pos_of_pos_right a.natAbs (Nat.pos_of_ne_zero hb)
    omega
  exact Int.ediv_pos_of_pos_of_dvd ha (by omega) (Int.ofNat_dvd_left.mpr (Nat.gcd_dvd_left a.natAbs b))
theorem mk_nat {a b : Nat} : mkRat (a : Int) b = (a : Rat) / (b : Rat) := by
  rw [Rat.mkRat_eq_div]
  rfl
theorem cutD_to {ds : List D} {k : Nat} (h : k ≤ ds.length) : cutD ds none (some (k : Int)) = ds.take k := by
  unfold cutD
  rw [HT.sIx_none, HT.sIx_nat, List.drop_zero, Nat.sub_zero, Nat.min_eq_left h]
theorem cutD_from {ds : List D} {k : Nat} (h : k ≤ ds.length) : cutD ds (some (k : Int)) none = ds.drop k := by
  unfold cutD
  rw [HT.sIx_none, HT.sIx_nat, Nat.min_eq_left h]
  exact List.take_of_length_le (by rw [List.length_drop]; omega)
theorem addD_tt {xs ys : List D} (h : xs.length + ys.length ≤ 1000000) : addD (.tup xs) (.tup ys) = some (.tup (xs ++ ys)) := addD_tup h
theorem num_den {q : Rat} : (q.den : Int) ≤ q.num ↔ ¬ q < 1 := by
  have t := Rat.lt_iff q 1
  rw [show (1 : Rat).num = 1 from rfl, show (1 : Rat).den = 1 from rfl] at t
  refine ⟨fun h h2 => ?_, fun h => Int.not_lt.mp fun h2 => h (t.mpr (by omega))⟩
  have := t.mp h2
  omega
/-- what the making of a line out of two rows gives, as the law shows it -/
def shD : Option (Nat × Str) → List D → List D → D
  | none, xs, ys => .tup [.tup xs, .tup ys]
  | some (i, w), _, _ => .lst [.int (i : Int), .str w]
theorem dueN_w {xs ys : List D} : ∀ (n k : Nat) {i : Nat} {w : Str}, dueN xs ys n k = some (i, w) → PyData.strOk w = true
  | 0, _, _, _, h => by cases h
  | n + 1, k, i, w, h => by
    rw [dueN] at h
    unfold fltL at h
    split at h
    · rename_i w' h'
      cases h
      split at h'
      · cases h'; simp
      · split at h'
        · cases h'; simp
        · split at h'
          · cases h'; simp
          · cases h'
    · exact dueN_w n (k + 1) h
theorem dueR_w {xs ys : List D} {i : Nat} {w : Str} (h : dueR xs ys = some (i, w)) : PyData.strOk w = true := by
  unfold dueR at h
  split at h
  · exact dueN_w _ _ h
  · cases h; simp
theorem good_shD {n : Nat} {xs ys : List D} (hx : goodL n xs = true) (hy : goodL n ys = true) : good (n + 2) (shD (dueR xs ys) xs ys) = true := by
  cases h : dueR xs ys with
  | none => simp [shD, hx, hy]
  | some p => obtain ⟨i, w⟩ := p; simp [shD, dueR_w h]
theorem eqv_self {d : D} (h : good 64 d = true) : eqvD d d = some true := by
  rw [eqv_good h h, eqF_refl d 64 h]
mutual
theorem good_mono : ∀ (d : D) {m n : Nat}, good m d = true → m ≤ n → good n d = true
  | .non, _, _, _, _ => by simp
  | .bl _, _, _, _, _ => by simp
  | .int _, _, _, _, _ => by simp
  | .str _, _, _, h, _ => by simpa using h
  | .lst xs, 0, _, h, _ => by simp [good] at h
  | .slst xs, 0, _, h, _ => by simp [good] at h
  | .tup xs, 0, _, h, _ => by simp [good] at h
  | .lst xs, m + 1, 0, _, hm => by omega
  | .slst xs, m + 1, 0, _, hm => by omega
  | .tup xs, m + 1, 0, _, hm => by omega
  | .lst xs, m + 1, n + 1, h, hm => by simp at h ⊢; exact goodL_mono xs h (by omega)
  | .slst xs, m + 1, n + 1, h, hm => by simp at h ⊢; exact goodL_mono xs h (by omega)
  | .tup xs, m + 1, n + 1, h, hm => by simp at h ⊢; exact goodL_mono xs h (by omega)
  | .ins _ _, _, _, h, _ => by simp [good] at h
theorem goodL_mono : ∀ (xs : List D) {m n : Nat}, goodL m xs = true → m ≤ n → goodL n xs = true
  | [], _, _, _, _ => by simp
  | x :: xs, m, n, h, hm => by
    simp at h ⊢
    exact ⟨good_mono x h.1 hm, goodL_mono xs h.2 hm⟩
end
section
variable {ls ms : List Rat} {n : Nat}
theorem lc_rats {it : FL} {vs : List Nat} {t : D → En → Option En} {te : F} {ρ ρ1 : En} (f : Rat → Rat) (xs : List Rat) (hit : it ρ = .ok (xs.map rD) ρ1) (hn : noMu vs ρ1 = true) (hl : xs.length ≤ 1000000) (h : ∀ x ∈ xs, ∃ ρ2, t (rD x) (wipeE ρ1 vs) = some ρ2 ∧ te ρ2 = .ok (rD (f x)) ρ2 ∧ wipeE ρ2 vs = wipeE ρ1 vs) :
    fLc it vs t fYes te ρ = .ok ((xs.map f).map rD) ρ1 := by
  rw [lc_all rD (fun x => rD (f x)) xs hit hn hl h, List.map_map]
  rfl
/-- grown by a factor above 0 -/
theorem LnOk.grow (L : LnOk ls ms n) {q : Rat} (hq : 0 < q) : LnOk (ls.map (· * q)) (ms.map (· * q)) n := by
  refine ⟨by simp [L.l1], by simp [L.l2], L.n1, L.n2, fun l hl => ?_, ?_⟩
  · obtain ⟨x, hx, rfl⟩ := List.mem_map.mp hl
    exact Rat.mul_pos (L.pos x hx) hq
  · rw [List.pairwise_map]
    exact L.up.imp fun h => Rat.mul_lt_mul_of_pos_right h hq
theorem LnOk.shift (L : LnOk ls ms n) (q : Rat) : LnOk ls (ms.map (· + q)) n := by
  refine ⟨L.l1, by simp [L.l2], L.n1, L.n2, L.pos, ?_⟩
  rw [List.pairwise_map]
  exact L.up.imp fun h => Rat.add_lt_add_right.mpr h
theorem LnOk.back (L : LnOk ls ms n) : LnOk ls.reverse (ms.reverse.map (- ·)) n := by
  refine ⟨by simp [L.l1], by simp [L.l2], L.n1, L.n2, fun l hl => L.pos l (by simpa using hl), ?_⟩
  rw [List.pairwise_map, List.pairwise_reverse]
  exact L.up.imp fun h => by grind
theorem LnOk.join {ls2 ms2 : List Rat} {n2 : Nat} (L : LnOk ls ms n) (L2 : LnOk ls2 ms2 n2) (h : n + n2 ≤ 24) {st : Rat} (hs : ∀ a ∈ ms, ∀ b ∈ ms2, a < b + st) : LnOk (ls ++ ls2) (ms ++ ms2.map (· + st)) (n + n2) := by
  refine ⟨by simp [L.l1, L2.l1], by simp [L.l2, L2.l2], by have := L.n1; omega, h, fun l hl => ?_, ?_⟩
  · rw [List.mem_append] at hl
    exact hl.elim (L.pos l) (L2.pos l)
  · rw [List.pairwise_append]
    refine ⟨L.up, (L2.shift st).up, fun a ha b hb => ?_⟩
    obtain ⟨y, hy, rfl⟩ := List.mem_map.mp hb
    exact hs a ha y hy
/-- the marks before the last are below it, those behind the first above it -/
theorem up_last {ms : List Rat} (up : ms.Pairwise (· < ·)) {x : Rat} (h : ms.getLast? = some x) : ∀ a ∈ ms, a ≤ x := by
  intro a ha
  obtain ⟨ys, rfl⟩ := List.getLast?_eq_some_iff.mp h
  rw [List.mem_append] at ha
  rcases ha with ha | ha
  · have := (List.pairwise_append.mp up).2.2 a ha x (by simp)
    grind
  · rw [List.mem_singleton] at ha
    subst ha
    exact Rat.le_refl
theorem up_head {ms : List Rat} (up : ms.Pairwise (· < ·)) {x : Rat} (h : ms.head? = some x) : ∀ a ∈ ms, x ≤ a := by
  intro a ha
  cases ms with
  | nil => cases h
  | cons y ys =>
    cases h
    rw [List.mem_cons] at ha
    rcases ha with ha | ha
    · subst ha
      exact Rat.le_refl
    · have := (List.pairwise_cons.mp up).1 a ha
      grind
end
@[simp] theorem revT_rT {qs : List Rat} {ρ : En} : revT (rT qs) ρ = .ok (rT qs.reverse) ρ := by
  unfold rT
  rw [revT_t, List.map_reverse]
theorem inv_rD {q : Rat} (h : 0 < q) : D.tup [.int (q.den : Nat), .int q.num] = rD q⁻¹ := by
  have h0 := mk_pos.mpr h
  unfold rD
  rw [Rat.num_inv, Rat.den_inv, if_neg (by omega), Int.sign_eq_one_of_pos h0, Int.one_mul]
  congr 3
  show D.int q.num = D.int ((q.num.natAbs : Nat) : Int)
  congr 1
  omega
theorem Bd.inv {n : Nat} {q : Rat} (h : Bd n q) (hq : 0 < q) : Bd n q⁻¹ := by
  have h0 := mk_pos.mpr hq
  unfold Bd at *
  rw [Rat.num_inv, Rat.den_inv, if_neg (by omega), Int.sign_eq_one_of_pos h0, Int.one_mul]
  exact ⟨h.2, h.1⟩
theorem map_mul_inv {qs : List Rat} {q : Rat} (h : 0 < q) : (qs.map (· * q)).map (· * q⁻¹) = qs := by
  rw [List.map_map]
  have : ((fun x => x * q⁻¹) ∘ fun x => x * q) = (id : Rat → Rat) := by
    funext x
    show x * q * q⁻¹ = x
    rw [Rat.mul_assoc, Rat.mul_inv_cancel q (by grind), Rat.mul_one]
  rw [this, List.map_id]
theorem map_add_neg {qs : List Rat} {q : Rat} : (qs.map (· + q)).map (· + -q) = qs := by
  rw [List.map_map]
  have : ((fun x => x + -q) ∘ fun x => x + q) = (id : Rat → Rat) := by
    funext x
    show x + q + -q = x
    grind
  rw [this, List.map_id]
theorem neg_rD {q : Rat} : D.tup [.int (-q.num), .int (q.den : Nat)] = rD (-q) := by
  unfold rD
  rw [Rat.neg_num, Rat.neg_den]
theorem inv_pos {q : Rat} (h : 0 < q) : 0 < q⁻¹ := by
  rw [← mk_pos, Rat.num_inv, Int.sign_eq_one_of_pos (mk_pos.mpr h), Int.one_mul]
  have := q.den_pos
  omega
theorem addD_ll {xs ys : List D} (h : xs.length + ys.length ≤ 1000000) : addD (.lst xs) (.lst ys) = some (.lst (xs ++ ys)) := by
  have e1 : addI (.lst xs) (.lst ys) = none := (rfl)
  have e2 : addT (.lst xs) (.lst ys) = none := (rfl)
  have e3 : addL (.lst xs) (.lst ys) = some (.lst (xs ++ ys)) := if_pos (Nat.le_trans h (by rw [sizeLine_eq]; decide))
  unfold addD alt2
  simp only [e1, e2, e3]
end DL

set_option Elab.async false
set_option linter.all false
set_option maxRecDepth 100000
set_option autoImplicit false
/-! PY: rows for built-ins over rows of numbers and truths. -/
namespace DL
open PySem PySem.Spec PyProof.Rows L2
theorem bls_map {α : Type} (f : α → Bool) : ∀ xs : List α, bls (xs.map fun a => D.bl (f a)) = some (xs.map f)
  | [] => rfl
  | x :: xs => by rw [List.map_cons, bls, bls_map f xs]; rfl
theorem intsOf_map : ∀ xs : List Int, intsOf (xs.map D.int) = some xs
  | [] => rfl
  | x :: xs => by rw [List.map_cons, intsOf, intsOf_map xs]; rfl
theorem allD_map {α : Type} {f : α → Bool} {xs : List α} : allD [.lst (xs.map fun a => D.bl (f a))] = some (.bl (xs.all f)) := by
  unfold allD onL
  dsimp only
  rw [lstOf_l, Option.bind_some, bls_map, Option.map_some, List.all_map]
  rfl
theorem anyD_map {α : Type} {f : α → Bool} {xs : List α} : anyD [.lst (xs.map fun a => D.bl (f a))] = some (.bl (xs.any f)) := by
  unfold anyD onL
  dsimp only
  rw [lstOf_l, Option.bind_some, bls_map, Option.map_some, List.any_map]
  rfl
theorem sortD_ints {xs : List Int} : sortD [.lst (xs.map D.int)] = some (.lst ((srtI xs).map .int)) := by
  unfold sortD onL
  dsimp only
  rw [lstOf_l, Option.bind_some, intsOf_map]
  rfl
theorem uniD_ints {d : D} {xs : List Int} (h : seqOf d = some (xs.map .int)) (l : xs.length < 64) : uniD [d] = some (.lst ((uniI xs).map .int)) := by
  show ((seqOf d).bind fun ds => (intsOf ds).bind fun ns => if ns.length < 64 then some (D.lst ((uniI ns).map .int)) else none) = _
  rw [h, Option.bind_some, intsOf_map, Option.bind_some, if_pos l]
theorem uni_of_up {xs : List Int} (h : xs.Pairwise (· < ·)) : uniI xs = xs := up_uniq (uniI_up xs) h fun z => uniI_mem z xs
theorem uni_rev {xs : List Int} (h : xs.Pairwise (· < ·)) : uniI xs.reverse = xs := up_uniq (uniI_up _) h fun z => by rw [uniI_mem, List.mem_reverse]
theorem srt_up {xs ys : List Int} (nd : xs.Nodup) (up : ys.Pairwise (· < ·)) (mem : ∀ z, z ∈ ys ↔ z ∈ xs) : srtI xs = ys := by
  have p := srtI_perm xs
  refine up_uniq (lt_of_le_nodup _ (srtI_sorted xs) (p.nodup_iff.mpr nd)) up fun z => ?_
  rw [p.mem_iff, mem z]
theorem atI_end {xs : List D} {x : D} : atI (xs ++ [x]) (-1) = some x := L2.atI_last xs x
theorem range_ints {xs : List Int} {n : Nat} (h : xs.length = n) : (List.range n).map (fun k => D.int (xs[k]?.getD 0)) = xs.map D.int := by
  subst h
  apply List.ext_getElem?
  intro k
  rw [List.getElem?_map, List.getElem?_map]
  by_cases hk : k < xs.length
  · rw [List.getElem?_range hk, List.getElem?_eq_getElem hk]
    simp [hk]
  · rw [List.getElem?_eq_none (by simpa using hk), List.getElem?_eq_none (l := xs) (by omega)]
    rfl
end DL

set_option Elab.async false
set_option linter.all false
set_option maxRecDepth 100000
set_option autoImplicit false
/-! PN: noises: sums of lengths, signs and hums; rows for zip of three, is of truths. -/
namespace DL
open PySem PySem.Spec PyProof.Rows L2
/-- one section's part -/
def tm (l : Rat) (s : Int) (h : Rat) : Rat := (if s = 1 then l else -l) * h
def trm : List Rat → List Int → List Rat → List Rat
  | l :: ls, s :: w, h :: hs => tm l s h :: trm ls w hs
  | _, _, _ => []
def sumR (t : Rat) (xs : List Rat) : Rat := xs.foldl (· + ·) t
def nz (ls : List Rat) (w : List Int) (h : List Rat) : Rat := sumR 0 (trm ls w h)
theorem sumR_add (t : Rat) : ∀ xs : List Rat, sumR t xs = t + sumR 0 xs
  | [] => by show t = t + 0; grind
  | x :: xs => by
    show sumR (t + x) xs = t + sumR (0 + x) xs
    rw [sumR_add (t + x) xs, sumR_add (0 + x) xs]
    grind
theorem trm_app : ∀ (l1 : List Rat) (w1 : List Int) (h1 : List Rat) {l2 : List Rat} {w2 : List Int} {h2 : List Rat}, l1.length = w1.length → l1.length = h1.length → trm (l1 ++ l2) (w1 ++ w2) (h1 ++ h2) = trm l1 w1 h1 ++ trm l2 w2 h2
  | [], [], [], _, _, _, _, _ => rfl
  | l :: l1, s :: w1, h :: h1, _, _, _, a, b => by
    show tm l s h :: trm (l1 ++ _) (w1 ++ _) (h1 ++ _) = tm l s h :: (trm l1 w1 h1 ++ _)
    rw [trm_app l1 w1 h1 (by simpa using a) (by simpa using b)]
  | [], _ :: _, _, _, _, _, a, _ => by simp at a
  | _ :: _, [], _, _, _, _, a, _ => by simp at a
  | [], [], _ :: _, _, _, _, _, b => by simp at b
  | _ :: _, _ :: _, [], _, _, _, _, b => by simp at b
theorem nz_app {l1 l2 h1 h2 : List Rat} {w1 w2 : List Int} (a : l1.length = w1.length) (b : l1.length = h1.length) : nz (l1 ++ l2) (w1 ++ w2) (h1 ++ h2) = nz l1 w1 h1 + nz l2 w2 h2 := by
  unfold nz
  rw [trm_app l1 w1 h1 a b]
  show ((trm l1 w1 h1) ++ (trm l2 w2 h2)).foldl (· + ·) 0 = _
  rw [List.foldl_append]
  exact sumR_add _ _
theorem bd_zero : Bd 1 (0 : Rat) := ⟨by decide, by decide⟩
theorem bd_tm {m n : Nat} {l h : Rat} {s : Int} (a : Bd m l) (b : Bd n h) : Bd (m + n) (tm l s h) := by
  unfold tm
  split
  · exact a.mul b
  · exact a.neg.mul b
theorem bd_trm {m n : Nat} : ∀ {ls : List Rat} {w : List Int} {hs : List Rat}, (∀ l ∈ ls, Bd m l) → (∀ h ∈ hs, Bd n h) → ∀ t ∈ trm ls w hs, Bd (m + n) t
  | l :: ls, s :: w, h :: hs, a, b, t, ht => by
    rcases List.mem_cons.mp ht with e | e
    · rw [e]; exact bd_tm (a l List.mem_cons_self) (b h List.mem_cons_self)
    · exact bd_trm (fun l hl => a l (List.mem_cons_of_mem _ hl)) (fun h hh => b h (List.mem_cons_of_mem _ hh)) t e
  | [], _, _, _, _, _, ht => by simp [trm] at ht
  | _ :: _, [], _, _, _, _, ht => by simp [trm] at ht
  | _ :: _, _ :: _, [], _, _, _, ht => by simp [trm] at ht
theorem bd_sumR {T : Nat} : ∀ {xs : List Rat} {b : Nat} {t : Rat}, Bd b t → (∀ x ∈ xs, Bd T x) → Bd (b + xs.length * (T + 1)) (sumR t xs)
  | [], b, t, h, _ => by simpa [sumR] using h
  | x :: xs, b, t, h, hx => by
    have := bd_sumR (xs := xs) (h.add (hx x List.mem_cons_self)) fun y hy => hx y (List.mem_cons_of_mem _ hy)
    refine Bd.mono this ?_
    rw [List.length_cons, Nat.succ_mul]
    omega
theorem trm_len : ∀ (ls : List Rat) (w : List Int) (hs : List Rat), (trm ls w hs).length ≤ ls.length
  | l :: ls, s :: w, h :: hs => by
    have := trm_len ls w hs
    simp only [trm, List.length_cons]
    omega
  | [], _, _ => by simp [trm]
  | _ :: _, [], _ => by simp [trm]
  | _ :: _, _ :: _, [] => by simp [trm]
/-- the first that is not 0 -/
def fnz : Nat → List Rat → Option (Nat × Rat)
  | _, [] => none
  | k, q :: qs => if q = 0 then fnz (k + 1) qs else some (k, q)
theorem fnz_none : ∀ {qs : List Rat} {k : Nat}, fnz k qs = none ↔ ∀ q ∈ qs, q = 0
  | [], k => by simp [fnz]
  | q :: qs, k => by
    unfold fnz
    split
    · rename_i h
      rw [fnz_none]
      simp [h]
    · rename_i h
      simp [h]
def hq : Option (Nat × Rat) → D
  | none => .non
  | some (i, q) => .ins "Heard" [("hum", .int (i : Nat)), ("noise", rD q)]
/-- what a plan of two words hears first -/
inductive Fst where
  | out (pair hum : Nat) (q : Rat)
  | btw (hum : Nat) (q : Rat)
def fst2 (ls : List Rat) (hs : List (List Rat)) (a b ab : List Int) : Option Fst :=
  match fnz 0 (hs.map (nz ls a)) with
  | some (i, q) => some (.out 0 i q)
  | none => match fnz 0 (hs.map (nz ls b)) with
    | some (i, q) => some (.out 1 i q)
    | none => (fnz 0 (hs.map (nz ls ab))).map fun p => .btw p.1 p.2
def Zr (ls : List Rat) (hs : List (List Rat)) (a : List Int) : Prop := ∀ h ∈ hs, nz ls a h = 0
theorem fst2_none {ls : List Rat} {hs : List (List Rat)} {a b ab : List Int} : fst2 ls hs a b ab = none ↔ Zr ls hs a ∧ Zr ls hs b ∧ Zr ls hs ab := by
  have z : ∀ w : List Int, fnz 0 (hs.map (nz ls w)) = none ↔ Zr ls hs w := fun w => by
    rw [fnz_none]
    simp [Zr]
  unfold fst2
  rw [← z a, ← z b, ← z ab]
  cases fnz 0 (hs.map (nz ls a)) <;> cases fnz 0 (hs.map (nz ls b)) <;> cases fnz 0 (hs.map (nz ls ab)) <;> simp
def fD : Option Fst → D
  | none => .non
  | some (.out p i q) => .ins "Outside" [("pair", .int (p : Nat)), ("hum", .int (i : Nat)), ("noise", rD q)]
  | some (.btw i q) => .ins "Between" [("pair", .int 0), ("other", .int 1), ("hum", .int (i : Nat)), ("noise", rD q)]
def fL : Option Fst → D
  | none => .non
  | some (.out p i q) => .lst [.int (p : Nat), .int (i : Nat), rD q]
  | some (.btw i q) => .lst [.int 0, .int 1, .int (i : Nat), rD q]
theorem good_fL {o : Option Fst} {n : Nat} : good (n + 2) (fL o) = true := by
  rcases o with _ | (_ | _) <;> simp [fL]
theorem rD_num0 {q : Rat} : q.num = 0 ↔ q = 0 := Rat.num_eq_zero
def spn (hs : List (List Rat)) : D := .ins "Span" [("hums", .tup (hs.map rT))]
def plD (ls ms : List Rat) (ws : List (List Int)) : D := .ins "Plan" [("line", lnD ls ms), ("words", .tup (ws.map ti))]
/-! rows -/
section
variable {ls ms : List Rat} {hs : List (List Rat)} {ws : List (List Int)} {ρ : En} {c nm : Str} {cs : List Str} {m : Fn} {n : Nat} {dv : List D} {fl : FL}
@[simp] theorem lenD_ln : lenD [lnD ls ms] = none := (rfl)
@[simp] theorem lenI_ln : lenI c m [lnD ls ms] = if "Line" = c then lenR (m [.dat (lnD ls ms)]) else none := by
  unfold lnD
  rw [e_lenI]
  by_cases h : (("Line" : Str) = c)
  · rw [if_pos h, if_pos h, h]
  · rw [if_neg h, if_neg h]
@[simp] theorem fld_ln0 : fldR (lnD ls ms) cs "lengths" ρ = if ("Line" : Str) ∈ cs then .ok (rT ls) ρ else .stuck := by
  unfold lnD
  rw [fldR_ins]
  rfl
@[simp] theorem fld_ln1 : fldR (lnD ls ms) cs "marks" ρ = if ("Line" : Str) ∈ cs then .ok (rT ms) ρ else .stuck := by
  unfold lnD
  rw [fldR_ins]
  rfl
theorem met_ln (h : nm ≠ "lengths") (h2 : nm ≠ "marks") : metR (lnD ls ms) "Line" nm n m dv fl ρ = bnd (fl ρ) (k := ⟨fun ds ρ2 => if (ds ++ dv).length + 1 = n then callR (m (.dat (lnD ls ms) :: (ds ++ dv).map .dat)) ρ2 else .stuck⟩) := by
  unfold lnD
  rw [metR_ins, if_pos ⟨rfl, by simp [h, h2]⟩]
@[simp] theorem lenD_spn : lenD [spn hs] = none := (rfl)
@[simp] theorem lenI_spn : lenI c m [spn hs] = if "Span" = c then lenR (m [.dat (spn hs)]) else none := by
  unfold spn
  rw [e_lenI]
  by_cases h : (("Span" : Str) = c)
  · rw [if_pos h, if_pos h, h]
  · rw [if_neg h, if_neg h]
@[simp] theorem fld_spn : fldR (spn hs) cs "hums" ρ = if ("Span" : Str) ∈ cs then .ok (.tup (hs.map rT)) ρ else .stuck := by
  unfold spn
  rw [fldR_ins]
  rfl
@[simp] theorem pro_spn : proR (spn hs) "Span" m ρ = proO (m [.dat (spn hs)]) ρ := by
  unfold spn
  rw [proR_ins, if_pos rfl]
@[simp] theorem isN_spn : isN (spn hs) .non = some (.bl false) := (rfl)
@[simp] theorem lenD_pl : lenD [plD ls ms ws] = none := (rfl)
@[simp] theorem lenI_pl : lenI c m [plD ls ms ws] = if "Plan" = c then lenR (m [.dat (plD ls ms ws)]) else none := by
  unfold plD
  rw [e_lenI]
  by_cases h : (("Plan" : Str) = c)
  · rw [if_pos h, if_pos h, h]
  · rw [if_neg h, if_neg h]
@[simp] theorem fld_pl0 : fldR (plD ls ms ws) cs "line" ρ = if ("Plan" : Str) ∈ cs then .ok (lnD ls ms) ρ else .stuck := by
  unfold plD
  rw [fldR_ins]
  rfl
@[simp] theorem fld_pl1 : fldR (plD ls ms ws) cs "words" ρ = if ("Plan" : Str) ∈ cs then .ok (.tup (ws.map ti)) ρ else .stuck := by
  unfold plD
  rw [fldR_ins]
  rfl
theorem met_pl (h : nm ≠ "line") (h2 : nm ≠ "words") : metR (plD ls ms ws) "Plan" nm n m dv fl ρ = bnd (fl ρ) (k := ⟨fun ds ρ2 => if (ds ++ dv).length + 1 = n then callR (m (.dat (plD ls ms ws) :: (ds ++ dv).map .dat)) ρ2 else .stuck⟩) := by
  unfold plD
  rw [metR_ins, if_pos ⟨rfl, by simp [h, h2]⟩]
end
section
variable {ρ : En}
def zipC (a b c : D) (ρ : En) : R (List D) := match seqOf a, seqOf b, seqOf c with
  | some xs, some ys, some us => .ok ((trips xs ys us).map .tup) ρ
  | _, _, _ => .stuck
theorem zipC_at {a b c : D} {xs ys us : List D} (h : seqOf a = some xs) (h2 : seqOf b = some ys) (h3 : seqOf c = some us) : zipC a b c ρ = .ok ((trips xs ys us).map .tup) ρ := by
  unfold zipC
  rw [h, h2, h3]
theorem raw_zip3 {a b c : F} : fZip3 (fCons a (fCons b (fCons c fNil))) ρ = (a ρ).bind fun x ρ1 => (b ρ1).bind fun y ρ2 => (c ρ2).bind fun u ρ3 => zipC x y u ρ3 := by
  unfold fZip3 fCons fNil
  cases a ρ with
  | ok x ρ1 =>
    dsimp only [R.bind]
    cases b ρ1 with
    | ok y ρ2 =>
      dsimp only [R.bind]
      cases c ρ2 with
      | ok u ρ3 =>
        dsimp only [R.bind, zipC]
        all_goals (rcases seqOf x with _ | xs; rfl; rcases seqOf y with _ | ys; rfl; cases seqOf u <;> rfl)
      | _ => rfl
    | _ => rfl
  | _ => rfl
@[simp] theorem e_zip3 {a b c : F} : fZip3 (fCons a (fCons b (fCons c fNil))) ρ = bnd (a ρ) (k := ⟨fun x ρ1 => bnd (b ρ1) (k := ⟨fun y ρ2 => bnd (c ρ2) (k := ⟨fun u ρ3 => zipC x y u ρ3⟩)⟩)⟩) := raw_zip3
end
end DL

set_option Elab.async false
set_option linter.all false
set_option maxRecDepth 100000
set_option autoImplicit false
/-! PH: the end of a law by facts that one run of the top tells: where each def stands is computed, every fact is a Bool. -/
namespace Hh
open PySem PySem.Spec PyProof.Rows L2
/-- a def: where it stands, what it is, its defaults -/
structure DefH where
  adr : PySem.W.Frag → Addr
  name : Str
  qual : Str
  params : Arguments
  body : List Stmt
  scope : Scope
  dfl : List V := []
def tellF (F : FuncData) : He.FnW := some (F.name, F.qualname, F.params, F.body, F.scope, F.globals, F.closure, F.builtins)
def fnH (K : PySem.W.Frag) (a : Addr) : He.FnW := match K.lookup a with
  | some ⟨_, _, .func F, _⟩ => tellF F
  | _ => none
def DefH.val (d : DefH) : He.FnW := some (d.name, d.qual, d.params, .stmts d.body, d.scope, mainGlobals, [], builtinsNs)
def DefH.ok (K : PySem.W.Frag) (d : DefH) : Bool := match K.lookup (d.adr K) with
  | some ⟨_, _, .func fd, _⟩ => PySem.W.codeIn K fd.code d.qual && He.dflB K fd.defaults d.dfl
  | _ => false
section
variable {K : PySem.W.Frag}
theorem DefH.look {d : DefH} (e : fnH K (d.adr K) = d.val) (c : d.ok K = true) : ∃ oc od osl dV kV doc pm an cdv ct,
    K.lookup (d.adr K) = some ⟨oc, od, .func (PySem.W.fnOf d.name d.qual d.params d.body d.scope dV kV doc pm an cdv ct), osl⟩ ∧ PySem.W.codeIn K cdv d.qual = true ∧ He.dflB K dV d.dfl = true := by
  unfold fnH at e
  unfold DefH.ok at c
  cases q : K.lookup (d.adr K) with
  | none => rw [q] at c; cases c
  | some o =>
    obtain ⟨oc, od, dt, osl⟩ := o
    rw [q] at c e
    cases dt with
    | func F =>
      obtain ⟨nm, qn, ps, bd, sc, gl, cl, dV, kV, dc, pm, an, cd, ct, bi⟩ := F; obtain ⟨k1, k2⟩ := He.ba (show (PySem.W.codeIn K cd d.qual && He.dflB K dV d.dfl) = true from c)
      have e2 := Option.some.inj (show (some (nm, qn, ps, bd, sc, gl, cl, bi) : He.FnW) = some (d.name, d.qual, d.params, .stmts d.body, d.scope, mainGlobals, [], builtinsNs) from e)
      simp only [Prod.mk.injEq] at e2; obtain ⟨g1, g2, g3, g4, g5, g6, g7, g8⟩ := e2; subst g1 g2 g3 g4 g5 g6 g7 g8
      exact ⟨oc, od, osl, dV, kV, dc, pm, an, cd, ct, rfl, k1, k2⟩
    | _ => cases c
theorem dfl_none {dV : Value} (h : He.dflB K dV [] = true) : dV = .none := by
  cases dV with
  | none => rfl
  | _ => cases h
theorem DefH.plain {d : DefH} (e : fnH K (d.adr K) = d.val) (c : d.ok K = true) (hd : d.dfl = []) : ∃ oc od osl kV doc pm an cdv ct,
    K.lookup (d.adr K) = some ⟨oc, od, .func (PySem.W.fnOf d.name d.qual d.params d.body d.scope .none kV doc pm an cdv ct), osl⟩ ∧ PySem.W.codeIn K cdv d.qual = true := by
  obtain ⟨oc, od, osl, dV, kV, doc, pm, an, cdv, ct, h1, h2, h3⟩ := DefH.look e c
  rw [hd] at h3
  cases dfl_none h3
  exact ⟨oc, od, osl, kV, doc, pm, an, cdv, ct, h1, h2⟩
/-- with defaults -/
theorem DefH.dfls {d : DefH} {v : V} {vs : List V} (e : fnH K (d.adr K) = d.val) (c : d.ok K = true) (hd : d.dfl = v :: vs) : ∃ oc od osl T kV doc pm an cdv ct,
    K.lookup (d.adr K) = some ⟨oc, od, .func (PySem.W.fnOf d.name d.qual d.params d.body d.scope (.ref T) kV doc pm an cdv ct), osl⟩ ∧ PySem.W.codeIn K cdv d.qual = true ∧ ∃ ocT odT its nT slT, K.lookup T = some ⟨ocT, odT, .seq (List.toArray its) nT, slT⟩ ∧ Vals (v :: vs) its := by
  obtain ⟨oc, od, osl, dV, kV, doc, pm, an, cdv, ct, h1, h2, h3⟩ := DefH.look e c
  rw [hd] at h3
  cases dV with
  | ref T =>
    have h4 : (match K.lookup T with
      | some ⟨_, _, .seq its _, _⟩ => He.relAll (v :: vs) its.toList
      | _ => false) = true := h3
    cases q : K.lookup T with
    | none => rw [q] at h4; cases h4
    | some o =>
      obtain ⟨oc2, od2, dt2, sl2⟩ := o
      rw [q] at h4
      cases dt2 with
      | seq its n => exact ⟨oc, od, osl, T, kV, doc, pm, an, cdv, ct, h1, h2, oc2, od2, its.toList, n, sl2, by rw [q, Array.toArray_toList], He.relAll_ok h4⟩
      | _ => cases h4
  | _ => cases h3
/-! ### values of known kinds -/
def intB (K : PySem.W.Frag) (x : Str) (i : Int) : Bool := match PySem.W.nsIn K mainGlobals x with
  | some (some (.int z _)) => decide (z = i)
  | _ => false
theorem int_at {x : Str} {i : Int} (h : intB K x i = true) : ∃ t, PySem.W.nsIn K mainGlobals x = some (some (.int i t)) := by
  unfold intB at h
  cases q : PySem.W.nsIn K mainGlobals x with
  | none => rw [q] at h; cases h
  | some o =>
    rw [q] at h
    cases o with
    | none => cases h
    | some v =>
      cases v with
      | int j t => cases of_decide_eq_true h; exact ⟨t, rfl⟩
      | _ => cases h
def tupB (K : PySem.W.Frag) (a : Addr) (vs : List V) : Bool := match K.lookup a with
  | some ⟨.type c, _, .seq its _, _⟩ => decide (c = "tuple") && He.relAll vs its.toList
  | _ => false
theorem tup_at {a : Addr} {vs : List V} (h : tupB K a vs = true) : ∃ ot its nt st, K.lookup a = some ⟨.type "tuple", ot, .seq (List.toArray its) nt, st⟩ ∧ Vals vs its := by
  unfold tupB at h
  cases q : K.lookup a with
  | none => rw [q] at h; cases h
  | some o =>
    obtain ⟨oc, od, dt, osl⟩ := o
    rw [q] at h
    cases oc with
    | type c =>
      cases dt with
      | seq its n =>
        obtain ⟨h1, h2⟩ := He.ba (show (decide (c = "tuple") && He.relAll vs its.toList) = true from h)
        cases of_decide_eq_true h1
        exact ⟨od, its.toList, n, osl, by rw [Array.toArray_toList], He.relAll_ok h2⟩
      | _ => cases h
    | _ => cases dt <;> cases h
theorem vals_c {v : V} {vs : List V} {us : List Value} (h : Vals (v :: vs) us) : ∃ u us', us = u :: us' ∧ RelV v u ∧ Vals vs us' := by
  cases h with
  | cons r rs => exact ⟨_, _, rfl, r, rs⟩
theorem vals_n {us : List Value} (h : Vals [] us) : us = [] := by
  cases h
  rfl
theorem rel_non {u : Value} (h : RelV .non u) : u = .none := h
theorem rel_int {i : Int} {u : Value} (h : RelV (.int i) u) : ∃ t, u = .int i t := h
theorem rel_bl {b : Bool} {u : Value} (h : RelV (.bl b) u) : u = .bool b := h
/-! ### properties, classes of errors -/
def prF (K : PySem.W.Frag) (p : Addr) : Addr := match PySem.W.recIn K p "property" with
  | some (.ref f :: _) => f
  | _ => 0
def smP (K : PySem.W.Frag) (C : Addr) (m : Str) : Addr := match PySem.W.findCls K (.ref C) (.type "type") m with
  | some (.get _ (.ref p) _ _) => p
  | _ => 0
def smF (K : PySem.W.Frag) (p : Addr) : Addr := match PySem.W.recIn K p "staticmethod" with
  | some (.ref f :: _) => f
  | _ => 0
def smR (K : PySem.W.Frag) (p : Addr) : List Value := match PySem.W.recIn K p "staticmethod" with
  | some (_ :: r) => r
  | _ => []
def prR (K : PySem.W.Frag) (p : Addr) : List Value := match PySem.W.recIn K p "property" with
  | some (_ :: r) => r
  | _ => []
def xlB (K : PySem.W.Frag) (C : Addr) : Bool := match K.lookup C with
  | some ⟨.type c, _, .cls cd, sl⟩ => decide (c = "type") && (match cd.mro, sl.toList with
    | .ref C' :: bm, [_, _, _, _, some (.builtin n), _] => decide (C' = C) && (decide (n = "ValueError.__new__") && (!cd.hasDel && (cd.hasDict && PySem.HandSPX.refsVE bm)))
    | _, _ => false)
  | _ => false
theorem xl_at {C : Addr} (h : xlB K C = true) : ∃ nm q N bs bm sn sub ab col dd m0 m1 m2 m3 m5, K.lookup C = some (excClassObj nm q C N bs bm true sn sub ab col dd m0 m1 m2 m3 m5 "ValueError.__new__") ∧ PySem.HandSPX.refsVE bm = true := by
  unfold xlB at h
  cases q : K.lookup C with
  | none => rw [q] at h; cases h
  | some o =>
    obtain ⟨oc, od, dt, osl⟩ := o
    rw [q] at h
    cases oc with
    | type c =>
      cases dt with
      | cls cd =>
        obtain ⟨h1, h2⟩ := He.ba h
        cases of_decide_eq_true h1
        obtain ⟨nm, bs, mro, ns, qn, hd, sn, sub, ab, col, del⟩ := cd; obtain ⟨l⟩ := osl
        dsimp only at h2
        split at h2
        · rename_i C' bm k0 k1 k2 k3 n k5
          obtain ⟨a1, h3⟩ := He.ba h2
          obtain ⟨a2, h4⟩ := He.ba h3
          obtain ⟨a3, h5⟩ := He.ba h4
          obtain ⟨a4, a5⟩ := He.ba h5
          cases of_decide_eq_true a1
          cases of_decide_eq_true a2
          cases del with
          | true => cases a3
          | false =>
            subst a4
            exact ⟨nm, qn, ns, bs, bm, sn, sub, ab, col, od, k0, k1, k2, k3, k5, rfl, a5⟩
        · cases h2
      | _ => cases h
    | _ => cases dt <;> cases h
end
/-! ### a run told in parts -/
/-- what one look at the end of the run tells -/
def Part (r : PySem.W.OpenRow) (q : Program) (M : Nat) (loose : List Str) (w : World) {α : Type} (o : PySem.W.SharedT → α) (v : α) : Prop :=
  (HandSHeadRun.wholeF (fun p => HandSHeadRun.stepQ (HandSHeadRun.denQ HandSHeadRun.tabQ) p w) HandSHeadRun.fenceQ M r.prog).map
    (fun x => (HandSHeadRun.looksF r.prog x.1.heap x.2.abs, HandSHeadRun.seenQ q loose (importedModules r.prog.main.body) (fun s => PySem.W.xlAt q [] s && PySem.W.recOk r.toRowW.records s) x.2.abs, o x.2)) = some (true, PySem.W.openGood q loose, v)
section
variable {r : PySem.W.OpenRow} {q : Program} {M : Nat} {loose : List Str} {w : World} {α β : Type} {o : PySem.W.SharedT → α} {v : α} {o2 : PySem.W.SharedT → β} {v2 : β}
theorem Part.join (a : Part r q M loose w o v) (b : Part r q M loose w o2 v2) : Part r q M loose w (fun s => (o s, o2 s)) (v, v2) := by
  unfold Part at *
  generalize HandSHeadRun.wholeF (fun p => HandSHeadRun.stepQ (HandSHeadRun.denQ HandSHeadRun.tabQ) p w) HandSHeadRun.fenceQ M r.prog = X at *
  cases X with
  | none => cases a
  | some x =>
    have a := Option.some.inj a
    have b := Option.some.inj b
    simp only [Prod.mk.injEq] at a b
    simp only [Option.map_some, a.1, a.2.1, a.2.2, b.2.2]
theorem Part.to (a : Part r q M loose w o v) (f : α → β) : Part r q M loose w (fun s => f (o s)) (f v) := by
  unfold Part at *
  generalize HandSHeadRun.wholeF (fun p => HandSHeadRun.stepQ (HandSHeadRun.denQ HandSHeadRun.tabQ) p w) HandSHeadRun.fenceQ M r.prog = X at *
  cases X with
  | none => cases a
  | some x =>
    have a := Option.some.inj a
    simp only [Prod.mk.injEq] at a
    simp only [Option.map_some, a.1, a.2.1, a.2.2]
end
/-- what an object leads to: a table's values, a def's code and defaults, a class's table, a property's def -/
def kidsH (o : Obj) : List Addr := match o.data with
  | .dict es _ => es.toList.flatMap fun e => He.refV e.val
  | .func fd => He.refV fd.code ++ He.refV fd.defaults
  | .cls cd => [cd.ns]
  | .fields vs => (match o.cls with
    | .type c => (match c == "property" || c == "staticmethod" with
      | true => vs.toList.flatMap He.refV
      | false => [])
    | _ => [])
  | _ => []
def lvH (g : Addr → Option Obj) (as : List Addr) : List Addr := as.flatMap fun a => match g a with
  | some o => kidsH o
  | none => []
def asH (g : Addr → Option Obj) : Nat → List Addr → List Addr
  | 0, as => as
  | n + 1, as => as ++ asH g n (lvH g as)
/-- the part of the heap that is looked at -/
def KS (n : Nat) (s : PySem.W.SharedT) : PySem.W.Frag := He.frG (HandSHeadRun.getT s) (asH (HandSHeadRun.getT s) n [mainGlobals])
/-! ### the Hook -/
def obsK (fn : List DefH) (ex : PySem.W.Frag → Bool) (K : PySem.W.Frag) : He.AlD := (ex K && fn.all fun d => d.ok K, fn.map fun d => fnH K (d.adr K))
def obsH (n : Nat) (fn : List DefH) (ex : PySem.W.Frag → Bool) (g : Addr → Option Obj) : He.AlD := obsK fn ex (He.frG g (asH g n [mainGlobals]))
def valH (fn : List DefH) : He.AlD := (true, fn.map DefH.val)
def SaysH (fn : List DefH) (ex : PySem.W.Frag → Bool) (K : PySem.W.Frag) : Prop := obsK fn ex K = valH fn
def hookH (n : Nat) (fn : List DefH) (ex : PySem.W.Frag → Bool) : PySem.W.Hook where
  α := He.AlD
  obs := fun s => obsH n fn ex s.heap.get?
  val := fun _ => valH fn
  says := fun _ h => ∃ K : PySem.W.Frag, K.In h ∧ SaysH fn ex K
  of := fun _ _ e => ⟨_, He.frG_in, e⟩
  keeps := fun _ _ _ told on => told.elim fun K z => ⟨K, PySem.W.Frag.In.keeps z.1 on, z.2⟩
theorem obsH_eq {n : Nat} {fn : List DefH} {ex : PySem.W.Frag → Bool} {g : Addr → Option Obj} {s : Shared} (same : ∀ a, g a = s.heap.get? a) : obsH n fn ex g = (hookH n fn ex).obs s := by
  obtain rfl : g = s.heap.get? := funext same; rfl
section
variable {fn : List DefH} {ex : PySem.W.Frag → Bool} {K : PySem.W.Frag}
theorem SaysH.ck (c : SaysH fn ex K) : ex K = true := (He.ba (show (ex K && fn.all fun d => d.ok K) = true from congrArg (fun z : He.AlD => z.1) c)).1
theorem SaysH.oks (c : SaysH fn ex K) : (fn.all fun d => d.ok K) = true := (He.ba (show (ex K && fn.all fun d => d.ok K) = true from congrArg (fun z : He.AlD => z.1) c)).2
theorem SaysH.at (c : SaysH fn ex K) (i : Nat) {d : DefH} (h : fn[i]? = some d) : fnH K (d.adr K) = d.val ∧ d.ok K = true := by
  refine ⟨?_, List.all_eq_true.mp c.oks d (List.mem_of_getElem? h)⟩
  have e : fn.map (fun d => fnH K (d.adr K)) = fn.map DefH.val := congrArg (fun z : He.AlD => z.2) c
  have e2 : (fn.map fun d => fnH K (d.adr K))[i]? = (fn.map DefH.val)[i]? := by rw [e]
  simp only [List.getElem?_map, h, Option.map_some] at e2; exact Option.some.inj e2
end
end Hh
namespace L2
open PySem PySem.Spec PyProof.Rows
/-- what such a head gives for the law's def: the part of the heap, the function, its promise -/
def Told (l : PySem.W.OpenLaw) (n k : Nat) (x : Str) (CX : World → CXT) (w : World) (mg : Str → Option Value) (a0 : Addr) (h : Heap) : Prop :=
  ∃ (K : PySem.W.Frag) (F : FuncData) (sp : Sp), K.In h ∧ (∀ (s : Shared) (v : Value), BindsTo s F ⟨[v], []⟩ [(x, v)]) ∧ (∀ b : Heap, K.In b → b.Ns mainGlobals mg → DL.FnOk l.prog w K mg b (CX w) k a0 F [x] sp) ∧
    ∀ (H : Hp) (a : Addr) (ns : List Int), ns.length ≤ n → (∀ z ∈ ns, Builtin.Int.intBits z ≤ 1048576) → Only H → SqL K H a (ns.map V.int) → sp [.ref a] H (fun v _ => v = .bl true) (fun _ _ _ => False)
/-- a law that is given whole numbers of known size, over such a head -/
theorem law_told {l : PySem.W.OpenLaw} {n k : Nat} {q : Program} {loose : List Str} {XP : (Str → Option Value) → Heap → Prop} {YP : World → Heap → Prop} {d : DefRec} {CX : World → CXT} {x : Str} (most : l.most = some n) (few : n ≤ sizeLine) (bare : d.params.defaults = []) (room : DL.Room k callerA)
    (told : ∀ (w : World) (mg : Str → Option Value) (a0 : Addr) (h : Heap), YP w h → h.Ns mainGlobals mg → mg d.name = some (.ref a0) → Told l n k x CX w mg a0 h) (clean : ∀ (w : World) (H : Hp) (s : Shared) (e : Value) (s' : Shared), CX w [] H s (fun _ _ _ => False) e s' → False) : PySem.W.WalkO q loose XP YP l.row.toRowW d [] (fun f vs => PySem.call f vs) :=
  Att.attach_callB most bare fun w _ t mg _ a0 _ _ _ _ a _ ns G Y _ _ _ at0 obj whole few2 bits gens => (told w mg a0 _ Y G.T.g at0).elim fun K z => z.elim fun F z => z.elim fun sp z =>
    DL.law_G obj whole (Nat.le_trans few2 few) z.1 G.T.g G.T.b G.T.builtins G.T.nolimit gens room z.2.2.1 z.2.1 (fun H oH sH => z.2.2.2 H a ns few2 bits oH sH) fun H e s' => clean w H t e s'
end L2

set_option Elab.async false
set_option linter.all false
set_option maxRecDepth 100000
set_option maxHeartbeats 2000000
namespace K34
open PySem PySem.Spec PyProof.Rows L2 DL
def topS (i : Nat) : Stmt := PySem.Challenge.pw_hushedwires_k34_whole_sums_of_running_su.main.body.getD i (.Pass ⟨0, 0, 0, 0⟩)
def clsBody : Stmt → List Stmt
  | .ClassDef (body := b) .. => b
  | _ => []
abbrev si_BadWord : Stmt := (clsBody (topS 3)).getD 0 (.Pass ⟨0, 0, 0, 0⟩)
def cat_BadCount (c : Str) : Option Bool := if c = "BadCount" then some true else if c = "BadWord" then some false else none
def cat_BadWord (c : Str) : Option Bool := if c = "BadCount" then some false else if c = "BadWord" then some true else none
abbrev s__law_hand : Stmt := topS 19
abbrev N__law_hand : List Str := ["_law_script", "_law_total", "_law_cells", "_law_cell"]
abbrev P__law_hand : List Str := ["_law_script"]
theorem sc__law_hand : FnScope N__law_hand P__law_hand (defScope s__law_hand) := ⟨rfl, rfl, rfl, by decide +kernel, rfl, by decide +kernel, by decide +kernel⟩
def g__law_hand : G :=
  (gSeq (gSet 1 (f2 addD (fB lenD (fCons (fVar 0) fNil)) (fC (.int 31))))
    (gSeq (gOwn 2 (fDisp fNil))
    (gSeq (gFor (fIt (fVar 0)) (tgName 3) (gSeq (gSet 1 (f2 modI (fB int1D (fCons (f2 addD (f2 mulD (fVar 1) (fC (.int 1019))) (fB int1D (fCons (fVar 3) fNil))) fNil)) (fC (.int 2147483629))))
    (gApp 2 (fIf (t2 geI (fVar 3) (fC (.int 0))) (fB int1D (fCons (fVar 3) fNil)) (f1 negI (fB int1D (fCons (fVar 3) fNil)))))))
    (gFrz 2 (gRetn (fDisp (fCons (fVar 2) (fCons (fC (.int 0)) (fCons (fC (.int 0)) (fCons (fVar 1) fNil))))))))))
def m__law_hand : Fn := mkFn g__law_hand (N__law_hand.length - P__law_hand.length)
abbrev s__law_mixed : Stmt := topS 20
abbrev N__law_mixed : List Str := ["_law_number", "_law_turn", "_law_once", "_law_twice"]
abbrev P__law_mixed : List Str := ["_law_number", "_law_turn"]
theorem sc__law_mixed : FnScope N__law_mixed P__law_mixed (defScope s__law_mixed) := ⟨rfl, rfl, rfl, by decide +kernel, rfl, by decide +kernel, by decide +kernel⟩
def g__law_mixed : G :=
  (gSeq (gSet 2 (f2 modI (fB int1D (fCons (f2 addD (f2 addD (f2 mulD (fVar 0) (fC (.int 48271))) (f2 mulD (fVar 1) (fC (.int 7919)))) (fC (.int 65537))) fNil)) (fC (.int 2147483647))))
    (gSeq (gSet 3 (f2 modI (fB int1D (fCons (f2 addD (f2 addD (f2 mulD (fVar 2) (fVar 2)) (f2 mulD (fVar 1) (fC (.int 104729)))) (f2 fdvI (fVar 2) (fC (.int 127)))) fNil)) (fC (.int 2147483629))))
    (gRet (f2 fdvI (fB int1D (fCons (f2 modI (fB int1D (fCons (f2 addD (f2 mulD (fVar 3) (fC (.int 69621))) (f2 fdvI (fVar 2) (fC (.int 5)))) fNil)) (fC (.int 2147483587))) fNil)) (fC (.int 16))))))
def m__law_mixed : Fn := mkFn g__law_mixed (N__law_mixed.length - P__law_mixed.length)
abbrev s__law_take : Stmt := topS 21
abbrev N__law_take : List Str := ["_law_hand_here", "_law_many", "_law_cell", "_law_rest"]
abbrev P__law_take : List Str := ["_law_hand_here", "_law_many"]
theorem sc__law_take : FnScope N__law_take P__law_take (defScope s__law_take) := ⟨rfl, rfl, rfl, by decide +kernel, rfl, by decide +kernel, by decide +kernel⟩
def g__law_take : G :=
  (gSeq (gIf (fAnd (t2 eqD (fIxO 0 (fC (.int 2))) (fC (.int 0))) (t2 ltI (fIxO 0 (fC (.int 1))) (fB lenD (fCons (fIxO 0 (fC (.int 0))) fNil)))) (gSeq (gSet 2 (f2 ixD (fIxO 0 (fC (.int 0))) (fIxO 0 (fC (.int 1)))))
    (gSeq (gSetIx 0 (fC (.int 1)) (f2 addD (fIxO 0 (fC (.int 1))) (fC (.int 1))))
    (gSeq (gIf (t2 ltI (fVar 2) (f2 powI (fC (.int 10)) (fC (.int 18)))) (gRet (f2 modI (fB int1D (fCons (fCall 2 m__law_mixed [] (fCons (f2 modI (fB int1D (fCons (fVar 2) fNil)) (fC (.int 2147483647))) (fCons (fIxO 0 (fC (.int 1))) fNil))) fNil)) (fVar 1))) gNx)
    (gSetIx 0 (fC (.int 2)) (fVar 2))))) gNx)
    (gSeq (gIf (t2 gtI (fIxO 0 (fC (.int 2))) (fC (.int 0))) (gSeq (gSet 3 (fIxO 0 (fC (.int 2))))
    (gSeq (gSetIx 0 (fC (.int 2)) (f2 fdvI (fB int1D (fCons (fVar 3) fNil)) (fVar 1)))
    (gRet (f2 modI (fB int1D (fCons (fVar 3) fNil)) (fVar 1))))) gNx)
    (gSeq (gSetIx 0 (fC (.int 3)) (f2 modI (fB int1D (fCons (f2 addD (fIxO 0 (fC (.int 3))) (fC (.int 1))) fNil)) (fC (.int 2147483629))))
    (gRet (f2 modI (fB int1D (fCons (fCall 2 m__law_mixed [] (fCons (fIxO 0 (fC (.int 3))) (fCons (fIxO 0 (fC (.int 1))) fNil))) fNil)) (fVar 1))))))
def m__law_take : Fn := mkFn g__law_take (N__law_take.length - P__law_take.length)
abbrev s__law_odd_word : Stmt := topS 41
abbrev N__law_odd_word : List Str := ["_law_hand_here", "_law_word_here", "_law_turn", "_law_at", "_law_odd", "_law_sign"]
abbrev P__law_odd_word : List Str := ["_law_hand_here", "_law_word_here"]
theorem sc__law_odd_word : FnScope N__law_odd_word P__law_odd_word (defScope s__law_odd_word) := ⟨rfl, rfl, rfl, by decide +kernel, rfl, by decide +kernel, by decide +kernel⟩
def g__law_odd_word : G :=
  (gSeq (gSet 2 (fCallM 2 m__law_take 0 (fCons (fC (.int 8)) fNil)))
    (gSeq (gSet 3 (fCallM 2 m__law_take 0 (fCons (fB lenD (fCons (fVar 1) fNil)) fNil)))
    (gSeq (gIf (t2 ltI (fVar 2) (fC (.int 5))) (gSeq (gSet 4 (f2 ixD (fLst (fCons (fC (.int 0)) (fCons (fC (.int 2)) (fCons (fC (.bl true)) (fCons (fC .non) (fCons (fC (.str "1")) fNil)))))) (fVar 2)))
    (gRet (fTup (fCons (f2 addD (f2 addD (fSl (fVar 1) oNone (oSome (fVar 3))) (fTup (fCons (fVar 4) fNil))) (fSl (fVar 1) (oSome (f2 addD (fVar 3) (fC (.int 1)))) oNone)) (fCons (fVar 3) (fCons (fC (.str "sign")) fNil)))))) gNx)
    (gSeq (gIf (t2 eqD (fVar 2) (fC (.int 5))) (gRet (fTup (fCons (fB tupleD (fCons (fOfL (fLc (fIt (fVar 1)) [5] (tgName 5) fYes (f1 negI (fVar 5)))) fNil)) (fCons (fC (.int 0)) (fCons (fC (.str "first")) fNil))))) gNx)
    (gRet (fTup (fCons (f2 ixD (fLst (fCons (fC (.str "+-")) (fCons (fB tupleD (fCons (f2 mulD (fLst (fCons (fC (.int 1)) fNil)) (fC (.int 25))) fNil)) fNil))) (f2 subI (fVar 2) (fC (.int 6)))) (fCons (fC (.int 0)) (fCons (fC (.str "many")) fNil)))))))))
def m__law_odd_word : Fn := mkFn g__law_odd_word (N__law_odd_word.length - P__law_odd_word.length)
abbrev s__law_word : Stmt := topS 31
abbrev N__law_word : List Str := ["_law_hand_here", "_law_count_here", "_law_word_here", "_law_k"]
abbrev P__law_word : List Str := ["_law_hand_here", "_law_count_here"]
theorem sc__law_word : FnScope N__law_word P__law_word (defScope s__law_word) := ⟨rfl, rfl, rfl, by decide +kernel, rfl, by decide +kernel, by decide +kernel⟩
def g__law_word : G :=
  (gSeq (gOwn 2 (fDisp (fCons (fC (.int 1)) fNil)))
    (gSeq (gFor (fRange2 (fCons (fC (.int 1)) (fCons (fVar 1) fNil))) (tgName 3) (gApp 2 (f2 subI (fC (.int 1)) (f2 mulD (fC (.int 2)) (fCallM 2 m__law_take 0 (fCons (fC (.int 2)) fNil))))))
    (gFrz 2 (gRet (fB tupleD (fCons (fVar 2) fNil))))))
def m__law_word : Fn := mkFn g__law_word (N__law_word.length - P__law_word.length)
abbrev s__law_built : Stmt := topS 32
abbrev N__law_built : List Str := ["_law_hand_here", "_law_count_here", "_law_half", "_law_quarter", "_law_pick", "_law_sign", "_law_k"]
abbrev P__law_built : List Str := ["_law_hand_here", "_law_count_here"]
theorem sc__law_built : FnScope N__law_built P__law_built (defScope s__law_built) := ⟨rfl, rfl, rfl, by decide +kernel, rfl, by decide +kernel, by decide +kernel⟩
def g__law_built : G :=
  (gSeq (gIf (fOr (t2 ltI (fVar 1) (fC (.int 2))) (fOr (fTru (f2 modI (fB int1D (fCons (fVar 1) fNil)) (fC (.int 2)))) (fTru (fCallM 2 m__law_take 0 (fCons (fC (.int 2)) fNil))))) (gRet (fCallM 2 m__law_word 0 (fCons (fVar 1) fNil))) gNx)
    (gSeq (gSet 2 (fCallM 2 m__law_word 0 (fCons (f2 fdvI (fVar 1) (fC (.int 2))) fNil)))
    (gSeq (gIf (t2 eqD (f2 modI (fB int1D (fCons (fVar 1) fNil)) (fC (.int 4))) (fC (.int 0))) (gSeq (gSet 3 (fCallM 2 m__law_word 0 (fCons (f2 fdvI (fVar 1) (fC (.int 4))) fNil)))
    (gSet 2 (f2 addD (fVar 3) (fB tupleD (fCons (fOfL (fLc (fIt (fVar 3)) [5] (tgName 5) fYes (f1 negI (fVar 5)))) fNil))))) gNx)
    (gSeq (gSet 4 (fCallM 2 m__law_take 0 (fCons (fC (.int 3)) fNil)))
    (gSeq (gIf (t2 eqD (fVar 4) (fC (.int 0))) (gRet (f2 addD (fVar 2) (fB tupleD (fCons (fOfL (fLc (fIt (fVar 2)) [5] (tgName 5) fYes (f1 negI (fVar 5)))) fNil)))) gNx)
    (gSeq (gIf (t2 eqD (fVar 4) (fC (.int 1))) (gRet (fB tupleD (fCons (fOfL (fLc (fRange1 (fCons (fVar 1) fNil)) [6] (tgName 6) fYes (f2 mulD (f2 ixD (fVar 2) (f2 fdvI (fVar 6) (fC (.int 2)))) (f2 subI (fC (.int 1)) (f2 mulD (fC (.int 2)) (f2 modI (fB int1D (fCons (fVar 6) fNil)) (fC (.int 2)))))))) fNil))) gNx)
    (gRet (f2 addD (fVar 2) (fB tupleD (fCons (fOfL (fLc (fRange1 (fCons (fB lenD (fCons (fVar 2) fNil)) fNil)) [6] (tgName 6) fYes (f2 mulD (f2 mulD (f2 ixD (fVar 2) (f2 subI (f2 subI (fB lenD (fCons (fVar 2) fNil)) (fC (.int 1))) (fVar 6))) (f2 subI (fC (.int 1)) (f2 mulD (fC (.int 2)) (fCallM 2 m__law_take 0 (fCons (fC (.int 2)) fNil))))) (f2 ixD (fVar 2) (fC (.int 0)))))) fNil))))))))))
def m__law_built : Fn := mkFn g__law_built (N__law_built.length - P__law_built.length)
abbrev s__law_count : Stmt := topS 35
abbrev N__law_count : List Str := ["_law_hand_here"]
abbrev P__law_count : List Str := ["_law_hand_here"]
theorem sc__law_count : FnScope N__law_count P__law_count (defScope s__law_count) := ⟨rfl, rfl, rfl, by decide +kernel, rfl, by decide +kernel, by decide +kernel⟩
def g__law_count : G :=
  (gSeq (gIf (t2 eqD (fCallM 2 m__law_take 0 (fCons (fC (.int 8)) fNil)) (fC (.int 7))) (gRet (f2 addD (fC (.int 12)) (fCallM 2 m__law_take 0 (fCons (fC (.int 13)) fNil)))) gNx)
    (gRet (f2 addD (fC (.int 1)) (fCallM 2 m__law_take 0 (fCons (fC (.int 8)) fNil)))))
def m__law_count : Fn := mkFn g__law_count (N__law_count.length - P__law_count.length)
abbrev s__check_first : Stmt := topS 11
abbrev N__check_first : List Str := ["signs"]
abbrev P__check_first : List Str := ["signs"]
theorem sc__check_first : FnScope N__check_first P__check_first (defScope s__check_first) := ⟨rfl, rfl, rfl, by decide +kernel, rfl, by decide +kernel, by decide +kernel⟩
def g__check_first : G :=
  (gSeq (gIf (t2 eqD (f2 ixD (fVar 0) (fC (.int 0))) (f1 negI (fC (.int 1)))) (gRaise "BadWord" ["index", "what"] (fCons (fC (.int 0)) (fCons (fC (.str "first")) fNil))) gNx)
    (gRet (fVar 0)))
def m__check_first : Fn := mkFn g__check_first (N__check_first.length - P__check_first.length)
abbrev s_is_row : Stmt := topS 7
abbrev N_is_row : List Str := ["thing", "low", "high"]
abbrev P_is_row : List Str := ["thing", "low", "high"]
theorem sc_is_row : FnScope N_is_row P_is_row (defScope s_is_row) := ⟨rfl, rfl, rfl, by decide +kernel, rfl, by decide +kernel, by decide +kernel⟩
def g_is_row : G :=
  (gRet (vAnd (fIsi2 "list" "tuple" (fVar 0)) (f3 leI leI (fVar 1) (fB lenD (fCons (fVar 0) fNil)) (fVar 2))))
def m_is_row : Fn := mkFn g_is_row (N_is_row.length - P_is_row.length)
abbrev s_is_whole : Stmt := topS 6
abbrev N_is_whole : List Str := ["thing", "low", "high"]
abbrev P_is_whole : List Str := ["thing", "low", "high"]
theorem sc_is_whole : FnScope N_is_whole P_is_whole (defScope s_is_whole) := ⟨rfl, rfl, rfl, by decide +kernel, rfl, by decide +kernel, by decide +kernel⟩
def g_is_whole : G :=
  (gSeq (gIf (fOr (fTru (fIsi "bool" (fVar 0))) (fNot (fTru (fIsi "int" (fVar 0))))) (gRet (fC (.bl false))) gNx)
    (gRet (vAnd (vOr (f2 isN (fVar 1) (fC .non)) (f2 geI (fVar 0) (fVar 1))) (vOr (f2 isN (fVar 2) (fC .non)) (f2 leI (fVar 0) (fVar 2))))))
def m_is_whole : Fn := mkFn g_is_whole (N_is_whole.length - P_is_whole.length)
abbrev s__check_sign_row : Stmt := topS 10
abbrev N__check_sign_row : List Str := ["signs", "low", "high", "index", "sign"]
abbrev P__check_sign_row : List Str := ["signs", "low", "high"]
theorem sc__check_sign_row : FnScope N__check_sign_row P__check_sign_row (defScope s__check_sign_row) := ⟨rfl, rfl, rfl, by decide +kernel, rfl, by decide +kernel, by decide +kernel⟩
def g__check_sign_row : G :=
  (gSeq (gIf (fNot (fTru (fCall 3 m_is_row [] (fCons (fVar 0) (fCons (fVar 1) (fCons (fVar 2) fNil)))))) (gRaise "BadWord" ["index", "what"] (fCons (fC (.int 0)) (fCons (fC (.str "many")) fNil))) gNx)
    (gSeq (gFor (fEnum (fCons (fVar 0) fNil)) (tgTup 2 (tgCons (tgName 3) (tgCons (tgName 4) tgNil))) (gIf (fOr (fNot (fTru (fCall 3 m_is_whole [] (fCons (fVar 4) (fCons (f1 negI (fC (.int 1))) (fCons (fC (.int 1)) fNil)))))) (t2 eqD (fVar 4) (fC (.int 0)))) (gRaise "BadWord" ["index", "what"] (fCons (fVar 3) (fCons (fC (.str "sign")) fNil))) gNx))
    (gRet (fB tupleD (fCons (fVar 0) fNil)))))
def m__check_sign_row : Fn := mkFn g__check_sign_row (N__check_sign_row.length - P__check_sign_row.length)
abbrev s_check_signs : Stmt := topS 12
abbrev N_check_signs : List Str := ["word"]
abbrev P_check_signs : List Str := ["word"]
theorem sc_check_signs : FnScope N_check_signs P_check_signs (defScope s_check_signs) := ⟨rfl, rfl, rfl, by decide +kernel, rfl, by decide +kernel, by decide +kernel⟩
def g_check_signs : G :=
  (gRet (fCall 1 m__check_first [] (fCons (fCall 3 m__check_sign_row [] (fCons (fVar 0) (fCons (fC (.int 1)) (fCons (fC (.int 24)) fNil)))) fNil)))
def m_check_signs : Fn := mkFn g_check_signs (N_check_signs.length - P_check_signs.length)
abbrev s__running_sums : Stmt := topS 15
abbrev N__running_sums : List Str := ["row", "sums", "total", "one"]
abbrev P__running_sums : List Str := ["row"]
theorem sc__running_sums : FnScope N__running_sums P__running_sums (defScope s__running_sums) := ⟨rfl, rfl, rfl, by decide +kernel, rfl, by decide +kernel, by decide +kernel⟩
def g__running_sums : G :=
  (gSeq (gOwn 1 (fDisp fNil))
    (gSeq (gSet 2 (fC (.int 0)))
    (gSeq (gFor (fIt (fVar 0)) (tgName 3) (gSeq (gSet 2 (f2 addD (fVar 2) (fVar 3)))
    (gApp 1 (fVar 2))))
    (gFrz 1 (gRet (fB tupleD (fCons (fVar 1) fNil)))))))
def m__running_sums : Fn := mkFn g__running_sums (N__running_sums.length - P__running_sums.length)
abbrev s_sum_rows : Stmt := topS 14
abbrev N_sum_rows : List Str := ["word", "row", "rows"]
abbrev P_sum_rows : List Str := ["word"]
theorem sc_sum_rows : FnScope N_sum_rows P_sum_rows (defScope s_sum_rows) := ⟨rfl, rfl, rfl, by decide +kernel, rfl, by decide +kernel, by decide +kernel⟩
def g_sum_rows : G :=
  (gSeq (gSet 1 (fCall 1 m_check_signs [] (fCons (fVar 0) fNil)))
    (gSeq (gOwn 2 (fDisp (fCons (fVar 1) fNil)))
    (gSeq (gWhile (t2 eqD (fB sumA (fCons (fVar 1) fNil)) (fC (.int 0))) (gSeq (gSet 1 (fCall 1 m__running_sums [] (fCons (fSl (fVar 1) oNone (oSome (f1 negI (fC (.int 1))))) fNil)))
    (gApp 2 (fVar 1))) fuel)
    (gFrz 2 (gRet (fB tupleD (fCons (fVar 2) fNil)))))))
def m_sum_rows : Fn := mkFn g_sum_rows (N_sum_rows.length - P_sum_rows.length)
abbrev s__law_rows : Stmt := topS 38
abbrev N__law_rows : List Str := ["_law_word_here", "_law_rows_here", "_law_turn", "_law_total", "_law_row", "_law_entry"]
abbrev P__law_rows : List Str := ["_law_word_here"]
theorem sc__law_rows : FnScope N__law_rows P__law_rows (defScope s__law_rows) := ⟨rfl, rfl, rfl, by decide +kernel, rfl, by decide +kernel, by decide +kernel⟩
def g__law_rows : G :=
  (gSeq (gOwn 1 (fDisp (fCons (fB tupleD (fCons (fVar 0) fNil)) fNil)))
    (gSeq (gFor (fRange1 (fCons (fB lenD (fCons (fVar 0) fNil)) fNil)) (tgName 2) (gSeq (gIf (t2 neD (fB sumA (fCons (fIxO 1 (f1 negI (fC (.int 1)))) fNil)) (fC (.int 0))) gBrk gNx)
    (gSeq (gMix 3 4 (fC (.int 0)) (fDisp fNil))
    (gSeq (gFor (fIt (fSl (fIxO 1 (f1 negI (fC (.int 1)))) oNone (oSome (f1 negI (fC (.int 1)))))) (tgName 5) (gSeq (gSet 3 (f2 addD (fVar 3) (fVar 5)))
    (gApp 4 (fVar 3))))
    (gApp 1 (fTupX 4))))))
    (gFrz 1 (gRet (fVar 1)))))
def m__law_rows : Fn := mkFn g__law_rows (N__law_rows.length - P__law_rows.length)
abbrev s_binomial_sums : Stmt := topS 17
abbrev N_binomial_sums : List Str := ["word", "many", "stride", "lower", "section", "sign"]
abbrev P_binomial_sums : List Str := ["word", "many", "stride"]
theorem sc_binomial_sums : FnScope N_binomial_sums P_binomial_sums (defScope s_binomial_sums) := ⟨rfl, rfl, rfl, by decide +kernel, rfl, by decide +kernel, by decide +kernel⟩
def g_binomial_sums : G :=
  (gRet (fOfL (fLc (fRange1 (fCons (fVar 1) fNil)) [3] (tgName 3) fYes (fB sumD (fCons (fOfL (fLc (fEnum (fCons (fVar 0) fNil)) [4, 5] (tgTup 2 (tgCons (tgName 4) (tgCons (tgName 5) tgNil))) fYes (f2 mulD (fVar 5) (fB combD (fCons (f2 mulD (fVar 2) (fVar 4)) (fCons (fVar 3) fNil)))))) fNil)))))
def m_binomial_sums : Fn := mkFn g_binomial_sums (N_binomial_sums.length - P_binomial_sums.length)
abbrev s_binomial_noises : Stmt := topS 16
abbrev N_binomial_noises : List Str := ["word", "many", "total"]
abbrev P_binomial_noises : List Str := ["word", "many"]
theorem sc_binomial_noises : FnScope N_binomial_noises P_binomial_noises (defScope s_binomial_noises) := ⟨rfl, rfl, rfl, by decide +kernel, rfl, by decide +kernel, by decide +kernel⟩
def g_binomial_noises : G :=
  (gSeq (gSet 0 (fCall 1 m_check_signs [] (fCons (fVar 0) fNil)))
    (gSeq (gIf (fNot (fTru (fCall 3 m_is_whole [] (fCons (fVar 1) (fCons (fC (.int 1)) (fCons (fC (.int 24)) fNil)))))) (gRaise0 "BadCount") gNx)
    (gRet (fB tupleD (fCons (fOfL (fLc (fIt (fCall 3 m_binomial_sums [] (fCons (fVar 0) (fCons (fVar 1) (fCons (fC (.int 1)) fNil))))) [2] (tgName 2) fYes (fTup (fCons (fVar 2) (fCons (fC (.int 1)) fNil))))) fNil)))))
def m_binomial_noises : Fn := mkFn g_binomial_noises (N_binomial_noises.length - P_binomial_noises.length)
abbrev s__law_gcd : Stmt := topS 22
abbrev N__law_gcd : List Str := ["_law_one", "_law_other"]
abbrev P__law_gcd : List Str := ["_law_one", "_law_other"]
theorem sc__law_gcd : FnScope N__law_gcd P__law_gcd (defScope s__law_gcd) := ⟨rfl, rfl, rfl, by decide +kernel, rfl, by decide +kernel, by decide +kernel⟩
def g__law_gcd : G :=
  (gSeq (gPar 0 1 (fCons (fB absD (fCons (fVar 0) fNil)) (fCons (fB absD (fCons (fVar 1) fNil)) fNil)))
    (gSeq (gWhile (fTru (fVar 1)) (gPar 0 1 (fCons (fVar 1) (fCons (f2 modI (fB int1D (fCons (fVar 0) fNil)) (fVar 1)) fNil))) fuel)
    (gRet (fVar 0))))
def m__law_gcd : Fn := mkFn g__law_gcd (N__law_gcd.length - P__law_gcd.length)
abbrev s__law_ratio : Stmt := topS 23
abbrev N__law_ratio : List Str := ["_law_top", "_law_bottom", "_law_part"]
abbrev P__law_ratio : List Str := ["_law_top", "_law_bottom"]
theorem sc__law_ratio : FnScope N__law_ratio P__law_ratio (defScope s__law_ratio) := ⟨rfl, rfl, rfl, by decide +kernel, rfl, by decide +kernel, by decide +kernel⟩
def g__law_ratio : G :=
  (gSeq (gSet 2 (fCall 2 m__law_gcd [] (fCons (fVar 0) (fCons (fVar 1) fNil))))
    (gSeq (gIf (t2 ltI (fVar 1) (fC (.int 0))) (gSet 2 (f1 negI (fVar 2))) gNx)
    (gRet (fTup (fCons (f2 fdvI (fVar 0) (fVar 2)) (fCons (f2 fdvI (fVar 1) (fVar 2)) fNil))))))
def m__law_ratio : Fn := mkFn g__law_ratio (N__law_ratio.length - P__law_ratio.length)
abbrev s__law_plus : Stmt := topS 24
abbrev N__law_plus : List Str := ["_law_one", "_law_other"]
abbrev P__law_plus : List Str := ["_law_one", "_law_other"]
theorem sc__law_plus : FnScope N__law_plus P__law_plus (defScope s__law_plus) := ⟨rfl, rfl, rfl, by decide +kernel, rfl, by decide +kernel, by decide +kernel⟩
def g__law_plus : G :=
  (gRet (fCall 2 m__law_ratio [] (fCons (f2 addD (f2 mulD (f2 ixD (fVar 0) (fC (.int 0))) (f2 ixD (fVar 1) (fC (.int 1)))) (f2 mulD (f2 ixD (fVar 1) (fC (.int 0))) (f2 ixD (fVar 0) (fC (.int 1))))) (fCons (f2 mulD (f2 ixD (fVar 0) (fC (.int 1))) (f2 ixD (fVar 1) (fC (.int 1)))) fNil))))
def m__law_plus : Fn := mkFn g__law_plus (N__law_plus.length - P__law_plus.length)
abbrev s__law_times : Stmt := topS 25
abbrev N__law_times : List Str := ["_law_one", "_law_other"]
abbrev P__law_times : List Str := ["_law_one", "_law_other"]
theorem sc__law_times : FnScope N__law_times P__law_times (defScope s__law_times) := ⟨rfl, rfl, rfl, by decide +kernel, rfl, by decide +kernel, by decide +kernel⟩
def g__law_times : G :=
  (gRet (fCall 2 m__law_ratio [] (fCons (f2 mulD (f2 ixD (fVar 0) (fC (.int 0))) (f2 ixD (fVar 1) (fC (.int 0)))) (fCons (f2 mulD (f2 ixD (fVar 0) (fC (.int 1))) (f2 ixD (fVar 1) (fC (.int 1)))) fNil))))
def m__law_times : Fn := mkFn g__law_times (N__law_times.length - P__law_times.length)
abbrev s__law_noise : Stmt := topS 27
abbrev N__law_noise : List Str := ["_law_lengths", "_law_word_here", "_law_hum", "_law_total", "_law_k"]
abbrev P__law_noise : List Str := ["_law_lengths", "_law_word_here", "_law_hum"]
theorem sc__law_noise : FnScope N__law_noise P__law_noise (defScope s__law_noise) := ⟨rfl, rfl, rfl, by decide +kernel, rfl, by decide +kernel, by decide +kernel⟩
def g__law_noise : G :=
  (gSeq (gSet 3 (fTup (fCons (fC (.int 0)) (fCons (fC (.int 1)) fNil))))
    (gSeq (gFor (fRange1 (fCons (fB lenD (fCons (fVar 1) fNil)) fNil)) (tgName 4) (gSet 3 (fCall 2 m__law_plus [] (fCons (fVar 3) (fCons (fCall 2 m__law_times [] (fCons (fTup (fCons (f2 mulD (f2 ixD (f2 ixD (fVar 0) (fVar 4)) (fC (.int 0))) (f2 ixD (fVar 1) (fVar 4))) (fCons (f2 ixD (f2 ixD (fVar 0) (fVar 4)) (fC (.int 1))) fNil))) (fCons (f2 ixD (fVar 2) (fVar 4)) fNil))) fNil)))))
    (gRet (fVar 3))))
def m__law_noise : Fn := mkFn g__law_noise (N__law_noise.length - P__law_noise.length)
abbrev s__law_power : Stmt := topS 26
abbrev N__law_power : List Str := ["_law_one", "_law_exponent", "_law_found", "_law_turn"]
abbrev P__law_power : List Str := ["_law_one", "_law_exponent"]
theorem sc__law_power : FnScope N__law_power P__law_power (defScope s__law_power) := ⟨rfl, rfl, rfl, by decide +kernel, rfl, by decide +kernel, by decide +kernel⟩
def g__law_power : G :=
  (gSeq (gSet 2 (fTup (fCons (fC (.int 1)) (fCons (fC (.int 1)) fNil))))
    (gSeq (gFor (fRange1 (fCons (fVar 1) fNil)) (tgName 3) (gSet 2 (fTup (fCons (f2 mulD (f2 ixD (fVar 2) (fC (.int 0))) (f2 ixD (fVar 0) (fC (.int 0)))) (fCons (f2 mulD (f2 ixD (fVar 2) (fC (.int 1))) (f2 ixD (fVar 0) (fC (.int 1)))) fNil)))))
    (gRet (fVar 2))))
def m__law_power : Fn := mkFn g__law_power (N__law_power.length - P__law_power.length)
abbrev s__law_mark_hum : Stmt := topS 28
abbrev N__law_mark_hum : List Str := ["_law_marks", "_law_power_here", "_law_mark"]
abbrev P__law_mark_hum : List Str := ["_law_marks", "_law_power_here"]
theorem sc__law_mark_hum : FnScope N__law_mark_hum P__law_mark_hum (defScope s__law_mark_hum) := ⟨rfl, rfl, rfl, by decide +kernel, rfl, by decide +kernel, by decide +kernel⟩
def g__law_mark_hum : G :=
  (gRet (fB tupleD (fCons (fOfL (fLc (fIt (fVar 0)) [2] (tgName 2) fYes (fCall 2 m__law_power [] (fCons (fVar 2) (fCons (fVar 1) fNil))))) fNil)))
def m__law_mark_hum : Fn := mkFn g__law_mark_hum (N__law_mark_hum.length - P__law_mark_hum.length)
abbrev s__law_order : Stmt := topS 29
abbrev N__law_order : List Str := ["_law_lengths", "_law_marks", "_law_word_here", "_law_power_here"]
abbrev P__law_order : List Str := ["_law_lengths", "_law_marks", "_law_word_here"]
theorem sc__law_order : FnScope N__law_order P__law_order (defScope s__law_order) := ⟨rfl, rfl, rfl, by decide +kernel, rfl, by decide +kernel, by decide +kernel⟩
def g__law_order : G :=
  (gSeq (gFor (fRange1 (fCons (fB lenD (fCons (fVar 2) fNil)) fNil)) (tgName 3) (gIf (t2 neD (f2 ixD (fCall 3 m__law_noise [] (fCons (fVar 0) (fCons (fVar 2) (fCons (fCall 2 m__law_mark_hum [] (fCons (fVar 1) (fCons (fVar 3) fNil))) fNil)))) (fC (.int 0))) (fC (.int 0))) (gRet (fVar 3)) gNx))
    (gRet (fB lenD (fCons (fVar 2) fNil))))
def m__law_order : Fn := mkFn g__law_order (N__law_order.length - P__law_order.length)
abbrev s__law_line_order : Stmt := topS 42
abbrev N__law_line_order : List Str := ["_law_line", "_law_word_here"]
abbrev P__law_line_order : List Str := ["_law_line", "_law_word_here"]
theorem sc__law_line_order : FnScope N__law_line_order P__law_line_order (defScope s__law_line_order) := ⟨rfl, rfl, rfl, by decide +kernel, rfl, by decide +kernel, by decide +kernel⟩
def g__law_line_order : G :=
  (gRet (fCall 3 m__law_order [] (fCons (f2 ixD (fVar 0) (fC (.int 0))) (fCons (f2 ixD (fVar 0) (fC (.int 1))) (fCons (fVar 1) fNil)))))
def m__law_line_order : Fn := mkFn g__law_line_order (N__law_line_order.length - P__law_line_order.length)
abbrev s__law_is_ratio : Stmt := topS 33
abbrev N__law_is_ratio : List Str := ["_law_thing", "_law_part"]
abbrev P__law_is_ratio : List Str := ["_law_thing"]
theorem sc__law_is_ratio : FnScope N__law_is_ratio P__law_is_ratio (defScope s__law_is_ratio) := ⟨rfl, rfl, rfl, by decide +kernel, rfl, by decide +kernel, by decide +kernel⟩
def g__law_is_ratio : G :=
  (gSeq (gIf (fOr (fNot (fTru (fIsi "tuple" (fVar 0)))) (t2 neD (fB lenD (fCons (fVar 0) fNil)) (fC (.int 2)))) (gRet (fC (.bl false))) gNx)
    (gSeq (gFor (fIt (fVar 0)) (tgName 1) (gIf (fOr (fTru (fIsi "bool" (fVar 1))) (fNot (fTru (fIsi "int" (fVar 1))))) (gRet (fC (.bl false))) gNx))
    (gRet (vAnd (f2 gtI (f2 ixD (fVar 0) (fC (.int 1))) (fC (.int 0))) (f2 eqD (fCall 2 m__law_gcd [] (fCons (f2 ixD (fVar 0) (fC (.int 0))) (fCons (f2 ixD (fVar 0) (fC (.int 1))) fNil))) (fC (.int 1)))))))
def m__law_is_ratio : Fn := mkFn g__law_is_ratio (N__law_is_ratio.length - P__law_is_ratio.length)
abbrev s__law_is_row : Stmt := topS 34
abbrev N__law_is_row : List Str := ["_law_thing", "_law_many", "_law_one"]
abbrev P__law_is_row : List Str := ["_law_thing", "_law_many"]
theorem sc__law_is_row : FnScope N__law_is_row P__law_is_row (defScope s__law_is_row) := ⟨rfl, rfl, rfl, by decide +kernel, rfl, by decide +kernel, by decide +kernel⟩
def g__law_is_row : G :=
  (gRet (vAnd (fIsi "tuple" (fVar 0)) (vAnd (f2 eqD (fB lenD (fCons (fVar 0) fNil)) (fVar 1)) (vNotT (fOfL (fLc (fIt (fVar 0)) [2] (tgName 2) (fNot (fTru (fCall 1 m__law_is_ratio [] (fCons (fVar 2) fNil)))) (fC (.int 1))))))))
def m__law_is_row : Fn := mkFn g__law_is_row (N__law_is_row.length - P__law_is_row.length)
abbrev s__law_even : Stmt := topS 30
abbrev N__law_even : List Str := ["_law_count_here", "_law_k"]
abbrev P__law_even : List Str := ["_law_count_here"]
theorem sc__law_even : FnScope N__law_even P__law_even (defScope s__law_even) := ⟨rfl, rfl, rfl, by decide +kernel, rfl, by decide +kernel, by decide +kernel⟩
def g__law_even : G :=
  (gRet (fTup (fCons (fB tupleD (fCons (fOfL (fLc (fRange1 (fCons (fVar 0) fNil)) [1] (tgName 1) fYes (fTup (fCons (fC (.int 1)) (fCons (fC (.int 1)) fNil))))) fNil)) (fCons (fB tupleD (fCons (fOfL (fLc (fRange1 (fCons (fVar 0) fNil)) [1] (tgName 1) fYes (fTup (fCons (fVar 1) (fCons (fC (.int 1)) fNil))))) fNil)) fNil))))
def m__law_even : Fn := mkFn g__law_even (N__law_even.length - P__law_even.length)
abbrev s__law_is_whole : Stmt := topS 36
abbrev N__law_is_whole : List Str := ["_law_thing"]
abbrev P__law_is_whole : List Str := ["_law_thing"]
theorem sc__law_is_whole : FnScope N__law_is_whole P__law_is_whole (defScope s__law_is_whole) := ⟨rfl, rfl, rfl, by decide +kernel, rfl, by decide +kernel, by decide +kernel⟩
def g__law_is_whole : G :=
  (gRet (vAnd (fIsi "int" (fVar 0)) (vNotT (fIsi "bool" (fVar 0)))))
def m__law_is_whole : Fn := mkFn g__law_is_whole (N__law_is_whole.length - P__law_is_whole.length)
abbrev s__law_all_whole : Stmt := topS 37
abbrev N__law_all_whole : List Str := ["_law_row", "_law_one"]
abbrev P__law_all_whole : List Str := ["_law_row"]
theorem sc__law_all_whole : FnScope N__law_all_whole P__law_all_whole (defScope s__law_all_whole) := ⟨rfl, rfl, rfl, by decide +kernel, rfl, by decide +kernel, by decide +kernel⟩
def g__law_all_whole : G :=
  (gRet (vAnd (fIsi "tuple" (fVar 0)) (vNotT (fOfL (fLc (fIt (fVar 0)) [1] (tgName 1) (fNot (fTru (fCall 1 m__law_is_whole [] (fCons (fVar 1) fNil)))) (fC (.int 1)))))))
def m__law_all_whole : Fn := mkFn g__law_all_whole (N__law_all_whole.length - P__law_all_whole.length)
abbrev s__law_chosen : Stmt := topS 39
abbrev N__law_chosen : List Str := ["_law_whole", "_law_many", "_law_row", "_law_at"]
abbrev P__law_chosen : List Str := ["_law_whole", "_law_many"]
theorem sc__law_chosen : FnScope N__law_chosen P__law_chosen (defScope s__law_chosen) := ⟨rfl, rfl, rfl, by decide +kernel, rfl, by decide +kernel, by decide +kernel⟩
def g__law_chosen : G :=
  (gSeq (gOwn 2 (fDisp (fCons (fC (.int 1)) fNil)))
    (gSeq (gFor (fRange2 (fCons (fC (.int 1)) (fCons (fVar 1) fNil))) (tgName 3) (gApp 2 (f2 fdvI (f2 mulD (fIxO 2 (f2 subI (fVar 3) (fC (.int 1)))) (f2 addD (f2 subI (fVar 0) (fVar 3)) (fC (.int 1)))) (fVar 3))))
    (gFrz 2 (gRet (fVar 2)))))
def m__law_chosen : Fn := mkFn g__law_chosen (N__law_chosen.length - P__law_chosen.length)
abbrev s__law_binomials : Stmt := topS 40
abbrev N__law_binomials : List Str := ["_law_signs", "_law_step", "_law_many", "_law_found", "_law_k", "_law_chosen_here", "_law_at"]
abbrev P__law_binomials : List Str := ["_law_signs", "_law_step", "_law_many"]
theorem sc__law_binomials : FnScope N__law_binomials P__law_binomials (defScope s__law_binomials) := ⟨rfl, rfl, rfl, by decide +kernel, rfl, by decide +kernel, by decide +kernel⟩
def g__law_binomials : G :=
  (gSeq (gSet 3 (f2 mulD (fLst (fCons (fC (.int 0)) fNil)) (fVar 2)))
    (gSeq (gFor (fRange1 (fCons (fB lenD (fCons (fVar 0) fNil)) fNil)) (tgName 4) (gSeq (gSet 5 (fCall 2 m__law_chosen [] (fCons (f2 mulD (fVar 4) (fVar 1)) (fCons (fVar 2) fNil))))
    (gSet 3 (fOfL (fLc (fRange1 (fCons (fVar 2) fNil)) [6] (tgName 6) fYes (f2 addD (f2 ixD (fVar 3) (fVar 6)) (f2 mulD (f2 ixD (fVar 0) (fVar 4)) (f2 ixD (fVar 5) (fVar 6)))))))))
    (gRet (fVar 3))))
def m__law_binomials : Fn := mkFn g__law_binomials (N__law_binomials.length - P__law_binomials.length)
abbrev s__law_right : Stmt := topS 45
abbrev N__law_right : List Str := ["_law_word_here", "_law_many", "_law_rows_here", "_law_due", "_law_order_here", "_law_noises", "_law_row", "_law_heard"]
abbrev P__law_right : List Str := ["_law_word_here", "_law_many"]
theorem sc__law_right : FnScope N__law_right P__law_right (defScope s__law_right) := ⟨rfl, rfl, rfl, by decide +kernel, rfl, by decide +kernel, by decide +kernel⟩
def gs__law_right_1 : G :=
  (gSet 2 (fCall 1 m_sum_rows [] (fCons (fOfL (fListOf (fVar 0))) fNil)))
def gs__law_right_2 : G :=
  (gSet 3 (fCall 1 m__law_rows [] (fCons (fVar 0) fNil)))
def gs__law_right_3 : G :=
  (gIf (fOr (t2 neD (fVar 2) (fB tupleD (fCons (fVar 3) fNil))) (fTru (fOfL (fLc (fIt (fVar 2)) [6] (tgName 6) (fNot (fTru (fCall 1 m__law_all_whole [] (fCons (fVar 6) fNil)))) (fC (.int 1)))))) (gRet (fC (.bl false))) gNx)
def gs__law_right_4 : G :=
  (gSet 4 (f2 subI (fB lenD (fCons (fVar 2) fNil)) (fC (.int 1))))
def gs__law_right_5 : G :=
  (gIf (fOr (t2 neD (fVar 4) (fCall 2 m__law_line_order [] (fCons (fCall 1 m__law_even [] (fCons (fB lenD (fCons (fVar 0) fNil)) fNil)) (fCons (fVar 0) fNil)))) (t2 eqD (fB sumA (fCons (f2 ixD (fVar 2) (f1 negI (fC (.int 1)))) fNil)) (fC (.int 0)))) (gRet (fC (.bl false))) gNx)
def gs__law_right_6 : G :=
  (gSet 5 (fCall 2 m_binomial_noises [] (fCons (fVar 0) (fCons (fVar 1) fNil))))
def gs__law_right_7 : G :=
  (gIf (fOr (fNot (fTru (fCall 2 m__law_is_row [] (fCons (fVar 5) (fCons (fVar 1) fNil))))) (t2 neD (fVar 5) (fB tupleD (fCons (fOfL (fLc (fIt (fCall 3 m__law_binomials [] (fCons (fVar 0) (fCons (fC (.int 1)) (fCons (fVar 1) fNil))))) [7] (tgName 7) fYes (fTup (fCons (fVar 7) (fCons (fC (.int 1)) fNil))))) fNil)))) (gRet (fC (.bl false))) gNx)
def gs__law_right_8 : G :=
  (gIf (fTru (fOfL (fLc (fIt (fSl (fVar 5) oNone (oSome (fVar 4)))) [7] (tgName 7) (t2 neD (fVar 7) (fTup (fCons (fC (.int 0)) (fCons (fC (.int 1)) fNil)))) (fC (.int 1))))) (gRet (fC (.bl false))) gNx)
def gs__law_right_9 : G :=
  (gRet (vOr (f2 geI (fVar 4) (fVar 1)) (f2 eqD (f2 ixD (fVar 5) (fVar 4)) (fTup (fCons (f2 mulD (fB sumA (fCons (f2 ixD (fVar 2) (f1 negI (fC (.int 1)))) fNil)) (f2 subI (fC (.int 1)) (f2 mulD (fC (.int 2)) (f2 modI (fB int1D (fCons (fVar 4) fNil)) (fC (.int 2)))))) (fCons (fC (.int 1)) fNil))))))
def g__law_right : G :=
  (gSeq gs__law_right_1
    (gSeq gs__law_right_2
    (gSeq gs__law_right_3
    (gSeq gs__law_right_4
    (gSeq gs__law_right_5
    (gSeq gs__law_right_6
    (gSeq gs__law_right_7
    (gSeq gs__law_right_8
    gs__law_right_9))))))))
def m__law_right : Fn := mkFn g__law_right (N__law_right.length - P__law_right.length)
abbrev s__law_refused : Stmt := topS 43
abbrev N__law_refused : List Str := ["_law_word_here", "_law_many", "e"]
abbrev P__law_refused : List Str := ["_law_word_here", "_law_many"]
theorem sc__law_refused : FnScope N__law_refused P__law_refused (defScope s__law_refused) := ⟨rfl, rfl, rfl, by decide +kernel, rfl, by decide +kernel, by decide +kernel⟩
def g__law_refused : G :=
  (gSeq (gTryM (gDrop (fCall 2 m_binomial_noises [] (fCons (fVar 0) (fCons (fVar 1) fNil)))) [(cat_BadWord, (some 2), (gRet (fTup (fCons (fC (.str "word")) (fCons (fXf 2 "BadWord" "index") (fCons (fXf 2 "BadWord" "what") fNil)))))), (cat_BadCount, none, (gRet (fTup (fCons (fC (.str "count")) fNil))))])
    (gRet (fC .non)))
def m__law_refused : Fn := mkFn g__law_refused (N__law_refused.length - P__law_refused.length)
abbrev s__law_rows_refused : Stmt := topS 44
abbrev N__law_rows_refused : List Str := ["_law_word_here", "e"]
abbrev P__law_rows_refused : List Str := ["_law_word_here"]
theorem sc__law_rows_refused : FnScope N__law_rows_refused P__law_rows_refused (defScope s__law_rows_refused) := ⟨rfl, rfl, rfl, by decide +kernel, rfl, by decide +kernel, by decide +kernel⟩
def g__law_rows_refused : G :=
  (gSeq (gTryAs (gDrop (fCall 1 m_sum_rows [] (fCons (fVar 0) fNil))) cat_BadWord 1 (gRet (fTup (fCons (fXf 1 "BadWord" "index") (fCons (fXf 1 "BadWord" "what") fNil)))))
    (gRet (fC .non)))
def m__law_rows_refused : Fn := mkFn g__law_rows_refused (N__law_rows_refused.length - P__law_rows_refused.length)
abbrev s_law : Stmt := topS 46
abbrev N_law : List Str := ["_law_script", "_law_hand_here", "_law_turn", "_law_word_here", "_law_many", "_law_pick", "_law_strange", "_law_odd", "_law_index", "_law_what"]
abbrev P_law : List Str := ["_law_script"]
theorem sc_law : FnScope N_law P_law (defScope s_law) := ⟨rfl, rfl, rfl, by decide +kernel, rfl, by decide +kernel, by decide +kernel⟩
def g_law : G :=
  (gSeq (gOwn 1 (fCallN 1 m__law_hand [] (fCons (fVar 0) fNil)))
    (gSeq (gFor (fRange1 (fCons (fC (.int 3)) fNil)) (tgName 2) (gSeq (gSet 3 (fCallM 2 m__law_built 1 (fCons (fCallM 1 m__law_count 1 fNil) fNil)))
    (gSeq (gSet 4 (f2 addD (fC (.int 1)) (fCallM 2 m__law_take 1 (fCons (fIf (t2 eqD (fVar 2) (fC (.int 0))) (fC (.int 24)) (fC (.int 8))) fNil))))
    (gIf (fNot (fTru (fCall 2 m__law_right [] (fCons (fVar 3) (fCons (fVar 4) fNil))))) (gRet (fC (.bl false))) gNx))))
    (gSeq (gSet 5 (fCallM 2 m__law_take 1 (fCons (fC (.int 8)) fNil)))
    (gSeq (gSet 6 (f2 ixD (fLst (fCons (fC (.int 0)) (fCons (fC (.int 25)) (fCons (fC (.bl true)) (fCons (fC .non) (fCons (fC (.str "3")) (fCons (fTup (fCons (fC (.int 3)) (fCons (fC (.int 1)) fNil))) (fCons (f2 subI (f1 negI (fC (.int 1))) (fCallM 2 m__law_take 1 (fCons (fC (.int 9)) fNil))) (fCons (f2 addD (fC (.int 26)) (fCallM 2 m__law_take 1 (fCons (f2 powI (fC (.int 10)) (fC (.int 9))) fNil))) fNil))))))))) (fVar 5)))
    (gSeq (gAsg (tgTup 3 (tgCons (tgName 7) (tgCons (tgName 8) (tgCons (tgName 9) tgNil)))) (fCallM 2 m__law_odd_word 1 (fCons (fVar 3) fNil)))
    (gSeq (gIf (fOr (t2 neD (fCall 2 m__law_refused [] (fCons (fVar 3) (fCons (fVar 6) fNil))) (fTup (fCons (fC (.str "count")) fNil))) (t2 neD (fCall 2 m__law_refused [] (fCons (fVar 7) (fCons (fVar 6) fNil))) (fTup (fCons (fC (.str "word")) (fCons (fVar 8) (fCons (fVar 9) fNil)))))) (gRet (fC (.bl false))) gNx)
    (gSeq (gIf (fOr (t2 neD (fCall 2 m__law_refused [] (fCons (fVar 7) (fCons (fVar 4) fNil))) (fTup (fCons (fC (.str "word")) (fCons (fVar 8) (fCons (fVar 9) fNil))))) (t2 neD (fCall 1 m__law_rows_refused [] (fCons (fVar 7) fNil)) (fTup (fCons (fVar 8) (fCons (fVar 9) fNil))))) (gRet (fC (.bl false))) gNx)
    (gRet (vAnd (f2 isN (fCall 2 m__law_refused [] (fCons (fVar 3) (fCons (fC (.int 24)) fNil))) (fC .non)) (vAnd (f2 isN (fCall 2 m__law_refused [] (fCons (fOfL (fListOf (fVar 3))) (fCons (fC (.int 1)) fNil))) (fC .non)) (f2 isN (fCall 1 m__law_rows_refused [] (fCons (fVar 3) fNil)) (fC .non))))))))))))
def m_law : Fn := mkFn g_law (N_law.length - P_law.length)
structure Ad where
  f__law_hand : Addr
  d__law_hand : FuncData
  f__law_mixed : Addr
  d__law_mixed : FuncData
  f__law_take : Addr
  d__law_take : FuncData
  f__law_odd_word : Addr
  d__law_odd_word : FuncData
  f__law_word : Addr
  d__law_word : FuncData
  f__law_built : Addr
  d__law_built : FuncData
  f__law_count : Addr
  d__law_count : FuncData
  f__check_first : Addr
  d__check_first : FuncData
  f_is_row : Addr
  d_is_row : FuncData
  f_is_whole : Addr
  d_is_whole : FuncData
  f__check_sign_row : Addr
  d__check_sign_row : FuncData
  f_check_signs : Addr
  d_check_signs : FuncData
  f__running_sums : Addr
  d__running_sums : FuncData
  f_sum_rows : Addr
  d_sum_rows : FuncData
  f__law_rows : Addr
  d__law_rows : FuncData
  f_binomial_sums : Addr
  d_binomial_sums : FuncData
  f_binomial_noises : Addr
  d_binomial_noises : FuncData
  f__law_gcd : Addr
  d__law_gcd : FuncData
  f__law_ratio : Addr
  d__law_ratio : FuncData
  f__law_plus : Addr
  d__law_plus : FuncData
  f__law_times : Addr
  d__law_times : FuncData
  f__law_noise : Addr
  d__law_noise : FuncData
  f__law_power : Addr
  d__law_power : FuncData
  f__law_mark_hum : Addr
  d__law_mark_hum : FuncData
  f__law_order : Addr
  d__law_order : FuncData
  f__law_line_order : Addr
  d__law_line_order : FuncData
  f__law_is_ratio : Addr
  d__law_is_ratio : FuncData
  f__law_is_row : Addr
  d__law_is_row : FuncData
  f__law_even : Addr
  d__law_even : FuncData
  f__law_is_whole : Addr
  d__law_is_whole : FuncData
  f__law_all_whole : Addr
  d__law_all_whole : FuncData
  f__law_chosen : Addr
  d__law_chosen : FuncData
  f__law_binomials : Addr
  d__law_binomials : FuncData
  f__law_right : Addr
  d__law_right : FuncData
  f__law_refused : Addr
  d__law_refused : FuncData
  f__law_rows_refused : Addr
  d__law_rows_refused : FuncData
  f_law : Addr
  d_law : FuncData
  C_BadWord : Addr
  i_BadWord : Addr
  di_BadWord : FuncData
  C_BadCount : Addr
  unit : Unit := ()
structure Tx (K : PySem.W.Frag) (mg : Str → Option Value) (a : Ad) : Prop where
  F__law_hand : L2.Fun K "_law_hand" "_law_hand" s__law_hand a.f__law_hand a.d__law_hand
  g__law_hand : mg "_law_hand" = some (.ref a.f__law_hand)
  k__law_hand : PySem.W.keepIn K (.ref a.f__law_hand) = true
  b__law_hand_1 : Binds K a.d__law_hand P__law_hand []
  F__law_mixed : L2.Fun K "_law_mixed" "_law_mixed" s__law_mixed a.f__law_mixed a.d__law_mixed
  g__law_mixed : mg "_law_mixed" = some (.ref a.f__law_mixed)
  k__law_mixed : PySem.W.keepIn K (.ref a.f__law_mixed) = true
  b__law_mixed_2 : Binds K a.d__law_mixed P__law_mixed []
  F__law_take : L2.Fun K "_law_take" "_law_take" s__law_take a.f__law_take a.d__law_take
  g__law_take : mg "_law_take" = some (.ref a.f__law_take)
  k__law_take : PySem.W.keepIn K (.ref a.f__law_take) = true
  b__law_take_2 : Binds K a.d__law_take P__law_take []
  F__law_odd_word : L2.Fun K "_law_odd_word" "_law_odd_word" s__law_odd_word a.f__law_odd_word a.d__law_odd_word
  g__law_odd_word : mg "_law_odd_word" = some (.ref a.f__law_odd_word)
  k__law_odd_word : PySem.W.keepIn K (.ref a.f__law_odd_word) = true
  b__law_odd_word_2 : Binds K a.d__law_odd_word P__law_odd_word []
  F__law_word : L2.Fun K "_law_word" "_law_word" s__law_word a.f__law_word a.d__law_word
  g__law_word : mg "_law_word" = some (.ref a.f__law_word)
  k__law_word : PySem.W.keepIn K (.ref a.f__law_word) = true
  b__law_word_2 : Binds K a.d__law_word P__law_word []
  F__law_built : L2.Fun K "_law_built" "_law_built" s__law_built a.f__law_built a.d__law_built
  g__law_built : mg "_law_built" = some (.ref a.f__law_built)
  k__law_built : PySem.W.keepIn K (.ref a.f__law_built) = true
  b__law_built_2 : Binds K a.d__law_built P__law_built []
  F__law_count : L2.Fun K "_law_count" "_law_count" s__law_count a.f__law_count a.d__law_count
  g__law_count : mg "_law_count" = some (.ref a.f__law_count)
  k__law_count : PySem.W.keepIn K (.ref a.f__law_count) = true
  b__law_count_1 : Binds K a.d__law_count P__law_count []
  F__check_first : L2.Fun K "_check_first" "_check_first" s__check_first a.f__check_first a.d__check_first
  g__check_first : mg "_check_first" = some (.ref a.f__check_first)
  k__check_first : PySem.W.keepIn K (.ref a.f__check_first) = true
  b__check_first_1 : Binds K a.d__check_first P__check_first []
  F_is_row : L2.Fun K "is_row" "is_row" s_is_row a.f_is_row a.d_is_row
  g_is_row : mg "is_row" = some (.ref a.f_is_row)
  k_is_row : PySem.W.keepIn K (.ref a.f_is_row) = true
  b_is_row_3 : Binds K a.d_is_row P_is_row []
  F_is_whole : L2.FunD K "is_whole" "is_whole" (defArgs s_is_whole) (defBody s_is_whole) (defScope s_is_whole) [.non, .non] [] a.f_is_whole a.d_is_whole
  g_is_whole : mg "is_whole" = some (.ref a.f_is_whole)
  k_is_whole : PySem.W.keepIn K (.ref a.f_is_whole) = true
  b_is_whole_3 : Binds K a.d_is_whole P_is_whole []
  F__check_sign_row : L2.Fun K "_check_sign_row" "_check_sign_row" s__check_sign_row a.f__check_sign_row a.d__check_sign_row
  g__check_sign_row : mg "_check_sign_row" = some (.ref a.f__check_sign_row)
  k__check_sign_row : PySem.W.keepIn K (.ref a.f__check_sign_row) = true
  b__check_sign_row_3 : Binds K a.d__check_sign_row P__check_sign_row []
  F_check_signs : L2.Fun K "check_signs" "check_signs" s_check_signs a.f_check_signs a.d_check_signs
  g_check_signs : mg "check_signs" = some (.ref a.f_check_signs)
  k_check_signs : PySem.W.keepIn K (.ref a.f_check_signs) = true
  b_check_signs_1 : Binds K a.d_check_signs P_check_signs []
  F__running_sums : L2.Fun K "_running_sums" "_running_sums" s__running_sums a.f__running_sums a.d__running_sums
  g__running_sums : mg "_running_sums" = some (.ref a.f__running_sums)
  k__running_sums : PySem.W.keepIn K (.ref a.f__running_sums) = true
  b__running_sums_1 : Binds K a.d__running_sums P__running_sums []
  F_sum_rows : L2.Fun K "sum_rows" "sum_rows" s_sum_rows a.f_sum_rows a.d_sum_rows
  g_sum_rows : mg "sum_rows" = some (.ref a.f_sum_rows)
  k_sum_rows : PySem.W.keepIn K (.ref a.f_sum_rows) = true
  b_sum_rows_1 : Binds K a.d_sum_rows P_sum_rows []
  F__law_rows : L2.Fun K "_law_rows" "_law_rows" s__law_rows a.f__law_rows a.d__law_rows
  g__law_rows : mg "_law_rows" = some (.ref a.f__law_rows)
  k__law_rows : PySem.W.keepIn K (.ref a.f__law_rows) = true
  b__law_rows_1 : Binds K a.d__law_rows P__law_rows []
  F_binomial_sums : L2.Fun K "binomial_sums" "binomial_sums" s_binomial_sums a.f_binomial_sums a.d_binomial_sums
  g_binomial_sums : mg "binomial_sums" = some (.ref a.f_binomial_sums)
  k_binomial_sums : PySem.W.keepIn K (.ref a.f_binomial_sums) = true
  b_binomial_sums_3 : Binds K a.d_binomial_sums P_binomial_sums []
  F_binomial_noises : L2.Fun K "binomial_noises" "binomial_noises" s_binomial_noises a.f_binomial_noises a.d_binomial_noises
  g_binomial_noises : mg "binomial_noises" = some (.ref a.f_binomial_noises)
  k_binomial_noises : PySem.W.keepIn K (.ref a.f_binomial_noises) = true
  b_binomial_noises_2 : Binds K a.d_binomial_noises P_binomial_noises []
  F__law_gcd : L2.Fun K "_law_gcd" "_law_gcd" s__law_gcd a.f__law_gcd a.d__law_gcd
  g__law_gcd : mg "_law_gcd" = some (.ref a.f__law_gcd)
  k__law_gcd : PySem.W.keepIn K (.ref a.f__law_gcd) = true
  b__law_gcd_2 : Binds K a.d__law_gcd P__law_gcd []
  F__law_ratio : L2.Fun K "_law_ratio" "_law_ratio" s__law_ratio a.f__law_ratio a.d__law_ratio
  g__law_ratio : mg "_law_ratio" = some (.ref a.f__law_ratio)
  k__law_ratio : PySem.W.keepIn K (.ref a.f__law_ratio) = true
  b__law_ratio_2 : Binds K a.d__law_ratio P__law_ratio []
  F__law_plus : L2.Fun K "_law_plus" "_law_plus" s__law_plus a.f__law_plus a.d__law_plus
  g__law_plus : mg "_law_plus" = some (.ref a.f__law_plus)
  k__law_plus : PySem.W.keepIn K (.ref a.f__law_plus) = true
  b__law_plus_2 : Binds K a.d__law_plus P__law_plus []
  F__law_times : L2.Fun K "_law_times" "_law_times" s__law_times a.f__law_times a.d__law_times
  g__law_times : mg "_law_times" = some (.ref a.f__law_times)
  k__law_times : PySem.W.keepIn K (.ref a.f__law_times) = true
  b__law_times_2 : Binds K a.d__law_times P__law_times []
  F__law_noise : L2.Fun K "_law_noise" "_law_noise" s__law_noise a.f__law_noise a.d__law_noise
  g__law_noise : mg "_law_noise" = some (.ref a.f__law_noise)
  k__law_noise : PySem.W.keepIn K (.ref a.f__law_noise) = true
  b__law_noise_3 : Binds K a.d__law_noise P__law_noise []
  F__law_power : L2.Fun K "_law_power" "_law_power" s__law_power a.f__law_power a.d__law_power
  g__law_power : mg "_law_power" = some (.ref a.f__law_power)
  k__law_power : PySem.W.keepIn K (.ref a.f__law_power) = true
  b__law_power_2 : Binds K a.d__law_power P__law_power []
  F__law_mark_hum : L2.Fun K "_law_mark_hum" "_law_mark_hum" s__law_mark_hum a.f__law_mark_hum a.d__law_mark_hum
  g__law_mark_hum : mg "_law_mark_hum" = some (.ref a.f__law_mark_hum)
  k__law_mark_hum : PySem.W.keepIn K (.ref a.f__law_mark_hum) = true
  b__law_mark_hum_2 : Binds K a.d__law_mark_hum P__law_mark_hum []
  F__law_order : L2.Fun K "_law_order" "_law_order" s__law_order a.f__law_order a.d__law_order
  g__law_order : mg "_law_order" = some (.ref a.f__law_order)
  k__law_order : PySem.W.keepIn K (.ref a.f__law_order) = true
  b__law_order_3 : Binds K a.d__law_order P__law_order []
  F__law_line_order : L2.Fun K "_law_line_order" "_law_line_order" s__law_line_order a.f__law_line_order a.d__law_line_order
  g__law_line_order : mg "_law_line_order" = some (.ref a.f__law_line_order)
  k__law_line_order : PySem.W.keepIn K (.ref a.f__law_line_order) = true
  b__law_line_order_2 : Binds K a.d__law_line_order P__law_line_order []
  F__law_is_ratio : L2.Fun K "_law_is_ratio" "_law_is_ratio" s__law_is_ratio a.f__law_is_ratio a.d__law_is_ratio
  g__law_is_ratio : mg "_law_is_ratio" = some (.ref a.f__law_is_ratio)
  k__law_is_ratio : PySem.W.keepIn K (.ref a.f__law_is_ratio) = true
  b__law_is_ratio_1 : Binds K a.d__law_is_ratio P__law_is_ratio []
  F__law_is_row : L2.Fun K "_law_is_row" "_law_is_row" s__law_is_row a.f__law_is_row a.d__law_is_row
  g__law_is_row : mg "_law_is_row" = some (.ref a.f__law_is_row)
  k__law_is_row : PySem.W.keepIn K (.ref a.f__law_is_row) = true
  b__law_is_row_2 : Binds K a.d__law_is_row P__law_is_row []
  F__law_even : L2.Fun K "_law_even" "_law_even" s__law_even a.f__law_even a.d__law_even
  g__law_even : mg "_law_even" = some (.ref a.f__law_even)
  k__law_even : PySem.W.keepIn K (.ref a.f__law_even) = true
  b__law_even_1 : Binds K a.d__law_even P__law_even []
  F__law_is_whole : L2.Fun K "_law_is_whole" "_law_is_whole" s__law_is_whole a.f__law_is_whole a.d__law_is_whole
  g__law_is_whole : mg "_law_is_whole" = some (.ref a.f__law_is_whole)
  k__law_is_whole : PySem.W.keepIn K (.ref a.f__law_is_whole) = true
  b__law_is_whole_1 : Binds K a.d__law_is_whole P__law_is_whole []
  F__law_all_whole : L2.Fun K "_law_all_whole" "_law_all_whole" s__law_all_whole a.f__law_all_whole a.d__law_all_whole
  g__law_all_whole : mg "_law_all_whole" = some (.ref a.f__law_all_whole)
  k__law_all_whole : PySem.W.keepIn K (.ref a.f__law_all_whole) = true
  b__law_all_whole_1 : Binds K a.d__law_all_whole P__law_all_whole []
  F__law_chosen : L2.Fun K "_law_chosen" "_law_chosen" s__law_chosen a.f__law_chosen a.d__law_chosen
  g__law_chosen : mg "_law_chosen" = some (.ref a.f__law_chosen)
  k__law_chosen : PySem.W.keepIn K (.ref a.f__law_chosen) = true
  b__law_chosen_2 : Binds K a.d__law_chosen P__law_chosen []
  F__law_binomials : L2.Fun K "_law_binomials" "_law_binomials" s__law_binomials a.f__law_binomials a.d__law_binomials
  g__law_binomials : mg "_law_binomials" = some (.ref a.f__law_binomials)
  k__law_binomials : PySem.W.keepIn K (.ref a.f__law_binomials) = true
  b__law_binomials_3 : Binds K a.d__law_binomials P__law_binomials []
  F__law_right : L2.Fun K "_law_right" "_law_right" s__law_right a.f__law_right a.d__law_right
  g__law_right : mg "_law_right" = some (.ref a.f__law_right)
  k__law_right : PySem.W.keepIn K (.ref a.f__law_right) = true
  b__law_right_2 : Binds K a.d__law_right P__law_right []
  F__law_refused : L2.Fun K "_law_refused" "_law_refused" s__law_refused a.f__law_refused a.d__law_refused
  g__law_refused : mg "_law_refused" = some (.ref a.f__law_refused)
  k__law_refused : PySem.W.keepIn K (.ref a.f__law_refused) = true
  b__law_refused_2 : Binds K a.d__law_refused P__law_refused []
  F__law_rows_refused : L2.Fun K "_law_rows_refused" "_law_rows_refused" s__law_rows_refused a.f__law_rows_refused a.d__law_rows_refused
  g__law_rows_refused : mg "_law_rows_refused" = some (.ref a.f__law_rows_refused)
  k__law_rows_refused : PySem.W.keepIn K (.ref a.f__law_rows_refused) = true
  b__law_rows_refused_1 : Binds K a.d__law_rows_refused P__law_rows_refused []
  F_law : L2.Fun K "law" "law" s_law a.f_law a.d_law
  g_BadWord : mg "BadWord" = some (.ref a.C_BadWord)
  e_BadWord : ErrC K mg "BadWord" a.C_BadWord a.i_BadWord ["index", "what"]
  x_BadWord : XfC K a.C_BadWord
  Fi_BadWord : L2.Fun K "__init__" "BadWord.__init__" si_BadWord a.i_BadWord a.di_BadWord
  bi_BadWord : Binds K a.di_BadWord ["self", "index", "what"] []
  n_BadWord_index : PySem.W.findIn K (.ref a.C_BadWord) "index" = some none
  n_BadWord_what : PySem.W.findIn K (.ref a.C_BadWord) "what" = some none
  e0_BadCount : ErrB K mg "BadCount" a.C_BadCount
  g_BadCount : mg "BadCount" = some (.ref a.C_BadCount)
  m_comb : mg "comb" = some (.builtin "math.comb")
  t_BadCount_BadCount : PySem.W.exmOne K (.ref a.C_BadCount) (.ref a.C_BadCount) = some true
  t_BadWord_BadCount : PySem.W.exmOne K (.ref a.C_BadWord) (.ref a.C_BadCount) = some false
  t_BadCount_BadWord : PySem.W.exmOne K (.ref a.C_BadCount) (.ref a.C_BadWord) = some false
  t_BadWord_BadWord : PySem.W.exmOne K (.ref a.C_BadWord) (.ref a.C_BadWord) = some true
  n_abs : mg "abs" = none
  n_bool : mg "bool" = none
  n_enumerate : mg "enumerate" = none
  n_int : mg "int" = none
  n_isinstance : mg "isinstance" = none
  n_len : mg "len" = none
  n_list : mg "list" = none
  n_range : mg "range" = none
  n_sum : mg "sum" = none
  n_tuple : mg "tuple" = none
  c_MOST_SECTIONS : ∃ u, mg "MOST_SECTIONS" = some u ∧ RelV (.int 24) u
section
variable {P : Program} {w : World} {K : PySem.W.Frag} {mg : Str → Option Value} {base : Heap} {a : Ad}
theorem sci_BadWord : FnScope ["self", "index", "what"] ["self", "index", "what"] (defScope si_BadWord) := ⟨rfl, rfl, rfl, by decide +kernel, rfl, by decide +kernel, by decide +kernel⟩
theorem oki_BadWord (T : Tx K mg a) : L2.FnOk P w K mg base (L2.CX P w) 1 a.i_BadWord a.di_BadWord ["self", "index", "what"] (spX K ["index", "what"]) :=
  ok_init2 T.Fi_BadWord sci_BadWord rfl (fun _ _ _ _ _ _ => rfl) (fun _ _ _ _ _ _ => rfl) (.inl rfl) (.inl rfl) (.inl rfl) (by decide) (by decide) (by decide) (by decide)
theorem cat_BadCount_ok (T : Tx K mg a) : ∀ c b C, cat_BadCount c = some b → mg c = some (.ref C) → PySem.W.exmOne K (.ref C) (.ref a.C_BadCount) = some b := by
  intro c b C h m
  unfold cat_BadCount at h
  split at h
  · rename_i hc
    subst hc
    rw [T.g_BadCount] at m
    cases m
    cases h
    exact T.t_BadCount_BadCount
  split at h
  · rename_i hc
    subst hc
    rw [T.g_BadWord] at m
    cases m
    cases h
    exact T.t_BadWord_BadCount
  · cases h
theorem cat_BadWord_ok (T : Tx K mg a) : ∀ c b C, cat_BadWord c = some b → mg c = some (.ref C) → PySem.W.exmOne K (.ref C) (.ref a.C_BadWord) = some b := by
  intro c b C h m
  unfold cat_BadWord at h
  split at h
  · rename_i hc
    subst hc
    rw [T.g_BadCount] at m
    cases m
    cases h
    exact T.t_BadCount_BadWord
  split at h
  · rename_i hc
    subst hc
    rw [T.g_BadWord] at m
    cases m
    cases h
    exact T.t_BadWord_BadWord
  · cases h
theorem ok__law_hand (T : Tx K mg a) : DL.FnOk P w K mg base (L2.CX P w) 1 a.f__law_hand a.d__law_hand P__law_hand (spD K mg P__law_hand.length m__law_hand) := by
  refine fnd (g := g__law_hand) T.F__law_hand sc__law_hand (by decide) fun cdv A outer s H E hr => ?_
  have nd := sc__law_hand.nd
  have hu := hr.units
  have hu5 := Nat.lt_of_le_of_lt (Nat.add_le_add_left (by decide : 65 ≤ 16 * 0 + 200) _) hr.un
  have hu6 := Nat.lt_of_le_of_lt (Nat.add_le_add_left (by decide : 66 ≤ 16 * 0 + 200) _) hr.un
  exact (dss_cons (ds_set (i := 1) nd (de_bin o_add (de_callB c_len (by rfl) T.n_len (by rfl) (da_cons (de_var 0) da_nil)) de_int))
    (dss_cons (ds_own (i := 2) nd (dn_lst da_nil))
    (dss_cons (ds_for hpD (by rfl) (di_in (de_var 0)) (dg_name (i := 3) nd) (dss_cons (ds_set (i := 1) nd (de_bin o_modI (de_callTy c_int1 (by rfl) T.n_int (by rfl) (da_cons (de_bin o_add (de_bin o_mul (de_var 1) de_int) (de_callTy c_int1 (by rfl) T.n_int (by rfl) (da_cons (de_var 3) da_nil))) da_nil)) de_int))
    (dss_one (ds_app (i := 2) (de_if (dt_cmp o_geI (de_var 3) de_int) (de_callTy c_int1 (by rfl) T.n_int (by rfl) (da_cons (de_var 3) da_nil)) (de_un o_negI (de_callTy c_int1 (by rfl) T.n_int (by rfl) (da_cons (de_var 3) da_nil))))))))
    (dss_fz 2 (dss_one (ds_retn (dn_lst (da_cons (de_var 2) (da_cons de_int (da_cons de_int (da_cons (de_var 1) da_nil)))))))))))
theorem ok__law_mixed (T : Tx K mg a) : DL.FnOk P w K mg base (L2.CX P w) 1 a.f__law_mixed a.d__law_mixed P__law_mixed (spD K mg P__law_mixed.length m__law_mixed) := by
  refine fnd (g := g__law_mixed) T.F__law_mixed sc__law_mixed (by decide) fun cdv A outer s H E hr => ?_
  have nd := sc__law_mixed.nd
  have hu := hr.units
  have hu5 := Nat.lt_of_le_of_lt (Nat.add_le_add_left (by decide : 65 ≤ 16 * 0 + 200) _) hr.un
  have hu6 := Nat.lt_of_le_of_lt (Nat.add_le_add_left (by decide : 66 ≤ 16 * 0 + 200) _) hr.un
  exact (dss_cons (ds_set (i := 2) nd (de_bin o_modI (de_callTy c_int1 (by rfl) T.n_int (by rfl) (da_cons (de_bin o_add (de_bin o_add (de_bin o_mul (de_var 0) de_int) (de_bin o_mul (de_var 1) de_int)) de_int) da_nil)) de_int))
    (dss_cons (ds_set (i := 3) nd (de_bin o_modI (de_callTy c_int1 (by rfl) T.n_int (by rfl) (da_cons (de_bin o_add (de_bin o_add (de_bin o_mul (de_var 2) (de_var 2)) (de_bin o_mul (de_var 1) de_int)) (de_bin o_fdvI (de_var 2) de_int)) da_nil)) de_int))
    (dss_one (ds_ret (de_bin o_fdvI (de_callTy c_int1 (by rfl) T.n_int (by rfl) (da_cons (de_bin o_modI (de_callTy c_int1 (by rfl) T.n_int (by rfl) (da_cons (de_bin o_add (de_bin o_mul (de_var 3) de_int) (de_bin o_fdvI (de_var 2) de_int)) da_nil)) de_int) da_nil)) de_int)))))
theorem ok__law_take (T : Tx K mg a) : DL.FnOk P w K mg base (L2.CX P w) 2 a.f__law_take a.d__law_take P__law_take (spD K mg P__law_take.length m__law_take) := by
  refine fnd (g := g__law_take) T.F__law_take sc__law_take (by decide) fun cdv A outer s H E hr => ?_
  have nd := sc__law_take.nd
  have hu := hr.units
  have hu5 := Nat.lt_of_le_of_lt (Nat.add_le_add_left (by decide : 65 ≤ 16 * 1 + 200) _) hr.un
  have hu6 := Nat.lt_of_le_of_lt (Nat.add_le_add_left (by decide : 66 ≤ 16 * 1 + 200) _) hr.un
  exact (dss_cons (ds_if (dw_and (dt_cmp (o_eq hu) (de_ixo (i := 0) de_int) de_int) (dw_and1 (dt_cmp o_ltI (de_ixo (i := 0) de_int) (de_callB c_len (by rfl) T.n_len (by rfl) (da_cons (de_ixo (i := 0) de_int) da_nil))))).dt (dss_cons (ds_set (i := 2) nd (de_ix x_ix (de_ixo (i := 0) de_int) (de_ixo (i := 0) de_int)))
    (dss_cons (ds_setix (i := 0) (de_bin o_add (de_ixo (i := 0) de_int) de_int) de_int)
    (dss_cons (ds_if (dt_cmp o_ltI (de_var 2) (de_bin o_powI de_int de_int)) (dss_one (ds_ret (de_bin o_modI (de_callTy c_int1 (by rfl) T.n_int (by rfl) (da_cons (de_call (ok__law_mixed T) (hr.mono (by decide)) T.g__law_mixed T.k__law_mixed T.b__law_mixed_2 .nil (fun _ _ _ => RpL.nil) tkD (da_cons (de_bin o_modI (de_callTy c_int1 (by rfl) T.n_int (by rfl) (da_cons (de_var 2) da_nil)) de_int) (da_cons (de_ixo (i := 0) de_int) da_nil))) da_nil)) (de_var 1)))) dss_nil)
    (dss_one (ds_setix (i := 0) (de_var 2) de_int))))) dss_nil)
    (dss_cons (ds_if (dt_cmp o_gtI (de_ixo (i := 0) de_int) de_int) (dss_cons (ds_set (i := 3) nd (de_ixo (i := 0) de_int))
    (dss_cons (ds_setix (i := 0) (de_bin o_fdvI (de_callTy c_int1 (by rfl) T.n_int (by rfl) (da_cons (de_var 3) da_nil)) (de_var 1)) de_int)
    (dss_one (ds_ret (de_bin o_modI (de_callTy c_int1 (by rfl) T.n_int (by rfl) (da_cons (de_var 3) da_nil)) (de_var 1)))))) dss_nil)
    (dss_cons (ds_setix (i := 0) (de_bin o_modI (de_callTy c_int1 (by rfl) T.n_int (by rfl) (da_cons (de_bin o_add (de_ixo (i := 0) de_int) de_int) da_nil)) de_int) de_int)
    (dss_one (ds_ret (de_bin o_modI (de_callTy c_int1 (by rfl) T.n_int (by rfl) (da_cons (de_call (ok__law_mixed T) (hr.mono (by decide)) T.g__law_mixed T.k__law_mixed T.b__law_mixed_2 .nil (fun _ _ _ => RpL.nil) tkD (da_cons (de_ixo (i := 0) de_int) (da_cons (de_ixo (i := 0) de_int) da_nil))) da_nil)) (de_var 1)))))))
theorem ok__law_odd_word (T : Tx K mg a) : DL.FnOk P w K mg base (L2.CX P w) 3 a.f__law_odd_word a.d__law_odd_word P__law_odd_word (spD K mg P__law_odd_word.length m__law_odd_word) := by
  refine fnd (g := g__law_odd_word) T.F__law_odd_word sc__law_odd_word (by decide) fun cdv A outer s H E hr => ?_
  have nd := sc__law_odd_word.nd
  have hu := hr.units
  have hu5 := Nat.lt_of_le_of_lt (Nat.add_le_add_left (by decide : 65 ≤ 16 * 2 + 200) _) hr.un
  have hu6 := Nat.lt_of_le_of_lt (Nat.add_le_add_left (by decide : 66 ≤ 16 * 2 + 200) _) hr.un
  exact (dss_cons (ds_set (i := 2) nd (de_callM (i := 0) (ok__law_take T) (hr.mono (by decide)) T.g__law_take T.k__law_take T.b__law_take_2 tkD (da_cons de_int da_nil)))
    (dss_cons (ds_set (i := 3) nd (de_callM (i := 0) (ok__law_take T) (hr.mono (by decide)) T.g__law_take T.k__law_take T.b__law_take_2 tkD (da_cons (de_callB c_len (by rfl) T.n_len (by rfl) (da_cons (de_var 1) da_nil)) da_nil)))
    (dss_cons (ds_if (dt_cmp o_ltI (de_var 2) de_int) (dss_cons (ds_set (i := 4) nd (de_ix x_ix (de_lst (da_cons de_int (da_cons de_int (da_cons de_bl (da_cons de_non (da_cons de_str da_nil)))))) (de_var 2)))
    (dss_one (ds_ret (de_tup (da_cons (de_bin o_add (de_bin o_add (de_sl (de_var 1) do_none (do_some (de_var 3))) (de_tup (da_cons (de_var 4) da_nil))) (de_sl (de_var 1) (do_some (de_bin o_add (de_var 3) de_int)) do_none)) (da_cons (de_var 3) (da_cons de_str da_nil))))))) dss_nil)
    (dss_cons (ds_if (dt_cmp (o_eq hu) (de_var 2) de_int) (dss_one (ds_ret (de_tup (da_cons (de_callTy c_tuple (by rfl) T.n_tuple (by rfl) (da_cons (dn_lc (own := [("_law_sign", 5)]) (by rfl) nd (di_in (de_var 1)) (blkOk_by (N := N__law_odd_word) (sc := defScope s__law_odd_word) (by decide +kernel)) (by decide) (fun _ _ _ _ _ => (dg_name (i := 5) nd)) (fun _ _ _ _ _ => dts_nil) (fun _ _ _ _ _ => (de_un o_negI (de_var 5)))).de da_nil)) (da_cons de_int (da_cons de_str da_nil)))))) dss_nil)
    (dss_one (ds_ret (de_tup (da_cons (de_ix x_ix (de_lst (da_cons de_str (da_cons (de_callTy c_tuple (by rfl) T.n_tuple (by rfl) (da_cons (de_bin o_mul (de_lst (da_cons de_int da_nil)) de_int) da_nil)) da_nil))) (de_bin o_subI (de_var 2) de_int)) (da_cons de_int (da_cons de_str da_nil))))))))))
theorem ok__law_word (T : Tx K mg a) : DL.FnOk P w K mg base (L2.CX P w) 3 a.f__law_word a.d__law_word P__law_word (spD K mg P__law_word.length m__law_word) := by
  refine fnd (g := g__law_word) T.F__law_word sc__law_word (by decide) fun cdv A outer s H E hr => ?_
  have nd := sc__law_word.nd
  have hu := hr.units
  have hu5 := Nat.lt_of_le_of_lt (Nat.add_le_add_left (by decide : 65 ≤ 16 * 2 + 200) _) hr.un
  have hu6 := Nat.lt_of_le_of_lt (Nat.add_le_add_left (by decide : 66 ≤ 16 * 2 + 200) _) hr.un
  exact (dss_cons (ds_own (i := 2) nd (dn_lst (da_cons de_int da_nil)))
    (dss_cons (ds_for hpD (by rfl) (di_range2 (by rfl) T.n_range (da_cons de_int (da_cons (de_var 1) da_nil))) (dg_name (i := 3) nd) (dss_one (ds_app (i := 2) (de_bin o_subI de_int (de_bin o_mul de_int (de_callM (i := 0) (ok__law_take T) (hr.mono (by decide)) T.g__law_take T.k__law_take T.b__law_take_2 tkD (da_cons de_int da_nil)))))))
    (dss_fz 2 (dss_one (ds_ret (de_callTy c_tuple (by rfl) T.n_tuple (by rfl) (da_cons (de_var 2) da_nil)))))))
theorem ok__law_built (T : Tx K mg a) : DL.FnOk P w K mg base (L2.CX P w) 4 a.f__law_built a.d__law_built P__law_built (spD K mg P__law_built.length m__law_built) := by
  refine fnd (g := g__law_built) T.F__law_built sc__law_built (by decide) fun cdv A outer s H E hr => ?_
  have nd := sc__law_built.nd
  have hu := hr.units
  have hu5 := Nat.lt_of_le_of_lt (Nat.add_le_add_left (by decide : 65 ≤ 16 * 3 + 200) _) hr.un
  have hu6 := Nat.lt_of_le_of_lt (Nat.add_le_add_left (by decide : 66 ≤ 16 * 3 + 200) _) hr.un
  exact (dss_cons (ds_if (dw_or (dt_cmp o_ltI (de_var 1) de_int) (dw_or (dt_tru (de_bin o_modI (de_callTy c_int1 (by rfl) T.n_int (by rfl) (da_cons (de_var 1) da_nil)) de_int)) (dw_or1 (dt_tru (de_callM (i := 0) (ok__law_take T) (hr.mono (by decide)) T.g__law_take T.k__law_take T.b__law_take_2 tkD (da_cons de_int da_nil)))))).dt (dss_one (ds_ret (de_callM (i := 0) (ok__law_word T) (hr.mono (by decide)) T.g__law_word T.k__law_word T.b__law_word_2 tkD (da_cons (de_var 1) da_nil)))) dss_nil)
    (dss_cons (ds_set (i := 2) nd (de_callM (i := 0) (ok__law_word T) (hr.mono (by decide)) T.g__law_word T.k__law_word T.b__law_word_2 tkD (da_cons (de_bin o_fdvI (de_var 1) de_int) da_nil)))
    (dss_cons (ds_if (dt_cmp (o_eq hu) (de_bin o_modI (de_callTy c_int1 (by rfl) T.n_int (by rfl) (da_cons (de_var 1) da_nil)) de_int) de_int) (dss_cons (ds_set (i := 3) nd (de_callM (i := 0) (ok__law_word T) (hr.mono (by decide)) T.g__law_word T.k__law_word T.b__law_word_2 tkD (da_cons (de_bin o_fdvI (de_var 1) de_int) da_nil)))
    (dss_one (ds_set (i := 2) nd (de_bin o_add (de_var 3) (de_callTy c_tuple (by rfl) T.n_tuple (by rfl) (da_cons (dn_lc (own := [("_law_sign", 5)]) (by rfl) nd (di_in (de_var 3)) (blkOk_by (N := N__law_built) (sc := defScope s__law_built) (by decide +kernel)) (by decide) (fun _ _ _ _ _ => (dg_name (i := 5) nd)) (fun _ _ _ _ _ => dts_nil) (fun _ _ _ _ _ => (de_un o_negI (de_var 5)))).de da_nil)))))) dss_nil)
    (dss_cons (ds_set (i := 4) nd (de_callM (i := 0) (ok__law_take T) (hr.mono (by decide)) T.g__law_take T.k__law_take T.b__law_take_2 tkD (da_cons de_int da_nil)))
    (dss_cons (ds_if (dt_cmp (o_eq hu) (de_var 4) de_int) (dss_one (ds_ret (de_bin o_add (de_var 2) (de_callTy c_tuple (by rfl) T.n_tuple (by rfl) (da_cons (dn_lc (own := [("_law_sign", 5)]) (by rfl) nd (di_in (de_var 2)) (blkOk_by (N := N__law_built) (sc := defScope s__law_built) (by decide +kernel)) (by decide) (fun _ _ _ _ _ => (dg_name (i := 5) nd)) (fun _ _ _ _ _ => dts_nil) (fun _ _ _ _ _ => (de_un o_negI (de_var 5)))).de da_nil))))) dss_nil)
    (dss_cons (ds_if (dt_cmp (o_eq hu) (de_var 4) de_int) (dss_one (ds_ret (de_callTy c_tuple (by rfl) T.n_tuple (by rfl) (da_cons (dn_lc (own := [("_law_k", 6)]) (by rfl) nd (di_range1 (by rfl) T.n_range (da_cons (de_var 1) da_nil)) (blkOk_by (N := N__law_built) (sc := defScope s__law_built) (by decide +kernel)) (by decide) (fun _ _ _ _ _ => (dg_name (i := 6) nd)) (fun _ _ _ _ _ => dts_nil) (fun _ _ _ _ _ => (de_bin o_mul (de_ix x_ix (de_var 2) (de_bin o_fdvI (de_var 6) de_int)) (de_bin o_subI de_int (de_bin o_mul de_int (de_bin o_modI (de_callTy c_int1 (by rfl) T.n_int (by rfl) (da_cons (de_var 6) da_nil)) de_int)))))).de da_nil)))) dss_nil)
    (dss_one (ds_ret (de_bin o_add (de_var 2) (de_callTy c_tuple (by rfl) T.n_tuple (by rfl) (da_cons (dn_lc (own := [("_law_k", 6)]) (by rfl) nd (di_range1 (by rfl) T.n_range (da_cons (de_callB c_len (by rfl) T.n_len (by rfl) (da_cons (de_var 2) da_nil)) da_nil)) (blkOk_by (N := N__law_built) (sc := defScope s__law_built) (by decide +kernel)) (by decide) (fun _ _ _ _ _ => (dg_name (i := 6) nd)) (fun _ _ _ _ _ => dts_nil) (fun _ _ _ _ _ => (de_bin o_mul (de_bin o_mul (de_ix x_ix (de_var 2) (de_bin o_subI (de_bin o_subI (de_callB c_len (by rfl) T.n_len (by rfl) (da_cons (de_var 2) da_nil)) de_int) (de_var 6))) (de_bin o_subI de_int (de_bin o_mul de_int (de_callM (i := 0) (ok__law_take T) (hr.mono (by decide)) T.g__law_take T.k__law_take T.b__law_take_2 takes0 (da_cons de_int da_nil))))) (de_ix x_ix (de_var 2) de_int)))).de da_nil)))))))))))
theorem ok__law_count (T : Tx K mg a) : DL.FnOk P w K mg base (L2.CX P w) 3 a.f__law_count a.d__law_count P__law_count (spD K mg P__law_count.length m__law_count) := by
  refine fnd (g := g__law_count) T.F__law_count sc__law_count (by decide) fun cdv A outer s H E hr => ?_
  have nd := sc__law_count.nd
  have hu := hr.units
  have hu5 := Nat.lt_of_le_of_lt (Nat.add_le_add_left (by decide : 65 ≤ 16 * 2 + 200) _) hr.un
  have hu6 := Nat.lt_of_le_of_lt (Nat.add_le_add_left (by decide : 66 ≤ 16 * 2 + 200) _) hr.un
  exact (dss_cons (ds_if (dt_cmp (o_eq hu) (de_callM (i := 0) (ok__law_take T) (hr.mono (by decide)) T.g__law_take T.k__law_take T.b__law_take_2 tkD (da_cons de_int da_nil)) de_int) (dss_one (ds_ret (de_bin o_add de_int (de_callM (i := 0) (ok__law_take T) (hr.mono (by decide)) T.g__law_take T.k__law_take T.b__law_take_2 tkD (da_cons de_int da_nil))))) dss_nil)
    (dss_one (ds_ret (de_bin o_add de_int (de_callM (i := 0) (ok__law_take T) (hr.mono (by decide)) T.g__law_take T.k__law_take T.b__law_take_2 tkD (da_cons de_int da_nil))))))
theorem ok__check_first (T : Tx K mg a) : DL.FnOk P w K mg base (L2.CX P w) 3 a.f__check_first a.d__check_first P__check_first (spD K mg P__check_first.length m__check_first) := by
  refine fnd (g := g__check_first) T.F__check_first sc__check_first (by decide) fun cdv A outer s H E hr => ?_
  have nd := sc__check_first.nd
  have hu := hr.units
  have hu5 := Nat.lt_of_le_of_lt (Nat.add_le_add_left (by decide : 65 ≤ 16 * 2 + 200) _) hr.un
  have hu6 := Nat.lt_of_le_of_lt (Nat.add_le_add_left (by decide : 66 ≤ 16 * 2 + 200) _) hr.un
  exact (dss_cons (ds_if (dt_cmp (o_eq hu) (de_ix x_ix (de_var 0) de_int) (de_un o_negI de_int)) (dss_one (ds_raise (by rfl) T.e_BadWord (oki_BadWord T) (hr.mono (by decide)) T.bi_BadWord tkD (da_cons de_int (da_cons de_str da_nil)))) dss_nil)
    (dss_one (ds_ret (de_var 0))))
theorem ok_is_row (T : Tx K mg a) : DL.FnOk P w K mg base (L2.CX P w) 1 a.f_is_row a.d_is_row P_is_row (spD K mg P_is_row.length m_is_row) := by
  refine fnd (g := g_is_row) T.F_is_row sc_is_row (by decide) fun cdv A outer s H E hr => ?_
  have nd := sc_is_row.nd
  have hu := hr.units
  have hu5 := Nat.lt_of_le_of_lt (Nat.add_le_add_left (by decide : 65 ≤ 16 * 0 + 200) _) hr.un
  have hu6 := Nat.lt_of_le_of_lt (Nat.add_le_add_left (by decide : 66 ≤ 16 * 0 + 200) _) hr.un
  exact (dss_one (ds_ret (de_and (de_isi2 T.n_isinstance T.n_list T.n_tuple (by rfl) (by rfl) (de_var 0)) (de_one (de_chain o_leI o_leI (de_var 1) (de_callB c_len (by rfl) T.n_len (by rfl) (da_cons (de_var 0) da_nil)) (de_var 2))))))
theorem ok_is_whole (T : Tx K mg a) : DL.FnOk P w K mg base (L2.CX P w) 1 a.f_is_whole a.d_is_whole P_is_whole (spD K mg P_is_whole.length m_is_whole) := by
  refine fndD (g := g_is_whole) T.F_is_whole sc_is_whole (by decide) fun cdv A outer s H E hr => ?_
  have nd := sc_is_whole.nd
  have hu := hr.units
  have hu5 := Nat.lt_of_le_of_lt (Nat.add_le_add_left (by decide : 65 ≤ 16 * 0 + 200) _) hr.un
  have hu6 := Nat.lt_of_le_of_lt (Nat.add_le_add_left (by decide : 66 ≤ 16 * 0 + 200) _) hr.un
  exact (dss_cons (ds_if (dw_or (dt_tru (de_isi T.n_isinstance T.n_bool (by rfl) (de_var 0))) (dw_or1 (dt_not (dt_tru (de_isi T.n_isinstance T.n_int (by rfl) (de_var 0)))))).dt (dss_one (ds_ret de_bl)) dss_nil)
    (dss_one (ds_ret (de_and (de_or (de_cmp o_isN (de_var 1) de_non) (de_one (de_cmp o_geI (de_var 0) (de_var 1)))) (de_one (de_or (de_cmp o_isN (de_var 2) de_non) (de_one (de_cmp o_leI (de_var 0) (de_var 2)))))))))
theorem ok__check_sign_row (T : Tx K mg a) : DL.FnOk P w K mg base (L2.CX P w) 3 a.f__check_sign_row a.d__check_sign_row P__check_sign_row (spD K mg P__check_sign_row.length m__check_sign_row) := by
  refine fnd (g := g__check_sign_row) T.F__check_sign_row sc__check_sign_row (by decide) fun cdv A outer s H E hr => ?_
  have nd := sc__check_sign_row.nd
  have hu := hr.units
  have hu5 := Nat.lt_of_le_of_lt (Nat.add_le_add_left (by decide : 65 ≤ 16 * 2 + 200) _) hr.un
  have hu6 := Nat.lt_of_le_of_lt (Nat.add_le_add_left (by decide : 66 ≤ 16 * 2 + 200) _) hr.un
  exact (dss_cons (ds_if (dt_not (dt_tru (de_call (ok_is_row T) (hr.mono (by decide)) T.g_is_row T.k_is_row T.b_is_row_3 .nil (fun _ _ _ => RpL.nil) tkD (da_cons (de_var 0) (da_cons (de_var 1) (da_cons (de_var 2) da_nil)))))) (dss_one (ds_raise (by rfl) T.e_BadWord (oki_BadWord T) (hr.mono (by decide)) T.bi_BadWord tkD (da_cons de_int (da_cons de_str da_nil)))) dss_nil)
    (dss_cons (ds_for hpD (by rfl) (di_enum (by rfl) T.n_enumerate (da_cons (de_var 0) da_nil)) (dg_tup (by rfl) (dgs_cons (dg_name (i := 3) nd) (dgs_cons (dg_name (i := 4) nd) dgs_nil))) (dss_one (ds_if (dw_or (dt_not (dt_tru (de_call (ok_is_whole T) (hr.mono (by decide)) T.g_is_whole T.k_is_whole T.b_is_whole_3 .nil (fun _ _ _ => RpL.nil) tkD (da_cons (de_var 4) (da_cons (de_un o_negI de_int) (da_cons de_int da_nil)))))) (dw_or1 (dt_cmp (o_eq hu) (de_var 4) de_int))).dt (dss_one (ds_raise (by rfl) T.e_BadWord (oki_BadWord T) (hr.mono (by decide)) T.bi_BadWord tkD (da_cons (de_var 3) (da_cons de_str da_nil)))) dss_nil)))
    (dss_one (ds_ret (de_callTy c_tuple (by rfl) T.n_tuple (by rfl) (da_cons (de_var 0) da_nil))))))
theorem ok_check_signs (T : Tx K mg a) : DL.FnOk P w K mg base (L2.CX P w) 4 a.f_check_signs a.d_check_signs P_check_signs (spD K mg P_check_signs.length m_check_signs) := by
  refine fnd (g := g_check_signs) T.F_check_signs sc_check_signs (by decide) fun cdv A outer s H E hr => ?_
  have nd := sc_check_signs.nd
  have hu := hr.units
  have hu5 := Nat.lt_of_le_of_lt (Nat.add_le_add_left (by decide : 65 ≤ 16 * 3 + 200) _) hr.un
  have hu6 := Nat.lt_of_le_of_lt (Nat.add_le_add_left (by decide : 66 ≤ 16 * 3 + 200) _) hr.un
  exact (dss_one (ds_ret (de_call (ok__check_first T) (hr.mono (by decide)) T.g__check_first T.k__check_first T.b__check_first_1 .nil (fun _ _ _ => RpL.nil) tkD (da_cons (de_call (ok__check_sign_row T) (hr.mono (by decide)) T.g__check_sign_row T.k__check_sign_row T.b__check_sign_row_3 .nil (fun _ _ _ => RpL.nil) tkD (da_cons (de_var 0) (da_cons de_int (da_cons (de_glob (by rfl) T.c_MOST_SECTIONS.choose_spec.1 T.c_MOST_SECTIONS.choose_spec.2 (fun _ _ _ => .int _)) da_nil)))) da_nil))))
theorem ok__running_sums (T : Tx K mg a) : DL.FnOk P w K mg base (L2.CX P w) 1 a.f__running_sums a.d__running_sums P__running_sums (spD K mg P__running_sums.length m__running_sums) := by
  refine fnd (g := g__running_sums) T.F__running_sums sc__running_sums (by decide) fun cdv A outer s H E hr => ?_
  have nd := sc__running_sums.nd
  have hu := hr.units
  have hu5 := Nat.lt_of_le_of_lt (Nat.add_le_add_left (by decide : 65 ≤ 16 * 0 + 200) _) hr.un
  have hu6 := Nat.lt_of_le_of_lt (Nat.add_le_add_left (by decide : 66 ≤ 16 * 0 + 200) _) hr.un
  exact (dss_cons (ds_own (i := 1) nd (dn_lst da_nil))
    (dss_cons (ds_set (i := 2) nd de_int)
    (dss_cons (ds_for hpD (by rfl) (di_in (de_var 0)) (dg_name (i := 3) nd) (dss_cons (ds_set (i := 2) nd (de_bin o_add (de_var 2) (de_var 3)))
    (dss_one (ds_app (i := 1) (de_var 2)))))
    (dss_fz 1 (dss_one (ds_ret (de_callTy c_tuple (by rfl) T.n_tuple (by rfl) (da_cons (de_var 1) da_nil))))))))
theorem ok_sum_rows (T : Tx K mg a) : DL.FnOk P w K mg base (L2.CX P w) 5 a.f_sum_rows a.d_sum_rows P_sum_rows (spD K mg P_sum_rows.length m_sum_rows) := by
  refine fnd (g := g_sum_rows) T.F_sum_rows sc_sum_rows (by decide) fun cdv A outer s H E hr => ?_
  have nd := sc_sum_rows.nd
  have hu := hr.units
  have hu5 := Nat.lt_of_le_of_lt (Nat.add_le_add_left (by decide : 65 ≤ 16 * 4 + 200) _) hr.un
  have hu6 := Nat.lt_of_le_of_lt (Nat.add_le_add_left (by decide : 66 ≤ 16 * 4 + 200) _) hr.un
  exact (dss_cons (ds_set (i := 1) nd (de_call (ok_check_signs T) (hr.mono (by decide)) T.g_check_signs T.k_check_signs T.b_check_signs_1 .nil (fun _ _ _ => RpL.nil) tkD (da_cons (de_var 0) da_nil)))
    (dss_cons (ds_own (i := 2) nd (dn_lst (da_cons (de_var 1) da_nil)))
    (dss_cons (ds_while hpD (dt_cmp (o_eq hu) (de_callB (c_sumA (by rfl)) (by rfl) T.n_sum (by rfl) (da_cons (de_var 1) da_nil)) de_int) (dss_cons (ds_set (i := 1) nd (de_call (ok__running_sums T) (hr.mono (by decide)) T.g__running_sums T.k__running_sums T.b__running_sums_1 .nil (fun _ _ _ => RpL.nil) tkD (da_cons (de_sl (de_var 1) do_none (do_some (de_un o_negI de_int))) da_nil)))
    (dss_one (ds_app (i := 2) (de_var 1)))))
    (dss_fz 2 (dss_one (ds_ret (de_callTy c_tuple (by rfl) T.n_tuple (by rfl) (da_cons (de_var 2) da_nil))))))))
theorem ok__law_rows (T : Tx K mg a) : DL.FnOk P w K mg base (L2.CX P w) 1 a.f__law_rows a.d__law_rows P__law_rows (spD K mg P__law_rows.length m__law_rows) := by
  refine fnd (g := g__law_rows) T.F__law_rows sc__law_rows (by decide) fun cdv A outer s H E hr => ?_
  have nd := sc__law_rows.nd
  have hu := hr.units
  have hu5 := Nat.lt_of_le_of_lt (Nat.add_le_add_left (by decide : 65 ≤ 16 * 0 + 200) _) hr.un
  have hu6 := Nat.lt_of_le_of_lt (Nat.add_le_add_left (by decide : 66 ≤ 16 * 0 + 200) _) hr.un
  exact (dss_cons (ds_own (i := 1) nd (dn_lst (da_cons (de_callTy c_tuple (by rfl) T.n_tuple (by rfl) (da_cons (de_var 0) da_nil)) da_nil)))
    (dss_cons (ds_for hpD (by rfl) (di_range1 (by rfl) T.n_range (da_cons (de_callB c_len (by rfl) T.n_len (by rfl) (da_cons (de_var 0) da_nil)) da_nil)) (dg_name (i := 2) nd) (dss_cons (ds_if (dt_cmp (o_ne hu) (de_callB (c_sumA (by rfl)) (by rfl) T.n_sum (by rfl) (da_cons (de_ixo (i := 1) (de_un o_negI de_int)) da_nil)) de_int) (dss_one ds_break) dss_nil)
    (dss_cons (ds_mix (i := 3) (j := 4) (by rfl) nd de_int (dn_lst da_nil))
    (dss_cons (ds_for hpD (by rfl) (di_in (de_sl (de_ixo (i := 1) (de_un o_negI de_int)) do_none (do_some (de_un o_negI de_int)))) (dg_name (i := 5) nd) (dss_cons (ds_set (i := 3) nd (de_bin o_add (de_var 3) (de_var 5)))
    (dss_one (ds_app (i := 4) (de_var 3)))))
    (dss_one (ds_app (i := 1) (de_tupX 4 T.n_tuple)))))))
    (dss_fz 1 (dss_one (ds_ret (de_var 1))))))
theorem ok_binomial_sums (T : Tx K mg a) : DL.FnOk P w K mg base (L2.CX P w) 1 a.f_binomial_sums a.d_binomial_sums P_binomial_sums (spD K mg P_binomial_sums.length m_binomial_sums) := by
  refine fnd (g := g_binomial_sums) T.F_binomial_sums sc_binomial_sums (by decide) fun cdv A outer s H E hr => ?_
  have nd := sc_binomial_sums.nd
  have hu := hr.units
  have hu5 := Nat.lt_of_le_of_lt (Nat.add_le_add_left (by decide : 65 ≤ 16 * 0 + 200) _) hr.un
  have hu6 := Nat.lt_of_le_of_lt (Nat.add_le_add_left (by decide : 66 ≤ 16 * 0 + 200) _) hr.un
  exact (dss_one (ds_ret (dn_lc (own := [("lower", 3)]) (by rfl) nd (di_range1 (by rfl) T.n_range (da_cons (de_var 1) da_nil)) (blkOk_by (N := N_binomial_sums) (sc := defScope s_binomial_sums) (by decide +kernel)) (by decide) (fun _ _ _ _ _ => (dg_name (i := 3) nd)) (fun _ _ _ _ _ => dts_nil) (fun _ _ _ _ _ => (de_callB (c_sum (by rfl)) (by rfl) T.n_sum (by rfl) (da_cons (dn_lc (own := [("section", 4), ("sign", 5)]) (by rfl) nd (di_enum (by rfl) T.n_enumerate (da_cons (de_var 0) da_nil)) (blkOk_in (N := N_binomial_sums) (by decide +kernel)) (by decide) (fun _ _ _ _ _ => (dg_tup (by rfl) (dgs_cons (dg_name (i := 4) nd) (dgs_cons (dg_name (i := 5) nd) dgs_nil)))) (fun _ _ _ _ _ => dts_nil) (fun _ _ _ _ _ => (de_bin o_mul (de_var 5) (de_callBf c_comb (by rfl) T.m_comb (da_cons (de_bin o_mul (de_var 2) (de_var 4)) (da_cons (de_var 3) da_nil)))))).de da_nil)))).de))
theorem ok_binomial_noises (T : Tx K mg a) : DL.FnOk P w K mg base (L2.CX P w) 5 a.f_binomial_noises a.d_binomial_noises P_binomial_noises (spD K mg P_binomial_noises.length m_binomial_noises) := by
  refine fnd (g := g_binomial_noises) T.F_binomial_noises sc_binomial_noises (by decide) fun cdv A outer s H E hr => ?_
  have nd := sc_binomial_noises.nd
  have hu := hr.units
  have hu5 := Nat.lt_of_le_of_lt (Nat.add_le_add_left (by decide : 65 ≤ 16 * 4 + 200) _) hr.un
  have hu6 := Nat.lt_of_le_of_lt (Nat.add_le_add_left (by decide : 66 ≤ 16 * 4 + 200) _) hr.un
  exact (dss_cons (ds_set (i := 0) nd (de_call (ok_check_signs T) (hr.mono (by decide)) T.g_check_signs T.k_check_signs T.b_check_signs_1 .nil (fun _ _ _ => RpL.nil) tkD (da_cons (de_var 0) da_nil)))
    (dss_cons (ds_if (dt_not (dt_tru (de_call (ok_is_whole T) (hr.mono (by decide)) T.g_is_whole T.k_is_whole T.b_is_whole_3 .nil (fun _ _ _ => RpL.nil) tkD (da_cons (de_var 1) (da_cons de_int (da_cons (de_glob (by rfl) T.c_MOST_SECTIONS.choose_spec.1 T.c_MOST_SECTIONS.choose_spec.2 (fun _ _ _ => .int _)) da_nil)))))) (dss_one (ds_raise0 (by rfl) T.e0_BadCount tkD)) dss_nil)
    (dss_one (ds_ret (de_callTy c_tuple (by rfl) T.n_tuple (by rfl) (da_cons (dn_lc (own := [("total", 2)]) (by rfl) nd (di_in (de_call (ok_binomial_sums T) (hr.mono (by decide)) T.g_binomial_sums T.k_binomial_sums T.b_binomial_sums_3 .nil (fun _ _ _ => RpL.nil) tkD (da_cons (de_var 0) (da_cons (de_var 1) (da_cons de_int da_nil))))) (blkOk_by (N := N_binomial_noises) (sc := defScope s_binomial_noises) (by decide +kernel)) (by decide) (fun _ _ _ _ _ => (dg_name (i := 2) nd)) (fun _ _ _ _ _ => dts_nil) (fun _ _ _ _ _ => (de_tup (da_cons (de_var 2) (da_cons de_int da_nil))))).de da_nil))))))
theorem ok__law_gcd (T : Tx K mg a) : DL.FnOk P w K mg base (L2.CX P w) 1 a.f__law_gcd a.d__law_gcd P__law_gcd (spD K mg P__law_gcd.length m__law_gcd) := by
  refine fnd (g := g__law_gcd) T.F__law_gcd sc__law_gcd (by decide) fun cdv A outer s H E hr => ?_
  have nd := sc__law_gcd.nd
  have hu := hr.units
  have hu5 := Nat.lt_of_le_of_lt (Nat.add_le_add_left (by decide : 65 ≤ 16 * 0 + 200) _) hr.un
  have hu6 := Nat.lt_of_le_of_lt (Nat.add_le_add_left (by decide : 66 ≤ 16 * 0 + 200) _) hr.un
  exact (dss_cons (ds_par (i := 0) (j := 1) (by rfl) nd (da_cons (de_callB c_abs (by rfl) T.n_abs (by rfl) (da_cons (de_var 0) da_nil)) (da_cons (de_callB c_abs (by rfl) T.n_abs (by rfl) (da_cons (de_var 1) da_nil)) da_nil)))
    (dss_cons (ds_while hpD (dt_tru (de_var 1)) (dss_one (ds_par (i := 0) (j := 1) (by rfl) nd (da_cons (de_var 1) (da_cons (de_bin o_modI (de_callTy c_int1 (by rfl) T.n_int (by rfl) (da_cons (de_var 0) da_nil)) (de_var 1)) da_nil)))))
    (dss_one (ds_ret (de_var 0)))))
theorem ok__law_ratio (T : Tx K mg a) : DL.FnOk P w K mg base (L2.CX P w) 2 a.f__law_ratio a.d__law_ratio P__law_ratio (spD K mg P__law_ratio.length m__law_ratio) := by
  refine fnd (g := g__law_ratio) T.F__law_ratio sc__law_ratio (by decide) fun cdv A outer s H E hr => ?_
  have nd := sc__law_ratio.nd
  have hu := hr.units
  have hu5 := Nat.lt_of_le_of_lt (Nat.add_le_add_left (by decide : 65 ≤ 16 * 1 + 200) _) hr.un
  have hu6 := Nat.lt_of_le_of_lt (Nat.add_le_add_left (by decide : 66 ≤ 16 * 1 + 200) _) hr.un
  exact (dss_cons (ds_set (i := 2) nd (de_call (ok__law_gcd T) (hr.mono (by decide)) T.g__law_gcd T.k__law_gcd T.b__law_gcd_2 .nil (fun _ _ _ => RpL.nil) tkD (da_cons (de_var 0) (da_cons (de_var 1) da_nil))))
    (dss_cons (ds_if (dt_cmp o_ltI (de_var 1) de_int) (dss_one (ds_set (i := 2) nd (de_un o_negI (de_var 2)))) dss_nil)
    (dss_one (ds_ret (de_tup (da_cons (de_bin o_fdvI (de_var 0) (de_var 2)) (da_cons (de_bin o_fdvI (de_var 1) (de_var 2)) da_nil)))))))
theorem ok__law_plus (T : Tx K mg a) : DL.FnOk P w K mg base (L2.CX P w) 3 a.f__law_plus a.d__law_plus P__law_plus (spD K mg P__law_plus.length m__law_plus) := by
  refine fnd (g := g__law_plus) T.F__law_plus sc__law_plus (by decide) fun cdv A outer s H E hr => ?_
  have nd := sc__law_plus.nd
  have hu := hr.units
  have hu5 := Nat.lt_of_le_of_lt (Nat.add_le_add_left (by decide : 65 ≤ 16 * 2 + 200) _) hr.un
  have hu6 := Nat.lt_of_le_of_lt (Nat.add_le_add_left (by decide : 66 ≤ 16 * 2 + 200) _) hr.un
  exact (dss_one (ds_ret (de_call (ok__law_ratio T) (hr.mono (by decide)) T.g__law_ratio T.k__law_ratio T.b__law_ratio_2 .nil (fun _ _ _ => RpL.nil) tkD (da_cons (de_bin o_add (de_bin o_mul (de_ix x_ix (de_var 0) de_int) (de_ix x_ix (de_var 1) de_int)) (de_bin o_mul (de_ix x_ix (de_var 1) de_int) (de_ix x_ix (de_var 0) de_int))) (da_cons (de_bin o_mul (de_ix x_ix (de_var 0) de_int) (de_ix x_ix (de_var 1) de_int)) da_nil)))))
theorem ok__law_times (T : Tx K mg a) : DL.FnOk P w K mg base (L2.CX P w) 3 a.f__law_times a.d__law_times P__law_times (spD K mg P__law_times.length m__law_times) := by
  refine fnd (g := g__law_times) T.F__law_times sc__law_times (by decide) fun cdv A outer s H E hr => ?_
  have nd := sc__law_times.nd
  have hu := hr.units
  have hu5 := Nat.lt_of_le_of_lt (Nat.add_le_add_left (by decide : 65 ≤ 16 * 2 + 200) _) hr.un
  have hu6 := Nat.lt_of_le_of_lt (Nat.add_le_add_left (by decide : 66 ≤ 16 * 2 + 200) _) hr.un
  exact (dss_one (ds_ret (de_call (ok__law_ratio T) (hr.mono (by decide)) T.g__law_ratio T.k__law_ratio T.b__law_ratio_2 .nil (fun _ _ _ => RpL.nil) tkD (da_cons (de_bin o_mul (de_ix x_ix (de_var 0) de_int) (de_ix x_ix (de_var 1) de_int)) (da_cons (de_bin o_mul (de_ix x_ix (de_var 0) de_int) (de_ix x_ix (de_var 1) de_int)) da_nil)))))
theorem ok__law_noise (T : Tx K mg a) : DL.FnOk P w K mg base (L2.CX P w) 4 a.f__law_noise a.d__law_noise P__law_noise (spD K mg P__law_noise.length m__law_noise) := by
  refine fnd (g := g__law_noise) T.F__law_noise sc__law_noise (by decide) fun cdv A outer s H E hr => ?_
  have nd := sc__law_noise.nd
  have hu := hr.units
  have hu5 := Nat.lt_of_le_of_lt (Nat.add_le_add_left (by decide : 65 ≤ 16 * 3 + 200) _) hr.un
  have hu6 := Nat.lt_of_le_of_lt (Nat.add_le_add_left (by decide : 66 ≤ 16 * 3 + 200) _) hr.un
  exact (dss_cons (ds_set (i := 3) nd (de_tup (da_cons de_int (da_cons de_int da_nil))))
    (dss_cons (ds_for hpD (by rfl) (di_range1 (by rfl) T.n_range (da_cons (de_callB c_len (by rfl) T.n_len (by rfl) (da_cons (de_var 1) da_nil)) da_nil)) (dg_name (i := 4) nd) (dss_one (ds_set (i := 3) nd (de_call (ok__law_plus T) (hr.mono (by decide)) T.g__law_plus T.k__law_plus T.b__law_plus_2 .nil (fun _ _ _ => RpL.nil) tkD (da_cons (de_var 3) (da_cons (de_call (ok__law_times T) (hr.mono (by decide)) T.g__law_times T.k__law_times T.b__law_times_2 .nil (fun _ _ _ => RpL.nil) tkD (da_cons (de_tup (da_cons (de_bin o_mul (de_ix x_ix (de_ix x_ix (de_var 0) (de_var 4)) de_int) (de_ix x_ix (de_var 1) (de_var 4))) (da_cons (de_ix x_ix (de_ix x_ix (de_var 0) (de_var 4)) de_int) da_nil))) (da_cons (de_ix x_ix (de_var 2) (de_var 4)) da_nil))) da_nil))))))
    (dss_one (ds_ret (de_var 3)))))
theorem ok__law_power (T : Tx K mg a) : DL.FnOk P w K mg base (L2.CX P w) 1 a.f__law_power a.d__law_power P__law_power (spD K mg P__law_power.length m__law_power) := by
  refine fnd (g := g__law_power) T.F__law_power sc__law_power (by decide) fun cdv A outer s H E hr => ?_
  have nd := sc__law_power.nd
  have hu := hr.units
  have hu5 := Nat.lt_of_le_of_lt (Nat.add_le_add_left (by decide : 65 ≤ 16 * 0 + 200) _) hr.un
  have hu6 := Nat.lt_of_le_of_lt (Nat.add_le_add_left (by decide : 66 ≤ 16 * 0 + 200) _) hr.un
  exact (dss_cons (ds_set (i := 2) nd (de_tup (da_cons de_int (da_cons de_int da_nil))))
    (dss_cons (ds_for hpD (by rfl) (di_range1 (by rfl) T.n_range (da_cons (de_var 1) da_nil)) (dg_name (i := 3) nd) (dss_one (ds_set (i := 2) nd (de_tup (da_cons (de_bin o_mul (de_ix x_ix (de_var 2) de_int) (de_ix x_ix (de_var 0) de_int)) (da_cons (de_bin o_mul (de_ix x_ix (de_var 2) de_int) (de_ix x_ix (de_var 0) de_int)) da_nil))))))
    (dss_one (ds_ret (de_var 2)))))
theorem ok__law_mark_hum (T : Tx K mg a) : DL.FnOk P w K mg base (L2.CX P w) 2 a.f__law_mark_hum a.d__law_mark_hum P__law_mark_hum (spD K mg P__law_mark_hum.length m__law_mark_hum) := by
  refine fnd (g := g__law_mark_hum) T.F__law_mark_hum sc__law_mark_hum (by decide) fun cdv A outer s H E hr => ?_
  have nd := sc__law_mark_hum.nd
  have hu := hr.units
  have hu5 := Nat.lt_of_le_of_lt (Nat.add_le_add_left (by decide : 65 ≤ 16 * 1 + 200) _) hr.un
  have hu6 := Nat.lt_of_le_of_lt (Nat.add_le_add_left (by decide : 66 ≤ 16 * 1 + 200) _) hr.un
  exact (dss_one (ds_ret (de_callTy c_tuple (by rfl) T.n_tuple (by rfl) (da_cons (dn_lc (own := [("_law_mark", 2)]) (by rfl) nd (di_in (de_var 0)) (blkOk_by (N := N__law_mark_hum) (sc := defScope s__law_mark_hum) (by decide +kernel)) (by decide) (fun _ _ _ _ _ => (dg_name (i := 2) nd)) (fun _ _ _ _ _ => dts_nil) (fun _ _ _ _ _ => (de_call (ok__law_power T) (hr.mono (by decide)) T.g__law_power T.k__law_power T.b__law_power_2 .nil (fun _ _ _ => RpL.nil) takes0 (da_cons (de_var 2) (da_cons (de_var 1) da_nil))))).de da_nil))))
theorem ok__law_order (T : Tx K mg a) : DL.FnOk P w K mg base (L2.CX P w) 5 a.f__law_order a.d__law_order P__law_order (spD K mg P__law_order.length m__law_order) := by
  refine fnd (g := g__law_order) T.F__law_order sc__law_order (by decide) fun cdv A outer s H E hr => ?_
  have nd := sc__law_order.nd
  have hu := hr.units
  have hu5 := Nat.lt_of_le_of_lt (Nat.add_le_add_left (by decide : 65 ≤ 16 * 4 + 200) _) hr.un
  have hu6 := Nat.lt_of_le_of_lt (Nat.add_le_add_left (by decide : 66 ≤ 16 * 4 + 200) _) hr.un
  exact (dss_cons (ds_for hpD (by rfl) (di_range1 (by rfl) T.n_range (da_cons (de_callB c_len (by rfl) T.n_len (by rfl) (da_cons (de_var 2) da_nil)) da_nil)) (dg_name (i := 3) nd) (dss_one (ds_if (dt_cmp (o_ne hu) (de_ix x_ix (de_call (ok__law_noise T) (hr.mono (by decide)) T.g__law_noise T.k__law_noise T.b__law_noise_3 .nil (fun _ _ _ => RpL.nil) tkD (da_cons (de_var 0) (da_cons (de_var 2) (da_cons (de_call (ok__law_mark_hum T) (hr.mono (by decide)) T.g__law_mark_hum T.k__law_mark_hum T.b__law_mark_hum_2 .nil (fun _ _ _ => RpL.nil) tkD (da_cons (de_var 1) (da_cons (de_var 3) da_nil))) da_nil)))) de_int) de_int) (dss_one (ds_ret (de_var 3))) dss_nil)))
    (dss_one (ds_ret (de_callB c_len (by rfl) T.n_len (by rfl) (da_cons (de_var 2) da_nil)))))
theorem ok__law_line_order (T : Tx K mg a) : DL.FnOk P w K mg base (L2.CX P w) 6 a.f__law_line_order a.d__law_line_order P__law_line_order (spD K mg P__law_line_order.length m__law_line_order) := by
  refine fnd (g := g__law_line_order) T.F__law_line_order sc__law_line_order (by decide) fun cdv A outer s H E hr => ?_
  have nd := sc__law_line_order.nd
  have hu := hr.units
  have hu5 := Nat.lt_of_le_of_lt (Nat.add_le_add_left (by decide : 65 ≤ 16 * 5 + 200) _) hr.un
  have hu6 := Nat.lt_of_le_of_lt (Nat.add_le_add_left (by decide : 66 ≤ 16 * 5 + 200) _) hr.un
  exact (dss_one (ds_ret (de_call (ok__law_order T) (hr.mono (by decide)) T.g__law_order T.k__law_order T.b__law_order_3 .nil (fun _ _ _ => RpL.nil) tkD (da_cons (de_ix x_ix (de_var 0) de_int) (da_cons (de_ix x_ix (de_var 0) de_int) (da_cons (de_var 1) da_nil))))))
theorem ok__law_is_ratio (T : Tx K mg a) : DL.FnOk P w K mg base (L2.CX P w) 2 a.f__law_is_ratio a.d__law_is_ratio P__law_is_ratio (spD K mg P__law_is_ratio.length m__law_is_ratio) := by
  refine fnd (g := g__law_is_ratio) T.F__law_is_ratio sc__law_is_ratio (by decide) fun cdv A outer s H E hr => ?_
  have nd := sc__law_is_ratio.nd
  have hu := hr.units
  have hu5 := Nat.lt_of_le_of_lt (Nat.add_le_add_left (by decide : 65 ≤ 16 * 1 + 200) _) hr.un
  have hu6 := Nat.lt_of_le_of_lt (Nat.add_le_add_left (by decide : 66 ≤ 16 * 1 + 200) _) hr.un
  exact (dss_cons (ds_if (dw_or (dt_not (dt_tru (de_isi T.n_isinstance T.n_tuple (by rfl) (de_var 0)))) (dw_or1 (dt_cmp (o_ne hu) (de_callB c_len (by rfl) T.n_len (by rfl) (da_cons (de_var 0) da_nil)) de_int))).dt (dss_one (ds_ret de_bl)) dss_nil)
    (dss_cons (ds_for hpD (by rfl) (di_in (de_var 0)) (dg_name (i := 1) nd) (dss_one (ds_if (dw_or (dt_tru (de_isi T.n_isinstance T.n_bool (by rfl) (de_var 1))) (dw_or1 (dt_not (dt_tru (de_isi T.n_isinstance T.n_int (by rfl) (de_var 1)))))).dt (dss_one (ds_ret de_bl)) dss_nil)))
    (dss_one (ds_ret (de_and (de_cmp o_gtI (de_ix x_ix (de_var 0) de_int) de_int) (de_one (de_cmp (o_eq hu) (de_call (ok__law_gcd T) (hr.mono (by decide)) T.g__law_gcd T.k__law_gcd T.b__law_gcd_2 .nil (fun _ _ _ => RpL.nil) tkD (da_cons (de_ix x_ix (de_var 0) de_int) (da_cons (de_ix x_ix (de_var 0) de_int) da_nil))) de_int)))))))
theorem ok__law_is_row (T : Tx K mg a) : DL.FnOk P w K mg base (L2.CX P w) 3 a.f__law_is_row a.d__law_is_row P__law_is_row (spD K mg P__law_is_row.length m__law_is_row) := by
  refine fnd (g := g__law_is_row) T.F__law_is_row sc__law_is_row (by decide) fun cdv A outer s H E hr => ?_
  have nd := sc__law_is_row.nd
  have hu := hr.units
  have hu5 := Nat.lt_of_le_of_lt (Nat.add_le_add_left (by decide : 65 ≤ 16 * 2 + 200) _) hr.un
  have hu6 := Nat.lt_of_le_of_lt (Nat.add_le_add_left (by decide : 66 ≤ 16 * 2 + 200) _) hr.un
  exact (dss_one (ds_ret (de_and (de_isi T.n_isinstance T.n_tuple (by rfl) (de_var 0)) (de_and (de_cmp (o_eq hu) (de_callB c_len (by rfl) T.n_len (by rfl) (da_cons (de_var 0) da_nil)) (de_var 1)) (de_one (de_notT (dn_lc (own := [("_law_one", 2)]) (by rfl) nd (di_in (de_var 0)) (blkOk_by (N := N__law_is_row) (sc := defScope s__law_is_row) (by decide +kernel)) (by decide) (fun _ _ _ _ _ => (dg_name (i := 2) nd)) (fun _ _ _ _ _ => (dts_one (dt_not (dt_tru (de_call (ok__law_is_ratio T) (hr.mono (by decide)) T.g__law_is_ratio T.k__law_is_ratio T.b__law_is_ratio_1 .nil (fun _ _ _ => RpL.nil) takes0 (da_cons (de_var 2) da_nil)))))) (fun _ _ _ _ _ => de_int)).de))))))
theorem ok__law_even (T : Tx K mg a) : DL.FnOk P w K mg base (L2.CX P w) 1 a.f__law_even a.d__law_even P__law_even (spD K mg P__law_even.length m__law_even) := by
  refine fnd (g := g__law_even) T.F__law_even sc__law_even (by decide) fun cdv A outer s H E hr => ?_
  have nd := sc__law_even.nd
  have hu := hr.units
  have hu5 := Nat.lt_of_le_of_lt (Nat.add_le_add_left (by decide : 65 ≤ 16 * 0 + 200) _) hr.un
  have hu6 := Nat.lt_of_le_of_lt (Nat.add_le_add_left (by decide : 66 ≤ 16 * 0 + 200) _) hr.un
  exact (dss_one (ds_ret (de_tup (da_cons (de_callTy c_tuple (by rfl) T.n_tuple (by rfl) (da_cons (dn_lc (own := [("_law_k", 1)]) (by rfl) nd (di_range1 (by rfl) T.n_range (da_cons (de_var 0) da_nil)) (blkOk_by (N := N__law_even) (sc := defScope s__law_even) (by decide +kernel)) (by decide) (fun _ _ _ _ _ => (dg_name (i := 1) nd)) (fun _ _ _ _ _ => dts_nil) (fun _ _ _ _ _ => (de_tup (da_cons de_int (da_cons de_int da_nil))))).de da_nil)) (da_cons (de_callTy c_tuple (by rfl) T.n_tuple (by rfl) (da_cons (dn_lc (own := [("_law_k", 1)]) (by rfl) nd (di_range1 (by rfl) T.n_range (da_cons (de_var 0) da_nil)) (blkOk_by (N := N__law_even) (sc := defScope s__law_even) (by decide +kernel)) (by decide) (fun _ _ _ _ _ => (dg_name (i := 1) nd)) (fun _ _ _ _ _ => dts_nil) (fun _ _ _ _ _ => (de_tup (da_cons (de_var 1) (da_cons de_int da_nil))))).de da_nil)) da_nil)))))
theorem ok__law_is_whole (T : Tx K mg a) : DL.FnOk P w K mg base (L2.CX P w) 1 a.f__law_is_whole a.d__law_is_whole P__law_is_whole (spD K mg P__law_is_whole.length m__law_is_whole) := by
  refine fnd (g := g__law_is_whole) T.F__law_is_whole sc__law_is_whole (by decide) fun cdv A outer s H E hr => ?_
  have nd := sc__law_is_whole.nd
  have hu := hr.units
  have hu5 := Nat.lt_of_le_of_lt (Nat.add_le_add_left (by decide : 65 ≤ 16 * 0 + 200) _) hr.un
  have hu6 := Nat.lt_of_le_of_lt (Nat.add_le_add_left (by decide : 66 ≤ 16 * 0 + 200) _) hr.un
  exact (dss_one (ds_ret (de_and (de_isi T.n_isinstance T.n_int (by rfl) (de_var 0)) (de_one (de_notT (de_isi T.n_isinstance T.n_bool (by rfl) (de_var 0)))))))
theorem ok__law_all_whole (T : Tx K mg a) : DL.FnOk P w K mg base (L2.CX P w) 2 a.f__law_all_whole a.d__law_all_whole P__law_all_whole (spD K mg P__law_all_whole.length m__law_all_whole) := by
  refine fnd (g := g__law_all_whole) T.F__law_all_whole sc__law_all_whole (by decide) fun cdv A outer s H E hr => ?_
  have nd := sc__law_all_whole.nd
  have hu := hr.units
  have hu5 := Nat.lt_of_le_of_lt (Nat.add_le_add_left (by decide : 65 ≤ 16 * 1 + 200) _) hr.un
  have hu6 := Nat.lt_of_le_of_lt (Nat.add_le_add_left (by decide : 66 ≤ 16 * 1 + 200) _) hr.un
  exact (dss_one (ds_ret (de_and (de_isi T.n_isinstance T.n_tuple (by rfl) (de_var 0)) (de_one (de_notT (dn_lc (own := [("_law_one", 1)]) (by rfl) nd (di_in (de_var 0)) (blkOk_by (N := N__law_all_whole) (sc := defScope s__law_all_whole) (by decide +kernel)) (by decide) (fun _ _ _ _ _ => (dg_name (i := 1) nd)) (fun _ _ _ _ _ => (dts_one (dt_not (dt_tru (de_call (ok__law_is_whole T) (hr.mono (by decide)) T.g__law_is_whole T.k__law_is_whole T.b__law_is_whole_1 .nil (fun _ _ _ => RpL.nil) takes0 (da_cons (de_var 1) da_nil)))))) (fun _ _ _ _ _ => de_int)).de)))))
theorem ok__law_chosen (T : Tx K mg a) : DL.FnOk P w K mg base (L2.CX P w) 1 a.f__law_chosen a.d__law_chosen P__law_chosen (spD K mg P__law_chosen.length m__law_chosen) := by
  refine fnd (g := g__law_chosen) T.F__law_chosen sc__law_chosen (by decide) fun cdv A outer s H E hr => ?_
  have nd := sc__law_chosen.nd
  have hu := hr.units
  have hu5 := Nat.lt_of_le_of_lt (Nat.add_le_add_left (by decide : 65 ≤ 16 * 0 + 200) _) hr.un
  have hu6 := Nat.lt_of_le_of_lt (Nat.add_le_add_left (by decide : 66 ≤ 16 * 0 + 200) _) hr.un
  exact (dss_cons (ds_own (i := 2) nd (dn_lst (da_cons de_int da_nil)))
    (dss_cons (ds_for hpD (by rfl) (di_range2 (by rfl) T.n_range (da_cons de_int (da_cons (de_var 1) da_nil))) (dg_name (i := 3) nd) (dss_one (ds_app (i := 2) (de_bin o_fdvI (de_bin o_mul (de_ixo (i := 2) (de_bin o_subI (de_var 3) de_int)) (de_bin o_add (de_bin o_subI (de_var 0) (de_var 3)) de_int)) (de_var 3)))))
    (dss_fz 2 (dss_one (ds_ret (de_var 2))))))
theorem ok__law_binomials (T : Tx K mg a) : DL.FnOk P w K mg base (L2.CX P w) 2 a.f__law_binomials a.d__law_binomials P__law_binomials (spD K mg P__law_binomials.length m__law_binomials) := by
  refine fnd (g := g__law_binomials) T.F__law_binomials sc__law_binomials (by decide) fun cdv A outer s H E hr => ?_
  have nd := sc__law_binomials.nd
  have hu := hr.units
  have hu5 := Nat.lt_of_le_of_lt (Nat.add_le_add_left (by decide : 65 ≤ 16 * 1 + 200) _) hr.un
  have hu6 := Nat.lt_of_le_of_lt (Nat.add_le_add_left (by decide : 66 ≤ 16 * 1 + 200) _) hr.un
  exact (dss_cons (ds_set (i := 3) nd (de_bin o_mul (de_lst (da_cons de_int da_nil)) (de_var 2)))
    (dss_cons (ds_for hpD (by rfl) (di_range1 (by rfl) T.n_range (da_cons (de_callB c_len (by rfl) T.n_len (by rfl) (da_cons (de_var 0) da_nil)) da_nil)) (dg_name (i := 4) nd) (dss_cons (ds_set (i := 5) nd (de_call (ok__law_chosen T) (hr.mono (by decide)) T.g__law_chosen T.k__law_chosen T.b__law_chosen_2 .nil (fun _ _ _ => RpL.nil) tkD (da_cons (de_bin o_mul (de_var 4) (de_var 1)) (da_cons (de_var 2) da_nil))))
    (dss_one (ds_set (i := 3) nd (dn_lc (own := [("_law_at", 6)]) (by rfl) nd (di_range1 (by rfl) T.n_range (da_cons (de_var 2) da_nil)) (blkOk_by (N := N__law_binomials) (sc := defScope s__law_binomials) (by decide +kernel)) (by decide) (fun _ _ _ _ _ => (dg_name (i := 6) nd)) (fun _ _ _ _ _ => dts_nil) (fun _ _ _ _ _ => (de_bin o_add (de_ix x_ix (de_var 3) (de_var 6)) (de_bin o_mul (de_ix x_ix (de_var 0) (de_var 4)) (de_ix x_ix (de_var 5) (de_var 6)))))).de))))
    (dss_one (ds_ret (de_var 3)))))
theorem ok__law_right (T : Tx K mg a) : DL.FnOk P w K mg base (L2.CX P w) 7 a.f__law_right a.d__law_right P__law_right (spD K mg P__law_right.length m__law_right) := by
  refine fnd (g := g__law_right) T.F__law_right sc__law_right (by decide) fun cdv A outer s H E hr => ?_
  have nd := sc__law_right.nd
  have hu := hr.units
  have hu5 := Nat.lt_of_le_of_lt (Nat.add_le_add_left (by decide : 65 ≤ 16 * 6 + 200) _) hr.un
  have hu6 := Nat.lt_of_le_of_lt (Nat.add_le_add_left (by decide : 66 ≤ 16 * 6 + 200) _) hr.un
  exact (dss_cons (ds_set (i := 2) nd (de_call (ok_sum_rows T) (hr.mono (by decide)) T.g_sum_rows T.k_sum_rows T.b_sum_rows_1 .nil (fun _ _ _ => RpL.nil) tkD (da_cons (dn_list T.n_list (de_var 0)).de da_nil)))
    (dss_cons (ds_set (i := 3) nd (de_call (ok__law_rows T) (hr.mono (by decide)) T.g__law_rows T.k__law_rows T.b__law_rows_1 .nil (fun _ _ _ => RpL.nil) tkD (da_cons (de_var 0) da_nil)))
    (dss_cons (ds_if (dw_or (dt_cmp (o_ne hu) (de_var 2) (de_callTy c_tuple (by rfl) T.n_tuple (by rfl) (da_cons (de_var 3) da_nil))) (dw_or1 (dt_tru (dn_lc (own := [("_law_row", 6)]) (by rfl) nd (di_in (de_var 2)) (blkOk_by (N := N__law_right) (sc := defScope s__law_right) (by decide +kernel)) (by decide) (fun _ _ _ _ _ => (dg_name (i := 6) nd)) (fun _ _ _ _ _ => (dts_one (dt_not (dt_tru (de_call (ok__law_all_whole T) (hr.mono (by decide)) T.g__law_all_whole T.k__law_all_whole T.b__law_all_whole_1 .nil (fun _ _ _ => RpL.nil) takes0 (da_cons (de_var 6) da_nil)))))) (fun _ _ _ _ _ => de_int)).de))).dt (dss_one (ds_ret de_bl)) dss_nil)
    (dss_cons (ds_set (i := 4) nd (de_bin o_subI (de_callB c_len (by rfl) T.n_len (by rfl) (da_cons (de_var 2) da_nil)) de_int))
    (dss_cons (ds_if (dw_or (dt_cmp (o_ne hu) (de_var 4) (de_call (ok__law_line_order T) (hr.mono (by decide)) T.g__law_line_order T.k__law_line_order T.b__law_line_order_2 .nil (fun _ _ _ => RpL.nil) tkD (da_cons (de_call (ok__law_even T) (hr.mono (by decide)) T.g__law_even T.k__law_even T.b__law_even_1 .nil (fun _ _ _ => RpL.nil) tkD (da_cons (de_callB c_len (by rfl) T.n_len (by rfl) (da_cons (de_var 0) da_nil)) da_nil)) (da_cons (de_var 0) da_nil)))) (dw_or1 (dt_cmp (o_eq hu) (de_callB (c_sumA (by rfl)) (by rfl) T.n_sum (by rfl) (da_cons (de_ix x_ix (de_var 2) (de_un o_negI de_int)) da_nil)) de_int))).dt (dss_one (ds_ret de_bl)) dss_nil)
    (dss_cons (ds_set (i := 5) nd (de_call (ok_binomial_noises T) (hr.mono (by decide)) T.g_binomial_noises T.k_binomial_noises T.b_binomial_noises_2 .nil (fun _ _ _ => RpL.nil) tkD (da_cons (de_var 0) (da_cons (de_var 1) da_nil))))
    (dss_cons (ds_if (dw_or (dt_not (dt_tru (de_call (ok__law_is_row T) (hr.mono (by decide)) T.g__law_is_row T.k__law_is_row T.b__law_is_row_2 .nil (fun _ _ _ => RpL.nil) tkD (da_cons (de_var 5) (da_cons (de_var 1) da_nil))))) (dw_or1 (dt_cmp (o_ne hu) (de_var 5) (de_callTy c_tuple (by rfl) T.n_tuple (by rfl) (da_cons (dn_lc (own := [("_law_heard", 7)]) (by rfl) nd (di_in (de_call (ok__law_binomials T) (hr.mono (by decide)) T.g__law_binomials T.k__law_binomials T.b__law_binomials_3 .nil (fun _ _ _ => RpL.nil) tkD (da_cons (de_var 0) (da_cons de_int (da_cons (de_var 1) da_nil))))) (blkOk_by (N := N__law_right) (sc := defScope s__law_right) (by decide +kernel)) (by decide) (fun _ _ _ _ _ => (dg_name (i := 7) nd)) (fun _ _ _ _ _ => dts_nil) (fun _ _ _ _ _ => (de_tup (da_cons (de_var 7) (da_cons de_int da_nil))))).de da_nil))))).dt (dss_one (ds_ret de_bl)) dss_nil)
    (dss_cons (ds_if (dt_tru (dn_lc (own := [("_law_heard", 7)]) (by rfl) nd (di_in (de_sl (de_var 5) do_none (do_some (de_var 4)))) (blkOk_by (N := N__law_right) (sc := defScope s__law_right) (by decide +kernel)) (by decide) (fun _ _ _ _ _ => (dg_name (i := 7) nd)) (fun _ _ _ _ _ => (dts_one (dt_cmp (o_ne hu) (de_var 7) (de_tup (da_cons de_int (da_cons de_int da_nil)))))) (fun _ _ _ _ _ => de_int)).de) (dss_one (ds_ret de_bl)) dss_nil)
    (dss_one (ds_ret (de_or (de_cmp o_geI (de_var 4) (de_var 1)) (de_one (de_cmp (o_eq hu) (de_ix x_ix (de_var 5) (de_var 4)) (de_tup (da_cons (de_bin o_mul (de_callB (c_sumA (by rfl)) (by rfl) T.n_sum (by rfl) (da_cons (de_ix x_ix (de_var 2) (de_un o_negI de_int)) da_nil)) (de_bin o_subI de_int (de_bin o_mul de_int (de_bin o_modI (de_callTy c_int1 (by rfl) T.n_int (by rfl) (da_cons (de_var 4) da_nil)) de_int)))) (da_cons de_int da_nil))))))))))))))))
theorem ok__law_refused (T : Tx K mg a) : DL.FnOk P w K mg base (L2.CX P w) 6 a.f__law_refused a.d__law_refused P__law_refused (spD K mg P__law_refused.length m__law_refused) := by
  refine fnd (g := g__law_refused) T.F__law_refused sc__law_refused (by decide) fun cdv A outer s H E hr => ?_
  have nd := sc__law_refused.nd
  have hu := hr.units
  have hu5 := Nat.lt_of_le_of_lt (Nat.add_le_add_left (by decide : 65 ≤ 16 * 5 + 200) _) hr.un
  have hu6 := Nat.lt_of_le_of_lt (Nat.add_le_add_left (by decide : 66 ≤ 16 * 5 + 200) _) hr.un
  exact (dss_cons (ds_try_mix (l := [(_, cat_BadWord, (some 2), _), (_, cat_BadCount, none, _)]) (by rfl) (by rfl) nd tkD (fun Wx pn xe tk1 hp1 => (dss_one (ds_expr (de_call (ok_binomial_noises T) (hr.mono (by decide)) T.g_binomial_noises T.k_binomial_noises T.b_binomial_noises_2 .nil (fun _ _ _ => RpL.nil) tk1 (da_cons (de_var 0) (da_cons (de_var 1) da_nil)))))) (.named (by exact ⟨rfl, by decide, .inl T.g_BadWord⟩) (cat_BadWord_ok T) (by rfl) (by rfl) (fun a oe cls d pn hz hv => (dss_one (ds_ret (de_tup (da_cons de_str (da_cons (de_xf (i := 2) T.x_BadWord T.n_BadWord_index hz hv T.g_BadWord) (da_cons (de_xf (i := 2) T.x_BadWord T.n_BadWord_what hz hv T.g_BadWord) da_nil))))))) (.bare (by exact ⟨rfl, by decide, .inl T.g_BadCount⟩) (cat_BadCount_ok T) (fun a oe cls d pn hz hv => (dss_one (ds_ret (de_tup (da_cons de_str da_nil))))) .nil)))
    (dss_one (ds_ret de_non)))
theorem ok__law_rows_refused (T : Tx K mg a) : DL.FnOk P w K mg base (L2.CX P w) 6 a.f__law_rows_refused a.d__law_rows_refused P__law_rows_refused (spD K mg P__law_rows_refused.length m__law_rows_refused) := by
  refine fnd (g := g__law_rows_refused) T.F__law_rows_refused sc__law_rows_refused (by decide) fun cdv A outer s H E hr => ?_
  have nd := sc__law_rows_refused.nd
  have hu := hr.units
  have hu5 := Nat.lt_of_le_of_lt (Nat.add_le_add_left (by decide : 65 ≤ 16 * 5 + 200) _) hr.un
  have hu6 := Nat.lt_of_le_of_lt (Nat.add_le_add_left (by decide : 66 ≤ 16 * 5 + 200) _) hr.un
  exact (dss_cons (ds_try_as (i := 1) (cat := cat_BadWord) (by rfl) (by rfl) nd (by exact ⟨rfl, by decide, .inl T.g_BadWord⟩) tkD (cat_BadWord_ok T) (fun Wx pn xe tk1 hp1 => (dss_one (ds_expr (de_call (ok_sum_rows T) (hr.mono (by decide)) T.g_sum_rows T.k_sum_rows T.b_sum_rows_1 .nil (fun _ _ _ => RpL.nil) tk1 (da_cons (de_var 0) da_nil))))) (fun a oe cls d pn hz hv => (dss_one (ds_ret (de_tup (da_cons (de_xf (i := 1) T.x_BadWord T.n_BadWord_index hz hv T.g_BadWord) (da_cons (de_xf (i := 1) T.x_BadWord T.n_BadWord_what hz hv T.g_BadWord) da_nil)))))))
    (dss_one (ds_ret de_non)))
theorem ok_law (T : Tx K mg a) : DL.FnOk P w K mg base (L2.CX P w) 8 a.f_law a.d_law P_law (spD K mg P_law.length m_law) := by
  refine fnd (g := g_law) T.F_law sc_law (by decide) fun cdv A outer s H E hr => ?_
  have nd := sc_law.nd
  have hu := hr.units
  have hu5 := Nat.lt_of_le_of_lt (Nat.add_le_add_left (by decide : 65 ≤ 16 * 7 + 200) _) hr.un
  have hu6 := Nat.lt_of_le_of_lt (Nat.add_le_add_left (by decide : 66 ≤ 16 * 7 + 200) _) hr.un
  exact (dss_cons (ds_own (i := 1) nd (dn_call (ok__law_hand T) (hr.mono (by decide)) T.g__law_hand T.k__law_hand T.b__law_hand_1 .nil (fun _ _ _ => RpL.nil) tkD (da_cons (de_var 0) da_nil)))
    (dss_cons (ds_for hpD (by rfl) (di_range1 (by rfl) T.n_range (da_cons de_int da_nil)) (dg_name (i := 2) nd) (dss_cons (ds_set (i := 3) nd (de_callM (i := 1) (ok__law_built T) (hr.mono (by decide)) T.g__law_built T.k__law_built T.b__law_built_2 tkD (da_cons (de_callM (i := 1) (ok__law_count T) (hr.mono (by decide)) T.g__law_count T.k__law_count T.b__law_count_1 tkD da_nil) da_nil)))
    (dss_cons (ds_set (i := 4) nd (de_bin o_add de_int (de_callM (i := 1) (ok__law_take T) (hr.mono (by decide)) T.g__law_take T.k__law_take T.b__law_take_2 tkD (da_cons (de_if (dt_cmp (o_eq hu) (de_var 2) de_int) de_int de_int) da_nil))))
    (dss_one (ds_if (dt_not (dt_tru (de_call (ok__law_right T) (hr.mono (by decide)) T.g__law_right T.k__law_right T.b__law_right_2 .nil (fun _ _ _ => RpL.nil) tkD (da_cons (de_var 3) (da_cons (de_var 4) da_nil))))) (dss_one (ds_ret de_bl)) dss_nil)))))
    (dss_cons (ds_set (i := 5) nd (de_callM (i := 1) (ok__law_take T) (hr.mono (by decide)) T.g__law_take T.k__law_take T.b__law_take_2 tkD (da_cons de_int da_nil)))
    (dss_cons (ds_set (i := 6) nd (de_ix x_ix (de_lst (da_cons de_int (da_cons de_int (da_cons de_bl (da_cons de_non (da_cons de_str (da_cons (de_tup (da_cons de_int (da_cons de_int da_nil))) (da_cons (de_bin o_subI (de_un o_negI de_int) (de_callM (i := 1) (ok__law_take T) (hr.mono (by decide)) T.g__law_take T.k__law_take T.b__law_take_2 tkD (da_cons de_int da_nil))) (da_cons (de_bin o_add de_int (de_callM (i := 1) (ok__law_take T) (hr.mono (by decide)) T.g__law_take T.k__law_take T.b__law_take_2 tkD (da_cons (de_bin o_powI de_int de_int) da_nil))) da_nil))))))))) (de_var 5)))
    (dss_cons (ds_asg (de_callM (i := 1) (ok__law_odd_word T) (hr.mono (by decide)) T.g__law_odd_word T.k__law_odd_word T.b__law_odd_word_2 tkD (da_cons (de_var 3) da_nil)) (dg_tup (by rfl) (dgs_cons (dg_name (i := 7) nd) (dgs_cons (dg_name (i := 8) nd) (dgs_cons (dg_name (i := 9) nd) dgs_nil)))))
    (dss_cons (ds_if (dw_or (dt_cmp (o_ne hu) (de_call (ok__law_refused T) (hr.mono (by decide)) T.g__law_refused T.k__law_refused T.b__law_refused_2 .nil (fun _ _ _ => RpL.nil) tkD (da_cons (de_var 3) (da_cons (de_var 6) da_nil))) (de_tup (da_cons de_str da_nil))) (dw_or1 (dt_cmp (o_ne hu) (de_call (ok__law_refused T) (hr.mono (by decide)) T.g__law_refused T.k__law_refused T.b__law_refused_2 .nil (fun _ _ _ => RpL.nil) tkD (da_cons (de_var 7) (da_cons (de_var 6) da_nil))) (de_tup (da_cons de_str (da_cons (de_var 8) (da_cons (de_var 9) da_nil))))))).dt (dss_one (ds_ret de_bl)) dss_nil)
    (dss_cons (ds_if (dw_or (dt_cmp (o_ne hu) (de_call (ok__law_refused T) (hr.mono (by decide)) T.g__law_refused T.k__law_refused T.b__law_refused_2 .nil (fun _ _ _ => RpL.nil) tkD (da_cons (de_var 7) (da_cons (de_var 4) da_nil))) (de_tup (da_cons de_str (da_cons (de_var 8) (da_cons (de_var 9) da_nil))))) (dw_or1 (dt_cmp (o_ne hu) (de_call (ok__law_rows_refused T) (hr.mono (by decide)) T.g__law_rows_refused T.k__law_rows_refused T.b__law_rows_refused_1 .nil (fun _ _ _ => RpL.nil) tkD (da_cons (de_var 7) da_nil)) (de_tup (da_cons (de_var 8) (da_cons (de_var 9) da_nil)))))).dt (dss_one (ds_ret de_bl)) dss_nil)
    (dss_one (ds_ret (de_and (de_cmp o_isN (de_call (ok__law_refused T) (hr.mono (by decide)) T.g__law_refused T.k__law_refused T.b__law_refused_2 .nil (fun _ _ _ => RpL.nil) tkD (da_cons (de_var 3) (da_cons de_int da_nil))) de_non) (de_and (de_cmp o_isN (de_call (ok__law_refused T) (hr.mono (by decide)) T.g__law_refused T.k__law_refused T.b__law_refused_2 .nil (fun _ _ _ => RpL.nil) tkD (da_cons (dn_list T.n_list (de_var 3)).de (da_cons de_int da_nil))) de_non) (de_one (de_cmp o_isN (de_call (ok__law_rows_refused T) (hr.mono (by decide)) T.g__law_rows_refused T.k__law_rows_refused T.b__law_rows_refused_1 .nil (fun _ _ _ => RpL.nil) tkD (da_cons (de_var 3) da_nil)) de_non)))))))))))))
theorem all_mk {l : PySem.W.OpenLaw} {w : World} {K : PySem.W.Frag} {h : Heap} {mg : Str → Option Value}
    {fa : Addr}
    {C_BadCount : Addr}
    {f__law_hand : Addr} {od__law_hand an__law_hand : Option Addr} {sl__law_hand : Array (Option Value)} {oc__law_hand kV__law_hand dc__law_hand pm__law_hand cd__law_hand ct__law_hand : Value}
    {f__law_mixed : Addr} {od__law_mixed an__law_mixed : Option Addr} {sl__law_mixed : Array (Option Value)} {oc__law_mixed kV__law_mixed dc__law_mixed pm__law_mixed cd__law_mixed ct__law_mixed : Value}
    {f__law_take : Addr} {od__law_take an__law_take : Option Addr} {sl__law_take : Array (Option Value)} {oc__law_take kV__law_take dc__law_take pm__law_take cd__law_take ct__law_take : Value}
    {f__law_odd_word : Addr} {od__law_odd_word an__law_odd_word : Option Addr} {sl__law_odd_word : Array (Option Value)} {oc__law_odd_word kV__law_odd_word dc__law_odd_word pm__law_odd_word cd__law_odd_word ct__law_odd_word : Value}
    {f__law_word : Addr} {od__law_word an__law_word : Option Addr} {sl__law_word : Array (Option Value)} {oc__law_word kV__law_word dc__law_word pm__law_word cd__law_word ct__law_word : Value}
    {f__law_built : Addr} {od__law_built an__law_built : Option Addr} {sl__law_built : Array (Option Value)} {oc__law_built kV__law_built dc__law_built pm__law_built cd__law_built ct__law_built : Value}
    {f__law_count : Addr} {od__law_count an__law_count : Option Addr} {sl__law_count : Array (Option Value)} {oc__law_count kV__law_count dc__law_count pm__law_count cd__law_count ct__law_count : Value}
    {f__check_first : Addr} {od__check_first an__check_first : Option Addr} {sl__check_first : Array (Option Value)} {oc__check_first kV__check_first dc__check_first pm__check_first cd__check_first ct__check_first : Value}
    {f_is_row : Addr} {od_is_row an_is_row : Option Addr} {sl_is_row : Array (Option Value)} {oc_is_row kV_is_row dc_is_row pm_is_row cd_is_row ct_is_row : Value}
    {f_is_whole : Addr} {od_is_whole an_is_whole : Option Addr} {sl_is_whole : Array (Option Value)} {oc_is_whole kV_is_whole dc_is_whole pm_is_whole cd_is_whole ct_is_whole : Value}
    {T_is_whole : Addr} {odT_is_whole : Option Addr} {ocT_is_whole : Value} {nT_is_whole : Nat} {slT_is_whole : Array (Option Value)}
    {f__check_sign_row : Addr} {od__check_sign_row an__check_sign_row : Option Addr} {sl__check_sign_row : Array (Option Value)} {oc__check_sign_row kV__check_sign_row dc__check_sign_row pm__check_sign_row cd__check_sign_row ct__check_sign_row : Value}
    {f_check_signs : Addr} {od_check_signs an_check_signs : Option Addr} {sl_check_signs : Array (Option Value)} {oc_check_signs kV_check_signs dc_check_signs pm_check_signs cd_check_signs ct_check_signs : Value}
    {f__running_sums : Addr} {od__running_sums an__running_sums : Option Addr} {sl__running_sums : Array (Option Value)} {oc__running_sums kV__running_sums dc__running_sums pm__running_sums cd__running_sums ct__running_sums : Value}
    {f_sum_rows : Addr} {od_sum_rows an_sum_rows : Option Addr} {sl_sum_rows : Array (Option Value)} {oc_sum_rows kV_sum_rows dc_sum_rows pm_sum_rows cd_sum_rows ct_sum_rows : Value}
    {f__law_rows : Addr} {od__law_rows an__law_rows : Option Addr} {sl__law_rows : Array (Option Value)} {oc__law_rows kV__law_rows dc__law_rows pm__law_rows cd__law_rows ct__law_rows : Value}
    {f_binomial_sums : Addr} {od_binomial_sums an_binomial_sums : Option Addr} {sl_binomial_sums : Array (Option Value)} {oc_binomial_sums kV_binomial_sums dc_binomial_sums pm_binomial_sums cd_binomial_sums ct_binomial_sums : Value}
    {f_binomial_noises : Addr} {od_binomial_noises an_binomial_noises : Option Addr} {sl_binomial_noises : Array (Option Value)} {oc_binomial_noises kV_binomial_noises dc_binomial_noises pm_binomial_noises cd_binomial_noises ct_binomial_noises : Value}
    {f__law_gcd : Addr} {od__law_gcd an__law_gcd : Option Addr} {sl__law_gcd : Array (Option Value)} {oc__law_gcd kV__law_gcd dc__law_gcd pm__law_gcd cd__law_gcd ct__law_gcd : Value}
    {f__law_ratio : Addr} {od__law_ratio an__law_ratio : Option Addr} {sl__law_ratio : Array (Option Value)} {oc__law_ratio kV__law_ratio dc__law_ratio pm__law_ratio cd__law_ratio ct__law_ratio : Value}
    {f__law_plus : Addr} {od__law_plus an__law_plus : Option Addr} {sl__law_plus : Array (Option Value)} {oc__law_plus kV__law_plus dc__law_plus pm__law_plus cd__law_plus ct__law_plus : Value}
    {f__law_times : Addr} {od__law_times an__law_times : Option Addr} {sl__law_times : Array (Option Value)} {oc__law_times kV__law_times dc__law_times pm__law_times cd__law_times ct__law_times : Value}
    {f__law_noise : Addr} {od__law_noise an__law_noise : Option Addr} {sl__law_noise : Array (Option Value)} {oc__law_noise kV__law_noise dc__law_noise pm__law_noise cd__law_noise ct__law_noise : Value}
    {f__law_power : Addr} {od__law_power an__law_power : Option Addr} {sl__law_power : Array (Option Value)} {oc__law_power kV__law_power dc__law_power pm__law_power cd__law_power ct__law_power : Value}
    {f__law_mark_hum : Addr} {od__law_mark_hum an__law_mark_hum : Option Addr} {sl__law_mark_hum : Array (Option Value)} {oc__law_mark_hum kV__law_mark_hum dc__law_mark_hum pm__law_mark_hum cd__law_mark_hum ct__law_mark_hum : Value}
    {f__law_order : Addr} {od__law_order an__law_order : Option Addr} {sl__law_order : Array (Option Value)} {oc__law_order kV__law_order dc__law_order pm__law_order cd__law_order ct__law_order : Value}
    {f__law_line_order : Addr} {od__law_line_order an__law_line_order : Option Addr} {sl__law_line_order : Array (Option Value)} {oc__law_line_order kV__law_line_order dc__law_line_order pm__law_line_order cd__law_line_order ct__law_line_order : Value}
    {f__law_is_ratio : Addr} {od__law_is_ratio an__law_is_ratio : Option Addr} {sl__law_is_ratio : Array (Option Value)} {oc__law_is_ratio kV__law_is_ratio dc__law_is_ratio pm__law_is_ratio cd__law_is_ratio ct__law_is_ratio : Value}
    {f__law_is_row : Addr} {od__law_is_row an__law_is_row : Option Addr} {sl__law_is_row : Array (Option Value)} {oc__law_is_row kV__law_is_row dc__law_is_row pm__law_is_row cd__law_is_row ct__law_is_row : Value}
    {f__law_even : Addr} {od__law_even an__law_even : Option Addr} {sl__law_even : Array (Option Value)} {oc__law_even kV__law_even dc__law_even pm__law_even cd__law_even ct__law_even : Value}
    {f__law_is_whole : Addr} {od__law_is_whole an__law_is_whole : Option Addr} {sl__law_is_whole : Array (Option Value)} {oc__law_is_whole kV__law_is_whole dc__law_is_whole pm__law_is_whole cd__law_is_whole ct__law_is_whole : Value}
    {f__law_all_whole : Addr} {od__law_all_whole an__law_all_whole : Option Addr} {sl__law_all_whole : Array (Option Value)} {oc__law_all_whole kV__law_all_whole dc__law_all_whole pm__law_all_whole cd__law_all_whole ct__law_all_whole : Value}
    {f__law_chosen : Addr} {od__law_chosen an__law_chosen : Option Addr} {sl__law_chosen : Array (Option Value)} {oc__law_chosen kV__law_chosen dc__law_chosen pm__law_chosen cd__law_chosen ct__law_chosen : Value}
    {f__law_binomials : Addr} {od__law_binomials an__law_binomials : Option Addr} {sl__law_binomials : Array (Option Value)} {oc__law_binomials kV__law_binomials dc__law_binomials pm__law_binomials cd__law_binomials ct__law_binomials : Value}
    {f__law_right : Addr} {od__law_right an__law_right : Option Addr} {sl__law_right : Array (Option Value)} {oc__law_right kV__law_right dc__law_right pm__law_right cd__law_right ct__law_right : Value}
    {f__law_refused : Addr} {od__law_refused an__law_refused : Option Addr} {sl__law_refused : Array (Option Value)} {oc__law_refused kV__law_refused dc__law_refused pm__law_refused cd__law_refused ct__law_refused : Value}
    {f__law_rows_refused : Addr} {od__law_rows_refused an__law_rows_refused : Option Addr} {sl__law_rows_refused : Array (Option Value)} {oc__law_rows_refused kV__law_rows_refused dc__law_rows_refused pm__law_rows_refused cd__law_rows_refused ct__law_rows_refused : Value}
    {f_law : Addr} {od_law an_law : Option Addr} {sl_law : Array (Option Value)} {oc_law kV_law dc_law pm_law cd_law ct_law : Value}
    {C_BadWord i_BadWord : Addr} {nm_BadWord q_BadWord : Str} {N_BadWord : Addr} {bs_BadWord bm_BadWord : List Value} {sn_BadWord : List Str} {sub_BadWord : List Value} {ab_BadWord : Bool} {col_BadWord : Option Bool} {dd_BadWord : Option Addr} {m0_BadWord m1_BadWord m2_BadWord m3_BadWord m5_BadWord : Option Value}
    {odi_BadWord ani_BadWord : Option Addr} {sli_BadWord : Array (Option Value)} {oci_BadWord kVi_BadWord dci_BadWord pmi_BadWord cdi_BadWord cti_BadWord : Value}
    {t_MOST_SECTIONS : Tok}
    (X : K.In h) (G : h.Ns mainGlobals mg) (hfa : mg "law" = some (.ref fa))
    (a__law_hand : PySem.W.nsIn K mainGlobals "_law_hand" = some (some (.ref f__law_hand)))
    (l__law_hand : K.lookup f__law_hand = some ⟨oc__law_hand, od__law_hand, .func (PySem.W.fnOf "_law_hand" "_law_hand" (defArgs s__law_hand) (defBody s__law_hand) (defScope s__law_hand) .none kV__law_hand dc__law_hand pm__law_hand an__law_hand cd__law_hand ct__law_hand), sl__law_hand⟩)
    (c__law_hand : PySem.W.codeIn K cd__law_hand "_law_hand" = true)
    (k__law_hand : PySem.W.keepIn K (.ref f__law_hand) = true)
    (a__law_mixed : PySem.W.nsIn K mainGlobals "_law_mixed" = some (some (.ref f__law_mixed)))
    (l__law_mixed : K.lookup f__law_mixed = some ⟨oc__law_mixed, od__law_mixed, .func (PySem.W.fnOf "_law_mixed" "_law_mixed" (defArgs s__law_mixed) (defBody s__law_mixed) (defScope s__law_mixed) .none kV__law_mixed dc__law_mixed pm__law_mixed an__law_mixed cd__law_mixed ct__law_mixed), sl__law_mixed⟩)
    (c__law_mixed : PySem.W.codeIn K cd__law_mixed "_law_mixed" = true)
    (k__law_mixed : PySem.W.keepIn K (.ref f__law_mixed) = true)
    (a__law_take : PySem.W.nsIn K mainGlobals "_law_take" = some (some (.ref f__law_take)))
    (l__law_take : K.lookup f__law_take = some ⟨oc__law_take, od__law_take, .func (PySem.W.fnOf "_law_take" "_law_take" (defArgs s__law_take) (defBody s__law_take) (defScope s__law_take) .none kV__law_take dc__law_take pm__law_take an__law_take cd__law_take ct__law_take), sl__law_take⟩)
    (c__law_take : PySem.W.codeIn K cd__law_take "_law_take" = true)
    (k__law_take : PySem.W.keepIn K (.ref f__law_take) = true)
    (a__law_odd_word : PySem.W.nsIn K mainGlobals "_law_odd_word" = some (some (.ref f__law_odd_word)))
    (l__law_odd_word : K.lookup f__law_odd_word = some ⟨oc__law_odd_word, od__law_odd_word, .func (PySem.W.fnOf "_law_odd_word" "_law_odd_word" (defArgs s__law_odd_word) (defBody s__law_odd_word) (defScope s__law_odd_word) .none kV__law_odd_word dc__law_odd_word pm__law_odd_word an__law_odd_word cd__law_odd_word ct__law_odd_word), sl__law_odd_word⟩)
    (c__law_odd_word : PySem.W.codeIn K cd__law_odd_word "_law_odd_word" = true)
    (k__law_odd_word : PySem.W.keepIn K (.ref f__law_odd_word) = true)
    (a__law_word : PySem.W.nsIn K mainGlobals "_law_word" = some (some (.ref f__law_word)))
    (l__law_word : K.lookup f__law_word = some ⟨oc__law_word, od__law_word, .func (PySem.W.fnOf "_law_word" "_law_word" (defArgs s__law_word) (defBody s__law_word) (defScope s__law_word) .none kV__law_word dc__law_word pm__law_word an__law_word cd__law_word ct__law_word), sl__law_word⟩)
    (c__law_word : PySem.W.codeIn K cd__law_word "_law_word" = true)
    (k__law_word : PySem.W.keepIn K (.ref f__law_word) = true)
    (a__law_built : PySem.W.nsIn K mainGlobals "_law_built" = some (some (.ref f__law_built)))
    (l__law_built : K.lookup f__law_built = some ⟨oc__law_built, od__law_built, .func (PySem.W.fnOf "_law_built" "_law_built" (defArgs s__law_built) (defBody s__law_built) (defScope s__law_built) .none kV__law_built dc__law_built pm__law_built an__law_built cd__law_built ct__law_built), sl__law_built⟩)
    (c__law_built : PySem.W.codeIn K cd__law_built "_law_built" = true)
    (k__law_built : PySem.W.keepIn K (.ref f__law_built) = true)
    (a__law_count : PySem.W.nsIn K mainGlobals "_law_count" = some (some (.ref f__law_count)))
    (l__law_count : K.lookup f__law_count = some ⟨oc__law_count, od__law_count, .func (PySem.W.fnOf "_law_count" "_law_count" (defArgs s__law_count) (defBody s__law_count) (defScope s__law_count) .none kV__law_count dc__law_count pm__law_count an__law_count cd__law_count ct__law_count), sl__law_count⟩)
    (c__law_count : PySem.W.codeIn K cd__law_count "_law_count" = true)
    (k__law_count : PySem.W.keepIn K (.ref f__law_count) = true)
    (a__check_first : PySem.W.nsIn K mainGlobals "_check_first" = some (some (.ref f__check_first)))
    (l__check_first : K.lookup f__check_first = some ⟨oc__check_first, od__check_first, .func (PySem.W.fnOf "_check_first" "_check_first" (defArgs s__check_first) (defBody s__check_first) (defScope s__check_first) .none kV__check_first dc__check_first pm__check_first an__check_first cd__check_first ct__check_first), sl__check_first⟩)
    (c__check_first : PySem.W.codeIn K cd__check_first "_check_first" = true)
    (k__check_first : PySem.W.keepIn K (.ref f__check_first) = true)
    (a_is_row : PySem.W.nsIn K mainGlobals "is_row" = some (some (.ref f_is_row)))
    (l_is_row : K.lookup f_is_row = some ⟨oc_is_row, od_is_row, .func (PySem.W.fnOf "is_row" "is_row" (defArgs s_is_row) (defBody s_is_row) (defScope s_is_row) .none kV_is_row dc_is_row pm_is_row an_is_row cd_is_row ct_is_row), sl_is_row⟩)
    (c_is_row : PySem.W.codeIn K cd_is_row "is_row" = true)
    (k_is_row : PySem.W.keepIn K (.ref f_is_row) = true)
    (a_is_whole : PySem.W.nsIn K mainGlobals "is_whole" = some (some (.ref f_is_whole)))
    (l_is_whole : K.lookup f_is_whole = some ⟨oc_is_whole, od_is_whole, .func (PySem.W.fnOf "is_whole" "is_whole" (defArgs s_is_whole) (defBody s_is_whole) (defScope s_is_whole) (.ref T_is_whole) kV_is_whole dc_is_whole pm_is_whole an_is_whole cd_is_whole ct_is_whole), sl_is_whole⟩)
    (c_is_whole : PySem.W.codeIn K cd_is_whole "is_whole" = true)
    (k_is_whole : PySem.W.keepIn K (.ref f_is_whole) = true)
    (t_is_whole : K.lookup T_is_whole = some ⟨ocT_is_whole, odT_is_whole, .seq (List.toArray [.none, .none]) nT_is_whole, slT_is_whole⟩)
    (a__check_sign_row : PySem.W.nsIn K mainGlobals "_check_sign_row" = some (some (.ref f__check_sign_row)))
    (l__check_sign_row : K.lookup f__check_sign_row = some ⟨oc__check_sign_row, od__check_sign_row, .func (PySem.W.fnOf "_check_sign_row" "_check_sign_row" (defArgs s__check_sign_row) (defBody s__check_sign_row) (defScope s__check_sign_row) .none kV__check_sign_row dc__check_sign_row pm__check_sign_row an__check_sign_row cd__check_sign_row ct__check_sign_row), sl__check_sign_row⟩)
    (c__check_sign_row : PySem.W.codeIn K cd__check_sign_row "_check_sign_row" = true)
    (k__check_sign_row : PySem.W.keepIn K (.ref f__check_sign_row) = true)
    (a_check_signs : PySem.W.nsIn K mainGlobals "check_signs" = some (some (.ref f_check_signs)))
    (l_check_signs : K.lookup f_check_signs = some ⟨oc_check_signs, od_check_signs, .func (PySem.W.fnOf "check_signs" "check_signs" (defArgs s_check_signs) (defBody s_check_signs) (defScope s_check_signs) .none kV_check_signs dc_check_signs pm_check_signs an_check_signs cd_check_signs ct_check_signs), sl_check_signs⟩)
    (c_check_signs : PySem.W.codeIn K cd_check_signs "check_signs" = true)
    (k_check_signs : PySem.W.keepIn K (.ref f_check_signs) = true)
    (a__running_sums : PySem.W.nsIn K mainGlobals "_running_sums" = some (some (.ref f__running_sums)))
    (l__running_sums : K.lookup f__running_sums = some ⟨oc__running_sums, od__running_sums, .func (PySem.W.fnOf "_running_sums" "_running_sums" (defArgs s__running_sums) (defBody s__running_sums) (defScope s__running_sums) .none kV__running_sums dc__running_sums pm__running_sums an__running_sums cd__running_sums ct__running_sums), sl__running_sums⟩)
    (c__running_sums : PySem.W.codeIn K cd__running_sums "_running_sums" = true)
    (k__running_sums : PySem.W.keepIn K (.ref f__running_sums) = true)
    (a_sum_rows : PySem.W.nsIn K mainGlobals "sum_rows" = some (some (.ref f_sum_rows)))
    (l_sum_rows : K.lookup f_sum_rows = some ⟨oc_sum_rows, od_sum_rows, .func (PySem.W.fnOf "sum_rows" "sum_rows" (defArgs s_sum_rows) (defBody s_sum_rows) (defScope s_sum_rows) .none kV_sum_rows dc_sum_rows pm_sum_rows an_sum_rows cd_sum_rows ct_sum_rows), sl_sum_rows⟩)
    (c_sum_rows : PySem.W.codeIn K cd_sum_rows "sum_rows" = true)
    (k_sum_rows : PySem.W.keepIn K (.ref f_sum_rows) = true)
    (a__law_rows : PySem.W.nsIn K mainGlobals "_law_rows" = some (some (.ref f__law_rows)))
    (l__law_rows : K.lookup f__law_rows = some ⟨oc__law_rows, od__law_rows, .func (PySem.W.fnOf "_law_rows" "_law_rows" (defArgs s__law_rows) (defBody s__law_rows) (defScope s__law_rows) .none kV__law_rows dc__law_rows pm__law_rows an__law_rows cd__law_rows ct__law_rows), sl__law_rows⟩)
    (c__law_rows : PySem.W.codeIn K cd__law_rows "_law_rows" = true)
    (k__law_rows : PySem.W.keepIn K (.ref f__law_rows) = true)
    (a_binomial_sums : PySem.W.nsIn K mainGlobals "binomial_sums" = some (some (.ref f_binomial_sums)))
    (l_binomial_sums : K.lookup f_binomial_sums = some ⟨oc_binomial_sums, od_binomial_sums, .func (PySem.W.fnOf "binomial_sums" "binomial_sums" (defArgs s_binomial_sums) (defBody s_binomial_sums) (defScope s_binomial_sums) .none kV_binomial_sums dc_binomial_sums pm_binomial_sums an_binomial_sums cd_binomial_sums ct_binomial_sums), sl_binomial_sums⟩)
    (c_binomial_sums : PySem.W.codeIn K cd_binomial_sums "binomial_sums" = true)
    (k_binomial_sums : PySem.W.keepIn K (.ref f_binomial_sums) = true)
    (a_binomial_noises : PySem.W.nsIn K mainGlobals "binomial_noises" = some (some (.ref f_binomial_noises)))
    (l_binomial_noises : K.lookup f_binomial_noises = some ⟨oc_binomial_noises, od_binomial_noises, .func (PySem.W.fnOf "binomial_noises" "binomial_noises" (defArgs s_binomial_noises) (defBody s_binomial_noises) (defScope s_binomial_noises) .none kV_binomial_noises dc_binomial_noises pm_binomial_noises an_binomial_noises cd_binomial_noises ct_binomial_noises), sl_binomial_noises⟩)
    (c_binomial_noises : PySem.W.codeIn K cd_binomial_noises "binomial_noises" = true)
    (k_binomial_noises : PySem.W.keepIn K (.ref f_binomial_noises) = true)
    (a__law_gcd : PySem.W.nsIn K mainGlobals "_law_gcd" = some (some (.ref f__law_gcd)))
    (l__law_gcd : K.lookup f__law_gcd = some ⟨oc__law_gcd, od__law_gcd, .func (PySem.W.fnOf "_law_gcd" "_law_gcd" (defArgs s__law_gcd) (defBody s__law_gcd) (defScope s__law_gcd) .none kV__law_gcd dc__law_gcd pm__law_gcd an__law_gcd cd__law_gcd ct__law_gcd), sl__law_gcd⟩)
    (c__law_gcd : PySem.W.codeIn K cd__law_gcd "_law_gcd" = true)
    (k__law_gcd : PySem.W.keepIn K (.ref f__law_gcd) = true)
    (a__law_ratio : PySem.W.nsIn K mainGlobals "_law_ratio" = some (some (.ref f__law_ratio)))
    (l__law_ratio : K.lookup f__law_ratio = some ⟨oc__law_ratio, od__law_ratio, .func (PySem.W.fnOf "_law_ratio" "_law_ratio" (defArgs s__law_ratio) (defBody s__law_ratio) (defScope s__law_ratio) .none kV__law_ratio dc__law_ratio pm__law_ratio an__law_ratio cd__law_ratio ct__law_ratio), sl__law_ratio⟩)
    (c__law_ratio : PySem.W.codeIn K cd__law_ratio "_law_ratio" = true)
    (k__law_ratio : PySem.W.keepIn K (.ref f__law_ratio) = true)
    (a__law_plus : PySem.W.nsIn K mainGlobals "_law_plus" = some (some (.ref f__law_plus)))
    (l__law_plus : K.lookup f__law_plus = some ⟨oc__law_plus, od__law_plus, .func (PySem.W.fnOf "_law_plus" "_law_plus" (defArgs s__law_plus) (defBody s__law_plus) (defScope s__law_plus) .none kV__law_plus dc__law_plus pm__law_plus an__law_plus cd__law_plus ct__law_plus), sl__law_plus⟩)
    (c__law_plus : PySem.W.codeIn K cd__law_plus "_law_plus" = true)
    (k__law_plus : PySem.W.keepIn K (.ref f__law_plus) = true)
    (a__law_times : PySem.W.nsIn K mainGlobals "_law_times" = some (some (.ref f__law_times)))
    (l__law_times : K.lookup f__law_times = some ⟨oc__law_times, od__law_times, .func (PySem.W.fnOf "_law_times" "_law_times" (defArgs s__law_times) (defBody s__law_times) (defScope s__law_times) .none kV__law_times dc__law_times pm__law_times an__law_times cd__law_times ct__law_times), sl__law_times⟩)
    (c__law_times : PySem.W.codeIn K cd__law_times "_law_times" = true)
    (k__law_times : PySem.W.keepIn K (.ref f__law_times) = true)
    (a__law_noise : PySem.W.nsIn K mainGlobals "_law_noise" = some (some (.ref f__law_noise)))
    (l__law_noise : K.lookup f__law_noise = some ⟨oc__law_noise, od__law_noise, .func (PySem.W.fnOf "_law_noise" "_law_noise" (defArgs s__law_noise) (defBody s__law_noise) (defScope s__law_noise) .none kV__law_noise dc__law_noise pm__law_noise an__law_noise cd__law_noise ct__law_noise), sl__law_noise⟩)
    (c__law_noise : PySem.W.codeIn K cd__law_noise "_law_noise" = true)
    (k__law_noise : PySem.W.keepIn K (.ref f__law_noise) = true)
    (a__law_power : PySem.W.nsIn K mainGlobals "_law_power" = some (some (.ref f__law_power)))
    (l__law_power : K.lookup f__law_power = some ⟨oc__law_power, od__law_power, .func (PySem.W.fnOf "_law_power" "_law_power" (defArgs s__law_power) (defBody s__law_power) (defScope s__law_power) .none kV__law_power dc__law_power pm__law_power an__law_power cd__law_power ct__law_power), sl__law_power⟩)
    (c__law_power : PySem.W.codeIn K cd__law_power "_law_power" = true)
    (k__law_power : PySem.W.keepIn K (.ref f__law_power) = true)
    (a__law_mark_hum : PySem.W.nsIn K mainGlobals "_law_mark_hum" = some (some (.ref f__law_mark_hum)))
    (l__law_mark_hum : K.lookup f__law_mark_hum = some ⟨oc__law_mark_hum, od__law_mark_hum, .func (PySem.W.fnOf "_law_mark_hum" "_law_mark_hum" (defArgs s__law_mark_hum) (defBody s__law_mark_hum) (defScope s__law_mark_hum) .none kV__law_mark_hum dc__law_mark_hum pm__law_mark_hum an__law_mark_hum cd__law_mark_hum ct__law_mark_hum), sl__law_mark_hum⟩)
    (c__law_mark_hum : PySem.W.codeIn K cd__law_mark_hum "_law_mark_hum" = true)
    (k__law_mark_hum : PySem.W.keepIn K (.ref f__law_mark_hum) = true)
    (a__law_order : PySem.W.nsIn K mainGlobals "_law_order" = some (some (.ref f__law_order)))
    (l__law_order : K.lookup f__law_order = some ⟨oc__law_order, od__law_order, .func (PySem.W.fnOf "_law_order" "_law_order" (defArgs s__law_order) (defBody s__law_order) (defScope s__law_order) .none kV__law_order dc__law_order pm__law_order an__law_order cd__law_order ct__law_order), sl__law_order⟩)
    (c__law_order : PySem.W.codeIn K cd__law_order "_law_order" = true)
    (k__law_order : PySem.W.keepIn K (.ref f__law_order) = true)
    (a__law_line_order : PySem.W.nsIn K mainGlobals "_law_line_order" = some (some (.ref f__law_line_order)))
    (l__law_line_order : K.lookup f__law_line_order = some ⟨oc__law_line_order, od__law_line_order, .func (PySem.W.fnOf "_law_line_order" "_law_line_order" (defArgs s__law_line_order) (defBody s__law_line_order) (defScope s__law_line_order) .none kV__law_line_order dc__law_line_order pm__law_line_order an__law_line_order cd__law_line_order ct__law_line_order), sl__law_line_order⟩)
    (c__law_line_order : PySem.W.codeIn K cd__law_line_order "_law_line_order" = true)
    (k__law_line_order : PySem.W.keepIn K (.ref f__law_line_order) = true)
    (a__law_is_ratio : PySem.W.nsIn K mainGlobals "_law_is_ratio" = some (some (.ref f__law_is_ratio)))
    (l__law_is_ratio : K.lookup f__law_is_ratio = some ⟨oc__law_is_ratio, od__law_is_ratio, .func (PySem.W.fnOf "_law_is_ratio" "_law_is_ratio" (defArgs s__law_is_ratio) (defBody s__law_is_ratio) (defScope s__law_is_ratio) .none kV__law_is_ratio dc__law_is_ratio pm__law_is_ratio an__law_is_ratio cd__law_is_ratio ct__law_is_ratio), sl__law_is_ratio⟩)
    (c__law_is_ratio : PySem.W.codeIn K cd__law_is_ratio "_law_is_ratio" = true)
    (k__law_is_ratio : PySem.W.keepIn K (.ref f__law_is_ratio) = true)
    (a__law_is_row : PySem.W.nsIn K mainGlobals "_law_is_row" = some (some (.ref f__law_is_row)))
    (l__law_is_row : K.lookup f__law_is_row = some ⟨oc__law_is_row, od__law_is_row, .func (PySem.W.fnOf "_law_is_row" "_law_is_row" (defArgs s__law_is_row) (defBody s__law_is_row) (defScope s__law_is_row) .none kV__law_is_row dc__law_is_row pm__law_is_row an__law_is_row cd__law_is_row ct__law_is_row), sl__law_is_row⟩)
    (c__law_is_row : PySem.W.codeIn K cd__law_is_row "_law_is_row" = true)
    (k__law_is_row : PySem.W.keepIn K (.ref f__law_is_row) = true)
    (a__law_even : PySem.W.nsIn K mainGlobals "_law_even" = some (some (.ref f__law_even)))
    (l__law_even : K.lookup f__law_even = some ⟨oc__law_even, od__law_even, .func (PySem.W.fnOf "_law_even" "_law_even" (defArgs s__law_even) (defBody s__law_even) (defScope s__law_even) .none kV__law_even dc__law_even pm__law_even an__law_even cd__law_even ct__law_even), sl__law_even⟩)
    (c__law_even : PySem.W.codeIn K cd__law_even "_law_even" = true)
    (k__law_even : PySem.W.keepIn K (.ref f__law_even) = true)
    (a__law_is_whole : PySem.W.nsIn K mainGlobals "_law_is_whole" = some (some (.ref f__law_is_whole)))
    (l__law_is_whole : K.lookup f__law_is_whole = some ⟨oc__law_is_whole, od__law_is_whole, .func (PySem.W.fnOf "_law_is_whole" "_law_is_whole" (defArgs s__law_is_whole) (defBody s__law_is_whole) (defScope s__law_is_whole) .none kV__law_is_whole dc__law_is_whole pm__law_is_whole an__law_is_whole cd__law_is_whole ct__law_is_whole), sl__law_is_whole⟩)
    (c__law_is_whole : PySem.W.codeIn K cd__law_is_whole "_law_is_whole" = true)
    (k__law_is_whole : PySem.W.keepIn K (.ref f__law_is_whole) = true)
    (a__law_all_whole : PySem.W.nsIn K mainGlobals "_law_all_whole" = some (some (.ref f__law_all_whole)))
    (l__law_all_whole : K.lookup f__law_all_whole = some ⟨oc__law_all_whole, od__law_all_whole, .func (PySem.W.fnOf "_law_all_whole" "_law_all_whole" (defArgs s__law_all_whole) (defBody s__law_all_whole) (defScope s__law_all_whole) .none kV__law_all_whole dc__law_all_whole pm__law_all_whole an__law_all_whole cd__law_all_whole ct__law_all_whole), sl__law_all_whole⟩)
    (c__law_all_whole : PySem.W.codeIn K cd__law_all_whole "_law_all_whole" = true)
    (k__law_all_whole : PySem.W.keepIn K (.ref f__law_all_whole) = true)
    (a__law_chosen : PySem.W.nsIn K mainGlobals "_law_chosen" = some (some (.ref f__law_chosen)))
    (l__law_chosen : K.lookup f__law_chosen = some ⟨oc__law_chosen, od__law_chosen, .func (PySem.W.fnOf "_law_chosen" "_law_chosen" (defArgs s__law_chosen) (defBody s__law_chosen) (defScope s__law_chosen) .none kV__law_chosen dc__law_chosen pm__law_chosen an__law_chosen cd__law_chosen ct__law_chosen), sl__law_chosen⟩)
    (c__law_chosen : PySem.W.codeIn K cd__law_chosen "_law_chosen" = true)
    (k__law_chosen : PySem.W.keepIn K (.ref f__law_chosen) = true)
    (a__law_binomials : PySem.W.nsIn K mainGlobals "_law_binomials" = some (some (.ref f__law_binomials)))
    (l__law_binomials : K.lookup f__law_binomials = some ⟨oc__law_binomials, od__law_binomials, .func (PySem.W.fnOf "_law_binomials" "_law_binomials" (defArgs s__law_binomials) (defBody s__law_binomials) (defScope s__law_binomials) .none kV__law_binomials dc__law_binomials pm__law_binomials an__law_binomials cd__law_binomials ct__law_binomials), sl__law_binomials⟩)
    (c__law_binomials : PySem.W.codeIn K cd__law_binomials "_law_binomials" = true)
    (k__law_binomials : PySem.W.keepIn K (.ref f__law_binomials) = true)
    (a__law_right : PySem.W.nsIn K mainGlobals "_law_right" = some (some (.ref f__law_right)))
    (l__law_right : K.lookup f__law_right = some ⟨oc__law_right, od__law_right, .func (PySem.W.fnOf "_law_right" "_law_right" (defArgs s__law_right) (defBody s__law_right) (defScope s__law_right) .none kV__law_right dc__law_right pm__law_right an__law_right cd__law_right ct__law_right), sl__law_right⟩)
    (c__law_right : PySem.W.codeIn K cd__law_right "_law_right" = true)
    (k__law_right : PySem.W.keepIn K (.ref f__law_right) = true)
    (a__law_refused : PySem.W.nsIn K mainGlobals "_law_refused" = some (some (.ref f__law_refused)))
    (l__law_refused : K.lookup f__law_refused = some ⟨oc__law_refused, od__law_refused, .func (PySem.W.fnOf "_law_refused" "_law_refused" (defArgs s__law_refused) (defBody s__law_refused) (defScope s__law_refused) .none kV__law_refused dc__law_refused pm__law_refused an__law_refused cd__law_refused ct__law_refused), sl__law_refused⟩)
    (c__law_refused : PySem.W.codeIn K cd__law_refused "_law_refused" = true)
    (k__law_refused : PySem.W.keepIn K (.ref f__law_refused) = true)
    (a__law_rows_refused : PySem.W.nsIn K mainGlobals "_law_rows_refused" = some (some (.ref f__law_rows_refused)))
    (l__law_rows_refused : K.lookup f__law_rows_refused = some ⟨oc__law_rows_refused, od__law_rows_refused, .func (PySem.W.fnOf "_law_rows_refused" "_law_rows_refused" (defArgs s__law_rows_refused) (defBody s__law_rows_refused) (defScope s__law_rows_refused) .none kV__law_rows_refused dc__law_rows_refused pm__law_rows_refused an__law_rows_refused cd__law_rows_refused ct__law_rows_refused), sl__law_rows_refused⟩)
    (c__law_rows_refused : PySem.W.codeIn K cd__law_rows_refused "_law_rows_refused" = true)
    (k__law_rows_refused : PySem.W.keepIn K (.ref f__law_rows_refused) = true)
    (a_law : PySem.W.nsIn K mainGlobals "law" = some (some (.ref f_law)))
    (l_law : K.lookup f_law = some ⟨oc_law, od_law, .func (PySem.W.fnOf "law" "law" (defArgs s_law) (defBody s_law) (defScope s_law) .none kV_law dc_law pm_law an_law cd_law ct_law), sl_law⟩)
    (c_law : PySem.W.codeIn K cd_law "law" = true)
    (k_law : PySem.W.keepIn K (.ref f_law) = true)
    (aC_BadCount : PySem.W.nsIn K mainGlobals "BadCount" = some (some (.ref C_BadCount)))
    (kC_BadCount : PySem.W.keepIn K (.ref C_BadCount) = true)
    (ve_BadCount : PySem.W.excIn K C_BadCount [.type "ValueError", .type "Exception", .type "BaseException", .type "object"] "ValueError.__new__" = true)
    (ex_BadCount : PySem.W.subIn K (.ref C_BadCount) (.type "BaseException") = some true)
    (ty_BadCount : PySem.W.typeIn K (.ref C_BadCount) = some (.type "type"))
    (bf_comb : PySem.W.nsIn K mainGlobals "comb" = some (some (.builtin "math.comb")))
    (aC_BadWord : PySem.W.nsIn K mainGlobals "BadWord" = some (some (.ref C_BadWord)))
    (xL_BadWord : K.lookup C_BadWord = some (excClassObj nm_BadWord q_BadWord C_BadWord N_BadWord bs_BadWord bm_BadWord true sn_BadWord sub_BadWord ab_BadWord col_BadWord dd_BadWord m0_BadWord m1_BadWord m2_BadWord m3_BadWord m5_BadWord "ValueError.__new__"))
    (ve_BadWord : PySem.HandSPX.refsVE bm_BadWord = true)
    (sa_BadWord : PySem.W.findIn K (.ref C_BadWord) "__setattr__" = some (some (.builtin "object.__setattr__")))
    (ga_BadWord : PySem.W.findIn K (.ref C_BadWord) "__getattribute__" = some (some (.builtin "BaseException.__getattribute__")))
    (gg_BadWord : PySem.W.findIn K (.ref C_BadWord) "__getattr__" = some none)
    (ex_BadWord : PySem.W.subIn K (.ref C_BadWord) (.type "BaseException") = some true)
    (ty_BadWord : PySem.W.typeIn K (.ref C_BadWord) = some (.type "type"))
    (kC_BadWord : PySem.W.keepIn K (.ref C_BadWord) = true)
    (hd_BadWord : PySem.W.hasDictIn K C_BadWord = true)
    (no_BadWord_index : PySem.W.findIn K (.ref C_BadWord) "index" = some none)
    (no_BadWord_what : PySem.W.findIn K (.ref C_BadWord) "what" = some none)
    (ai_BadWord : PySem.W.findIn K (.ref C_BadWord) "__init__" = some (some (.ref i_BadWord)))
    (ti_BadWord : PySem.W.typeIn K (.ref i_BadWord) = some (.type "function"))
    (li_BadWord : K.lookup i_BadWord = some ⟨oci_BadWord, odi_BadWord, .func (PySem.W.fnOf "__init__" "BadWord.__init__" (defArgs si_BadWord) (defBody si_BadWord) (defScope si_BadWord) .none kVi_BadWord dci_BadWord pmi_BadWord ani_BadWord cdi_BadWord cti_BadWord), sli_BadWord⟩)
    (ci_BadWord : PySem.W.codeIn K cdi_BadWord "BadWord.__init__" = true)
    (ki_BadWord : PySem.W.keepIn K (.ref i_BadWord) = true)
    (te_BadCount_BadCount : PySem.W.subIn K (.ref C_BadCount) (.ref C_BadCount) = some true)
    (te_BadWord_BadCount : PySem.W.subIn K (.ref C_BadWord) (.ref C_BadCount) = some false)
    (ic_BadCount : PySem.W.isClsIn K C_BadCount = true)
    (te_BadCount_BadWord : PySem.W.subIn K (.ref C_BadCount) (.ref C_BadWord) = some false)
    (te_BadWord_BadWord : PySem.W.subIn K (.ref C_BadWord) (.ref C_BadWord) = some true)
    (ic_BadWord : PySem.W.isClsIn K C_BadWord = true)
    (z_abs : PySem.W.nsIn K mainGlobals "abs" = some none)
    (z_bool : PySem.W.nsIn K mainGlobals "bool" = some none)
    (z_enumerate : PySem.W.nsIn K mainGlobals "enumerate" = some none)
    (z_int : PySem.W.nsIn K mainGlobals "int" = some none)
    (z_isinstance : PySem.W.nsIn K mainGlobals "isinstance" = some none)
    (z_len : PySem.W.nsIn K mainGlobals "len" = some none)
    (z_list : PySem.W.nsIn K mainGlobals "list" = some none)
    (z_range : PySem.W.nsIn K mainGlobals "range" = some none)
    (z_sum : PySem.W.nsIn K mainGlobals "sum" = some none)
    (z_tuple : PySem.W.nsIn K mainGlobals "tuple" = some none)
    (w_MOST_SECTIONS : PySem.W.nsIn K mainGlobals "MOST_SECTIONS" = some (some (.int 24 t_MOST_SECTIONS)))
    (hm : ∀ ns : List Int, ns.length ≤ 63 → (∀ z ∈ ns, Builtin.Int.intBits z ≤ 1048576) → m_law [.dat (.slst (ns.map D.int))] = .ok (.bl true) none) :
    ∃ fd : FuncData, (∀ (s : Shared) (v : Value), BindsTo s fd ⟨[v], []⟩ [("_law_script", v)]) ∧ ∀ base : Heap, K.In base → base.Ns mainGlobals mg → DL.FnOk l.prog w K mg base (L2.CX l.prog w) 8 fa fd ["_law_script"] (spLaw K) := by
  have e := hfa.symm.trans (PySem.W.mg_of X G a_law)
  cases e
  have F0__law_hand := fun_mk (st := s__law_hand) l__law_hand c__law_hand k__law_hand
  have b0__law_hand := F0__law_hand.binds (ps := P__law_hand) fun _ _ _ _ _ _ us hl => match us, hl with | [_], _ => rfl
  obtain ⟨fd__law_hand, F__law_hand, b__law_hand_1⟩ : ∃ fd, L2.Fun K "_law_hand" "_law_hand" s__law_hand f__law_hand fd ∧ Binds K fd P__law_hand [] := ⟨_, F0__law_hand, b0__law_hand⟩
  have F0__law_mixed := fun_mk (st := s__law_mixed) l__law_mixed c__law_mixed k__law_mixed
  have b0__law_mixed := F0__law_mixed.binds (ps := P__law_mixed) fun _ _ _ _ _ _ us hl => match us, hl with | [_, _], _ => rfl
  obtain ⟨fd__law_mixed, F__law_mixed, b__law_mixed_2⟩ : ∃ fd, L2.Fun K "_law_mixed" "_law_mixed" s__law_mixed f__law_mixed fd ∧ Binds K fd P__law_mixed [] := ⟨_, F0__law_mixed, b0__law_mixed⟩
  have F0__law_take := fun_mk (st := s__law_take) l__law_take c__law_take k__law_take
  have b0__law_take := F0__law_take.binds (ps := P__law_take) fun _ _ _ _ _ _ us hl => match us, hl with | [_, _], _ => rfl
  obtain ⟨fd__law_take, F__law_take, b__law_take_2⟩ : ∃ fd, L2.Fun K "_law_take" "_law_take" s__law_take f__law_take fd ∧ Binds K fd P__law_take [] := ⟨_, F0__law_take, b0__law_take⟩
  have F0__law_odd_word := fun_mk (st := s__law_odd_word) l__law_odd_word c__law_odd_word k__law_odd_word
  have b0__law_odd_word := F0__law_odd_word.binds (ps := P__law_odd_word) fun _ _ _ _ _ _ us hl => match us, hl with | [_, _], _ => rfl
  obtain ⟨fd__law_odd_word, F__law_odd_word, b__law_odd_word_2⟩ : ∃ fd, L2.Fun K "_law_odd_word" "_law_odd_word" s__law_odd_word f__law_odd_word fd ∧ Binds K fd P__law_odd_word [] := ⟨_, F0__law_odd_word, b0__law_odd_word⟩
  have F0__law_word := fun_mk (st := s__law_word) l__law_word c__law_word k__law_word
  have b0__law_word := F0__law_word.binds (ps := P__law_word) fun _ _ _ _ _ _ us hl => match us, hl with | [_, _], _ => rfl
  obtain ⟨fd__law_word, F__law_word, b__law_word_2⟩ : ∃ fd, L2.Fun K "_law_word" "_law_word" s__law_word f__law_word fd ∧ Binds K fd P__law_word [] := ⟨_, F0__law_word, b0__law_word⟩
  have F0__law_built := fun_mk (st := s__law_built) l__law_built c__law_built k__law_built
  have b0__law_built := F0__law_built.binds (ps := P__law_built) fun _ _ _ _ _ _ us hl => match us, hl with | [_, _], _ => rfl
  obtain ⟨fd__law_built, F__law_built, b__law_built_2⟩ : ∃ fd, L2.Fun K "_law_built" "_law_built" s__law_built f__law_built fd ∧ Binds K fd P__law_built [] := ⟨_, F0__law_built, b0__law_built⟩
  have F0__law_count := fun_mk (st := s__law_count) l__law_count c__law_count k__law_count
  have b0__law_count := F0__law_count.binds (ps := P__law_count) fun _ _ _ _ _ _ us hl => match us, hl with | [_], _ => rfl
  obtain ⟨fd__law_count, F__law_count, b__law_count_1⟩ : ∃ fd, L2.Fun K "_law_count" "_law_count" s__law_count f__law_count fd ∧ Binds K fd P__law_count [] := ⟨_, F0__law_count, b0__law_count⟩
  have F0__check_first := fun_mk (st := s__check_first) l__check_first c__check_first k__check_first
  have b0__check_first := F0__check_first.binds (ps := P__check_first) fun _ _ _ _ _ _ us hl => match us, hl with | [_], _ => rfl
  obtain ⟨fd__check_first, F__check_first, b__check_first_1⟩ : ∃ fd, L2.Fun K "_check_first" "_check_first" s__check_first f__check_first fd ∧ Binds K fd P__check_first [] := ⟨_, F0__check_first, b0__check_first⟩
  have F0_is_row := fun_mk (st := s_is_row) l_is_row c_is_row k_is_row
  have b0_is_row := F0_is_row.binds (ps := P_is_row) fun _ _ _ _ _ _ us hl => match us, hl with | [_, _, _], _ => rfl
  obtain ⟨fd_is_row, F_is_row, b_is_row_3⟩ : ∃ fd, L2.Fun K "is_row" "is_row" s_is_row f_is_row fd ∧ Binds K fd P_is_row [] := ⟨_, F0_is_row, b0_is_row⟩
  obtain ⟨fd_is_whole, F_is_whole⟩ : ∃ fd, L2.FunD K "is_whole" "is_whole" (defArgs s_is_whole) (defBody s_is_whole) (defScope s_is_whole) [.non, .non] [] f_is_whole fd := ⟨_, ⟨_, _, _, _, _, _, _, _, _, _, rfl, l_is_whole, c_is_whole, dfl_mk t_is_whole (.cons rfl (.cons rfl .nil)) (by simp), .inl rfl⟩, k_is_whole⟩
  have b_is_whole_3 : Binds K fd_is_whole P_is_whole [] := by
    obtain ⟨ds, v, b⟩ := F_is_whole.binds1 (ps := P_is_whole) 3 2 (by simp) (by decide) fun _ _ _ _ _ _ _ us its hl h2 => match us, hl, its, h2 with | [_, _, _], _, [_, _], _ => ⟨_, rfl, rfl⟩
    cases v
    exact b
  have F0__check_sign_row := fun_mk (st := s__check_sign_row) l__check_sign_row c__check_sign_row k__check_sign_row
  have b0__check_sign_row := F0__check_sign_row.binds (ps := P__check_sign_row) fun _ _ _ _ _ _ us hl => match us, hl with | [_, _, _], _ => rfl
  obtain ⟨fd__check_sign_row, F__check_sign_row, b__check_sign_row_3⟩ : ∃ fd, L2.Fun K "_check_sign_row" "_check_sign_row" s__check_sign_row f__check_sign_row fd ∧ Binds K fd P__check_sign_row [] := ⟨_, F0__check_sign_row, b0__check_sign_row⟩
  have F0_check_signs := fun_mk (st := s_check_signs) l_check_signs c_check_signs k_check_signs
  have b0_check_signs := F0_check_signs.binds (ps := P_check_signs) fun _ _ _ _ _ _ us hl => match us, hl with | [_], _ => rfl
  obtain ⟨fd_check_signs, F_check_signs, b_check_signs_1⟩ : ∃ fd, L2.Fun K "check_signs" "check_signs" s_check_signs f_check_signs fd ∧ Binds K fd P_check_signs [] := ⟨_, F0_check_signs, b0_check_signs⟩
  have F0__running_sums := fun_mk (st := s__running_sums) l__running_sums c__running_sums k__running_sums
  have b0__running_sums := F0__running_sums.binds (ps := P__running_sums) fun _ _ _ _ _ _ us hl => match us, hl with | [_], _ => rfl
  obtain ⟨fd__running_sums, F__running_sums, b__running_sums_1⟩ : ∃ fd, L2.Fun K "_running_sums" "_running_sums" s__running_sums f__running_sums fd ∧ Binds K fd P__running_sums [] := ⟨_, F0__running_sums, b0__running_sums⟩
  have F0_sum_rows := fun_mk (st := s_sum_rows) l_sum_rows c_sum_rows k_sum_rows
  have b0_sum_rows := F0_sum_rows.binds (ps := P_sum_rows) fun _ _ _ _ _ _ us hl => match us, hl with | [_], _ => rfl
  obtain ⟨fd_sum_rows, F_sum_rows, b_sum_rows_1⟩ : ∃ fd, L2.Fun K "sum_rows" "sum_rows" s_sum_rows f_sum_rows fd ∧ Binds K fd P_sum_rows [] := ⟨_, F0_sum_rows, b0_sum_rows⟩
  have F0__law_rows := fun_mk (st := s__law_rows) l__law_rows c__law_rows k__law_rows
  have b0__law_rows := F0__law_rows.binds (ps := P__law_rows) fun _ _ _ _ _ _ us hl => match us, hl with | [_], _ => rfl
  obtain ⟨fd__law_rows, F__law_rows, b__law_rows_1⟩ : ∃ fd, L2.Fun K "_law_rows" "_law_rows" s__law_rows f__law_rows fd ∧ Binds K fd P__law_rows [] := ⟨_, F0__law_rows, b0__law_rows⟩
  have F0_binomial_sums := fun_mk (st := s_binomial_sums) l_binomial_sums c_binomial_sums k_binomial_sums
  have b0_binomial_sums := F0_binomial_sums.binds (ps := P_binomial_sums) fun _ _ _ _ _ _ us hl => match us, hl with | [_, _, _], _ => rfl
  obtain ⟨fd_binomial_sums, F_binomial_sums, b_binomial_sums_3⟩ : ∃ fd, L2.Fun K "binomial_sums" "binomial_sums" s_binomial_sums f_binomial_sums fd ∧ Binds K fd P_binomial_sums [] := ⟨_, F0_binomial_sums, b0_binomial_sums⟩
  have F0_binomial_noises := fun_mk (st := s_binomial_noises) l_binomial_noises c_binomial_noises k_binomial_noises
  have b0_binomial_noises := F0_binomial_noises.binds (ps := P_binomial_noises) fun _ _ _ _ _ _ us hl => match us, hl with | [_, _], _ => rfl
  obtain ⟨fd_binomial_noises, F_binomial_noises, b_binomial_noises_2⟩ : ∃ fd, L2.Fun K "binomial_noises" "binomial_noises" s_binomial_noises f_binomial_noises fd ∧ Binds K fd P_binomial_noises [] := ⟨_, F0_binomial_noises, b0_binomial_noises⟩
  have F0__law_gcd := fun_mk (st := s__law_gcd) l__law_gcd c__law_gcd k__law_gcd
  have b0__law_gcd := F0__law_gcd.binds (ps := P__law_gcd) fun _ _ _ _ _ _ us hl => match us, hl with | [_, _], _ => rfl
  obtain ⟨fd__law_gcd, F__law_gcd, b__law_gcd_2⟩ : ∃ fd, L2.Fun K "_law_gcd" "_law_gcd" s__law_gcd f__law_gcd fd ∧ Binds K fd P__law_gcd [] := ⟨_, F0__law_gcd, b0__law_gcd⟩
  have F0__law_ratio := fun_mk (st := s__law_ratio) l__law_ratio c__law_ratio k__law_ratio
  have b0__law_ratio := F0__law_ratio.binds (ps := P__law_ratio) fun _ _ _ _ _ _ us hl => match us, hl with | [_, _], _ => rfl
  obtain ⟨fd__law_ratio, F__law_ratio, b__law_ratio_2⟩ : ∃ fd, L2.Fun K "_law_ratio" "_law_ratio" s__law_ratio f__law_ratio fd ∧ Binds K fd P__law_ratio [] := ⟨_, F0__law_ratio, b0__law_ratio⟩
  have F0__law_plus := fun_mk (st := s__law_plus) l__law_plus c__law_plus k__law_plus
  have b0__law_plus := F0__law_plus.binds (ps := P__law_plus) fun _ _ _ _ _ _ us hl => match us, hl with | [_, _], _ => rfl
  obtain ⟨fd__law_plus, F__law_plus, b__law_plus_2⟩ : ∃ fd, L2.Fun K "_law_plus" "_law_plus" s__law_plus f__law_plus fd ∧ Binds K fd P__law_plus [] := ⟨_, F0__law_plus, b0__law_plus⟩
  have F0__law_times := fun_mk (st := s__law_times) l__law_times c__law_times k__law_times
  have b0__law_times := F0__law_times.binds (ps := P__law_times) fun _ _ _ _ _ _ us hl => match us, hl with | [_, _], _ => rfl
  obtain ⟨fd__law_times, F__law_times, b__law_times_2⟩ : ∃ fd, L2.Fun K "_law_times" "_law_times" s__law_times f__law_times fd ∧ Binds K fd P__law_times [] := ⟨_, F0__law_times, b0__law_times⟩
  have F0__law_noise := fun_mk (st := s__law_noise) l__law_noise c__law_noise k__law_noise
  have b0__law_noise := F0__law_noise.binds (ps := P__law_noise) fun _ _ _ _ _ _ us hl => match us, hl with | [_, _, _], _ => rfl
  obtain ⟨fd__law_noise, F__law_noise, b__law_noise_3⟩ : ∃ fd, L2.Fun K "_law_noise" "_law_noise" s__law_noise f__law_noise fd ∧ Binds K fd P__law_noise [] := ⟨_, F0__law_noise, b0__law_noise⟩
  have F0__law_power := fun_mk (st := s__law_power) l__law_power c__law_power k__law_power
  have b0__law_power := F0__law_power.binds (ps := P__law_power) fun _ _ _ _ _ _ us hl => match us, hl with | [_, _], _ => rfl
  obtain ⟨fd__law_power, F__law_power, b__law_power_2⟩ : ∃ fd, L2.Fun K "_law_power" "_law_power" s__law_power f__law_power fd ∧ Binds K fd P__law_power [] := ⟨_, F0__law_power, b0__law_power⟩
  have F0__law_mark_hum := fun_mk (st := s__law_mark_hum) l__law_mark_hum c__law_mark_hum k__law_mark_hum
  have b0__law_mark_hum := F0__law_mark_hum.binds (ps := P__law_mark_hum) fun _ _ _ _ _ _ us hl => match us, hl with | [_, _], _ => rfl
  obtain ⟨fd__law_mark_hum, F__law_mark_hum, b__law_mark_hum_2⟩ : ∃ fd, L2.Fun K "_law_mark_hum" "_law_mark_hum" s__law_mark_hum f__law_mark_hum fd ∧ Binds K fd P__law_mark_hum [] := ⟨_, F0__law_mark_hum, b0__law_mark_hum⟩
  have F0__law_order := fun_mk (st := s__law_order) l__law_order c__law_order k__law_order
  have b0__law_order := F0__law_order.binds (ps := P__law_order) fun _ _ _ _ _ _ us hl => match us, hl with | [_, _, _], _ => rfl
  obtain ⟨fd__law_order, F__law_order, b__law_order_3⟩ : ∃ fd, L2.Fun K "_law_order" "_law_order" s__law_order f__law_order fd ∧ Binds K fd P__law_order [] := ⟨_, F0__law_order, b0__law_order⟩
  have F0__law_line_order := fun_mk (st := s__law_line_order) l__law_line_order c__law_line_order k__law_line_order
  have b0__law_line_order := F0__law_line_order.binds (ps := P__law_line_order) fun _ _ _ _ _ _ us hl => match us, hl with | [_, _], _ => rfl
  obtain ⟨fd__law_line_order, F__law_line_order, b__law_line_order_2⟩ : ∃ fd, L2.Fun K "_law_line_order" "_law_line_order" s__law_line_order f__law_line_order fd ∧ Binds K fd P__law_line_order [] := ⟨_, F0__law_line_order, b0__law_line_order⟩
  have F0__law_is_ratio := fun_mk (st := s__law_is_ratio) l__law_is_ratio c__law_is_ratio k__law_is_ratio
  have b0__law_is_ratio := F0__law_is_ratio.binds (ps := P__law_is_ratio) fun _ _ _ _ _ _ us hl => match us, hl with | [_], _ => rfl
  obtain ⟨fd__law_is_ratio, F__law_is_ratio, b__law_is_ratio_1⟩ : ∃ fd, L2.Fun K "_law_is_ratio" "_law_is_ratio" s__law_is_ratio f__law_is_ratio fd ∧ Binds K fd P__law_is_ratio [] := ⟨_, F0__law_is_ratio, b0__law_is_ratio⟩
  have F0__law_is_row := fun_mk (st := s__law_is_row) l__law_is_row c__law_is_row k__law_is_row
  have b0__law_is_row := F0__law_is_row.binds (ps := P__law_is_row) fun _ _ _ _ _ _ us hl => match us, hl with | [_, _], _ => rfl
  obtain ⟨fd__law_is_row, F__law_is_row, b__law_is_row_2⟩ : ∃ fd, L2.Fun K "_law_is_row" "_law_is_row" s__law_is_row f__law_is_row fd ∧ Binds K fd P__law_is_row [] := ⟨_, F0__law_is_row, b0__law_is_row⟩
  have F0__law_even := fun_mk (st := s__law_even) l__law_even c__law_even k__law_even
  have b0__law_even := F0__law_even.binds (ps := P__law_even) fun _ _ _ _ _ _ us hl => match us, hl with | [_], _ => rfl
  obtain ⟨fd__law_even, F__law_even, b__law_even_1⟩ : ∃ fd, L2.Fun K "_law_even" "_law_even" s__law_even f__law_even fd ∧ Binds K fd P__law_even [] := ⟨_, F0__law_even, b0__law_even⟩
  have F0__law_is_whole := fun_mk (st := s__law_is_whole) l__law_is_whole c__law_is_whole k__law_is_whole
  have b0__law_is_whole := F0__law_is_whole.binds (ps := P__law_is_whole) fun _ _ _ _ _ _ us hl => match us, hl with | [_], _ => rfl
  obtain ⟨fd__law_is_whole, F__law_is_whole, b__law_is_whole_1⟩ : ∃ fd, L2.Fun K "_law_is_whole" "_law_is_whole" s__law_is_whole f__law_is_whole fd ∧ Binds K fd P__law_is_whole [] := ⟨_, F0__law_is_whole, b0__law_is_whole⟩
  have F0__law_all_whole := fun_mk (st := s__law_all_whole) l__law_all_whole c__law_all_whole k__law_all_whole
  have b0__law_all_whole := F0__law_all_whole.binds (ps := P__law_all_whole) fun _ _ _ _ _ _ us hl => match us, hl with | [_], _ => rfl
  obtain ⟨fd__law_all_whole, F__law_all_whole, b__law_all_whole_1⟩ : ∃ fd, L2.Fun K "_law_all_whole" "_law_all_whole" s__law_all_whole f__law_all_whole fd ∧ Binds K fd P__law_all_whole [] := ⟨_, F0__law_all_whole, b0__law_all_whole⟩
  have F0__law_chosen := fun_mk (st := s__law_chosen) l__law_chosen c__law_chosen k__law_chosen
  have b0__law_chosen := F0__law_chosen.binds (ps := P__law_chosen) fun _ _ _ _ _ _ us hl => match us, hl with | [_, _], _ => rfl
  obtain ⟨fd__law_chosen, F__law_chosen, b__law_chosen_2⟩ : ∃ fd, L2.Fun K "_law_chosen" "_law_chosen" s__law_chosen f__law_chosen fd ∧ Binds K fd P__law_chosen [] := ⟨_, F0__law_chosen, b0__law_chosen⟩
  have F0__law_binomials := fun_mk (st := s__law_binomials) l__law_binomials c__law_binomials k__law_binomials
  have b0__law_binomials := F0__law_binomials.binds (ps := P__law_binomials) fun _ _ _ _ _ _ us hl => match us, hl with | [_, _, _], _ => rfl
  obtain ⟨fd__law_binomials, F__law_binomials, b__law_binomials_3⟩ : ∃ fd, L2.Fun K "_law_binomials" "_law_binomials" s__law_binomials f__law_binomials fd ∧ Binds K fd P__law_binomials [] := ⟨_, F0__law_binomials, b0__law_binomials⟩
  have F0__law_right := fun_mk (st := s__law_right) l__law_right c__law_right k__law_right
  have b0__law_right := F0__law_right.binds (ps := P__law_right) fun _ _ _ _ _ _ us hl => match us, hl with | [_, _], _ => rfl
  obtain ⟨fd__law_right, F__law_right, b__law_right_2⟩ : ∃ fd, L2.Fun K "_law_right" "_law_right" s__law_right f__law_right fd ∧ Binds K fd P__law_right [] := ⟨_, F0__law_right, b0__law_right⟩
  have F0__law_refused := fun_mk (st := s__law_refused) l__law_refused c__law_refused k__law_refused
  have b0__law_refused := F0__law_refused.binds (ps := P__law_refused) fun _ _ _ _ _ _ us hl => match us, hl with | [_, _], _ => rfl
  obtain ⟨fd__law_refused, F__law_refused, b__law_refused_2⟩ : ∃ fd, L2.Fun K "_law_refused" "_law_refused" s__law_refused f__law_refused fd ∧ Binds K fd P__law_refused [] := ⟨_, F0__law_refused, b0__law_refused⟩
  have F0__law_rows_refused := fun_mk (st := s__law_rows_refused) l__law_rows_refused c__law_rows_refused k__law_rows_refused
  have b0__law_rows_refused := F0__law_rows_refused.binds (ps := P__law_rows_refused) fun _ _ _ _ _ _ us hl => match us, hl with | [_], _ => rfl
  obtain ⟨fd__law_rows_refused, F__law_rows_refused, b__law_rows_refused_1⟩ : ∃ fd, L2.Fun K "_law_rows_refused" "_law_rows_refused" s__law_rows_refused f__law_rows_refused fd ∧ Binds K fd P__law_rows_refused [] := ⟨_, F0__law_rows_refused, b0__law_rows_refused⟩
  have F0_law := fun_mk (st := s_law) l_law c_law k_law
  have F_law := F0_law
  have Fi0_BadWord := fun_mk (st := si_BadWord) li_BadWord ci_BadWord ki_BadWord
  have bi0_BadWord := Fi0_BadWord.binds (ps := ["self", "index", "what"]) fun _ _ _ _ _ _ us hl => match us, hl with | [_, _, _], _ => rfl
  obtain ⟨fdi_BadWord, Fi_BadWord, bi_BadWord⟩ : ∃ fd, L2.Fun K "__init__" "BadWord.__init__" si_BadWord i_BadWord fd ∧ Binds K fd ["self", "index", "what"] [] := ⟨_, Fi0_BadWord, bi0_BadWord⟩
  have o_BadWord : OexC K C_BadWord := ⟨⟨_, _, _, _, _, _, _, _, _, _, _, _, _, _, _, xL_BadWord, ve_BadWord⟩, sa_BadWord, ex_BadWord, ty_BadWord, kC_BadWord⟩
  have gC_BadWord := PySem.W.mg_of X G aC_BadWord
  have e_BadWord : ErrC K mg "BadWord" C_BadWord i_BadWord ["index", "what"] := ⟨o_BadWord, gC_BadWord, fun f hf => by
    simp only [List.mem_cons, List.not_mem_nil, or_false] at hf
    rcases hf with rfl | rfl
    · exact no_BadWord_index
    · exact no_BadWord_what, ai_BadWord, ti_BadWord, by decide, by decide⟩
  let a : Ad := ⟨f__law_hand, fd__law_hand, f__law_mixed, fd__law_mixed, f__law_take, fd__law_take, f__law_odd_word, fd__law_odd_word, f__law_word, fd__law_word, f__law_built, fd__law_built, f__law_count, fd__law_count, f__check_first, fd__check_first, f_is_row, fd_is_row, f_is_whole, fd_is_whole, f__check_sign_row, fd__check_sign_row, f_check_signs, fd_check_signs, f__running_sums, fd__running_sums, f_sum_rows, fd_sum_rows, f__law_rows, fd__law_rows, f_binomial_sums, fd_binomial_sums, f_binomial_noises, fd_binomial_noises, f__law_gcd, fd__law_gcd, f__law_ratio, fd__law_ratio, f__law_plus, fd__law_plus, f__law_times, fd__law_times, f__law_noise, fd__law_noise, f__law_power, fd__law_power, f__law_mark_hum, fd__law_mark_hum, f__law_order, fd__law_order, f__law_line_order, fd__law_line_order, f__law_is_ratio, fd__law_is_ratio, f__law_is_row, fd__law_is_row, f__law_even, fd__law_even, f__law_is_whole, fd__law_is_whole, f__law_all_whole, fd__law_all_whole, f__law_chosen, fd__law_chosen, f__law_binomials, fd__law_binomials, f__law_right, fd__law_right, f__law_refused, fd__law_refused, f__law_rows_refused, fd__law_rows_refused, fa, (PySem.W.fnOf "law" "law" (defArgs s_law) (defBody s_law) (defScope s_law) .none kV_law dc_law pm_law an_law cd_law ct_law), C_BadWord, i_BadWord, fdi_BadWord, C_BadCount, ()⟩
  have T : Tx K mg a := {
    F__law_hand := F__law_hand
    g__law_hand := PySem.W.mg_of X G a__law_hand
    k__law_hand := k__law_hand
    b__law_hand_1 := b__law_hand_1
    F__law_mixed := F__law_mixed
    g__law_mixed := PySem.W.mg_of X G a__law_mixed
    k__law_mixed := k__law_mixed
    b__law_mixed_2 := b__law_mixed_2
    F__law_take := F__law_take
    g__law_take := PySem.W.mg_of X G a__law_take
    k__law_take := k__law_take
    b__law_take_2 := b__law_take_2
    F__law_odd_word := F__law_odd_word
    g__law_odd_word := PySem.W.mg_of X G a__law_odd_word
    k__law_odd_word := k__law_odd_word
    b__law_odd_word_2 := b__law_odd_word_2
    F__law_word := F__law_word
    g__law_word := PySem.W.mg_of X G a__law_word
    k__law_word := k__law_word
    b__law_word_2 := b__law_word_2
    F__law_built := F__law_built
    g__law_built := PySem.W.mg_of X G a__law_built
    k__law_built := k__law_built
    b__law_built_2 := b__law_built_2
    F__law_count := F__law_count
    g__law_count := PySem.W.mg_of X G a__law_count
    k__law_count := k__law_count
    b__law_count_1 := b__law_count_1
    F__check_first := F__check_first
    g__check_first := PySem.W.mg_of X G a__check_first
    k__check_first := k__check_first
    b__check_first_1 := b__check_first_1
    F_is_row := F_is_row
    g_is_row := PySem.W.mg_of X G a_is_row
    k_is_row := k_is_row
    b_is_row_3 := b_is_row_3
    F_is_whole := F_is_whole
    g_is_whole := PySem.W.mg_of X G a_is_whole
    k_is_whole := k_is_whole
    b_is_whole_3 := b_is_whole_3
    F__check_sign_row := F__check_sign_row
    g__check_sign_row := PySem.W.mg_of X G a__check_sign_row
    k__check_sign_row := k__check_sign_row
    b__check_sign_row_3 := b__check_sign_row_3
    F_check_signs := F_check_signs
    g_check_signs := PySem.W.mg_of X G a_check_signs
    k_check_signs := k_check_signs
    b_check_signs_1 := b_check_signs_1
    F__running_sums := F__running_sums
    g__running_sums := PySem.W.mg_of X G a__running_sums
    k__running_sums := k__running_sums
    b__running_sums_1 := b__running_sums_1
    F_sum_rows := F_sum_rows
    g_sum_rows := PySem.W.mg_of X G a_sum_rows
    k_sum_rows := k_sum_rows
    b_sum_rows_1 := b_sum_rows_1
    F__law_rows := F__law_rows
    g__law_rows := PySem.W.mg_of X G a__law_rows
    k__law_rows := k__law_rows
    b__law_rows_1 := b__law_rows_1
    F_binomial_sums := F_binomial_sums
    g_binomial_sums := PySem.W.mg_of X G a_binomial_sums
    k_binomial_sums := k_binomial_sums
    b_binomial_sums_3 := b_binomial_sums_3
    F_binomial_noises := F_binomial_noises
    g_binomial_noises := PySem.W.mg_of X G a_binomial_noises
    k_binomial_noises := k_binomial_noises
    b_binomial_noises_2 := b_binomial_noises_2
    F__law_gcd := F__law_gcd
    g__law_gcd := PySem.W.mg_of X G a__law_gcd
    k__law_gcd := k__law_gcd
    b__law_gcd_2 := b__law_gcd_2
    F__law_ratio := F__law_ratio
    g__law_ratio := PySem.W.mg_of X G a__law_ratio
    k__law_ratio := k__law_ratio
    b__law_ratio_2 := b__law_ratio_2
    F__law_plus := F__law_plus
    g__law_plus := PySem.W.mg_of X G a__law_plus
    k__law_plus := k__law_plus
    b__law_plus_2 := b__law_plus_2
    F__law_times := F__law_times
    g__law_times := PySem.W.mg_of X G a__law_times
    k__law_times := k__law_times
    b__law_times_2 := b__law_times_2
    F__law_noise := F__law_noise
    g__law_noise := PySem.W.mg_of X G a__law_noise
    k__law_noise := k__law_noise
    b__law_noise_3 := b__law_noise_3
    F__law_power := F__law_power
    g__law_power := PySem.W.mg_of X G a__law_power
    k__law_power := k__law_power
    b__law_power_2 := b__law_power_2
    F__law_mark_hum := F__law_mark_hum
    g__law_mark_hum := PySem.W.mg_of X G a__law_mark_hum
    k__law_mark_hum := k__law_mark_hum
    b__law_mark_hum_2 := b__law_mark_hum_2
    F__law_order := F__law_order
    g__law_order := PySem.W.mg_of X G a__law_order
    k__law_order := k__law_order
    b__law_order_3 := b__law_order_3
    F__law_line_order := F__law_line_order
    g__law_line_order := PySem.W.mg_of X G a__law_line_order
    k__law_line_order := k__law_line_order
    b__law_line_order_2 := b__law_line_order_2
    F__law_is_ratio := F__law_is_ratio
    g__law_is_ratio := PySem.W.mg_of X G a__law_is_ratio
    k__law_is_ratio := k__law_is_ratio
    b__law_is_ratio_1 := b__law_is_ratio_1
    F__law_is_row := F__law_is_row
    g__law_is_row := PySem.W.mg_of X G a__law_is_row
    k__law_is_row := k__law_is_row
    b__law_is_row_2 := b__law_is_row_2
    F__law_even := F__law_even
    g__law_even := PySem.W.mg_of X G a__law_even
    k__law_even := k__law_even
    b__law_even_1 := b__law_even_1
    F__law_is_whole := F__law_is_whole
    g__law_is_whole := PySem.W.mg_of X G a__law_is_whole
    k__law_is_whole := k__law_is_whole
    b__law_is_whole_1 := b__law_is_whole_1
    F__law_all_whole := F__law_all_whole
    g__law_all_whole := PySem.W.mg_of X G a__law_all_whole
    k__law_all_whole := k__law_all_whole
    b__law_all_whole_1 := b__law_all_whole_1
    F__law_chosen := F__law_chosen
    g__law_chosen := PySem.W.mg_of X G a__law_chosen
    k__law_chosen := k__law_chosen
    b__law_chosen_2 := b__law_chosen_2
    F__law_binomials := F__law_binomials
    g__law_binomials := PySem.W.mg_of X G a__law_binomials
    k__law_binomials := k__law_binomials
    b__law_binomials_3 := b__law_binomials_3
    F__law_right := F__law_right
    g__law_right := PySem.W.mg_of X G a__law_right
    k__law_right := k__law_right
    b__law_right_2 := b__law_right_2
    F__law_refused := F__law_refused
    g__law_refused := PySem.W.mg_of X G a__law_refused
    k__law_refused := k__law_refused
    b__law_refused_2 := b__law_refused_2
    F__law_rows_refused := F__law_rows_refused
    g__law_rows_refused := PySem.W.mg_of X G a__law_rows_refused
    k__law_rows_refused := k__law_rows_refused
    b__law_rows_refused_1 := b__law_rows_refused_1
    F_law := F_law
    g_BadWord := gC_BadWord
    e_BadWord := e_BadWord
    x_BadWord := ⟨ga_BadWord, gg_BadWord, ex_BadWord, hd_BadWord⟩
    Fi_BadWord := Fi_BadWord
    bi_BadWord := bi_BadWord
    n_BadWord_index := no_BadWord_index
    n_BadWord_what := no_BadWord_what
    e0_BadCount := ⟨PySem.W.mg_of X G aC_BadCount, kC_BadCount, ve_BadCount, ex_BadCount, ty_BadCount⟩
    g_BadCount := PySem.W.mg_of X G aC_BadCount
    m_comb := PySem.W.mg_of X G bf_comb
    t_BadCount_BadCount := exm_of ex_BadCount ic_BadCount ty_BadCount te_BadCount_BadCount
    t_BadWord_BadCount := exm_of ex_BadCount ic_BadCount ty_BadCount te_BadWord_BadCount
    t_BadCount_BadWord := exm_of ex_BadWord ic_BadWord ty_BadWord te_BadCount_BadWord
    t_BadWord_BadWord := exm_of ex_BadWord ic_BadWord ty_BadWord te_BadWord_BadWord
    n_abs := PySem.W.mg_none_of X G z_abs
    n_bool := PySem.W.mg_none_of X G z_bool
    n_enumerate := PySem.W.mg_none_of X G z_enumerate
    n_int := PySem.W.mg_none_of X G z_int
    n_isinstance := PySem.W.mg_none_of X G z_isinstance
    n_len := PySem.W.mg_none_of X G z_len
    n_list := PySem.W.mg_none_of X G z_list
    n_range := PySem.W.mg_none_of X G z_range
    n_sum := PySem.W.mg_none_of X G z_sum
    n_tuple := PySem.W.mg_none_of X G z_tuple
    c_MOST_SECTIONS := ⟨_, PySem.W.mg_of X G w_MOST_SECTIONS, ⟨_, rfl⟩⟩ }
  exact ⟨_, fun s v => .of_eq rfl, fun base _ _ => (ok_law T).imp (law_imp hm)⟩
end
end K34

set_option Elab.async false
set_option linter.all false
set_option maxRecDepth 100000
set_option autoImplicit false
/-! PR: texts of data. -/
namespace DL
open PySem PySem.Spec PyProof.Rows L2
theorem sOk_app {a b : Str} (ha : PyData.strOk a = true) (hb : PyData.strOk b = true) : PyData.strOk (a ++ b) = true := by
  unfold PyData.strOk at *
  rw [PySem.Str.cps_append, Array.all_append, ha, hb]
  rfl
theorem sOk_str (s : String) : PyData.strOk (Str.ofString s) = true := by
  unfold PyData.strOk
  rw [Str.ofString_eq_toList]
  simp only [List.all_toArray, List.all_map, List.all_eq_true, Function.comp, decide_eq_true_eq]
  intro c _
  have := c.valid
  rcases this with h | h
  · show c.val.toNat < _
    have : c.val.toNat < 0xd800 := h
    omega
  · have : c.val.toNat < 0x110000 := h.2
    exact this
theorem sOk_join : ∀ (ts : List Str), (∀ t ∈ ts, PyData.strOk t = true) → PyData.strOk (Str.join ", " ts) = true
  | [], _ => by decide +kernel
  | [t], h => h t (by simp)
  | t :: u :: ts, h => by
    rw [Str.join]
    · exact sOk_app (sOk_app (h t (by simp)) (sOk_str _)) (sOk_join (u :: ts) fun x hx => h x (List.mem_cons_of_mem _ hx))
    · simp
theorem sOk_tuple {ts : List Str} (h : ∀ t ∈ ts, PyData.strOk t = true) : PyData.strOk (tupleText ts) = true := by
  unfold tupleText
  exact sOk_app (sOk_app (sOk_str _) (sOk_join ts h)) (sOk_str _)
theorem sOk_from : ∀ (ts : List Str) (k : Nat) (acc : Str), PyData.strOk acc = true → (∀ t ∈ ts, PyData.strOk t = true) → PyData.strOk (textFrom k acc ts) = true
  | [], _, _, h, _ => h
  | t :: ts, k, acc, h, ht => by
    rw [textFrom]
    exact sOk_from ts _ _ (sOk_app (sOk_app h (sOk_str _)) (ht t (by simp))) fun x hx => ht x (List.mem_cons_of_mem _ hx)
theorem sOk_list {ts : List Str} (h : ∀ t ∈ ts, PyData.strOk t = true) : PyData.strOk (listText ts) = true := by
  unfold listText
  exact sOk_app (sOk_from ts 0 _ (sOk_str _) h) (sOk_str _)
/-- the text -/
def rp (d : D) : Str := ((d.py).map PyData.shown).getD Str.empty
/-- data with a text: k deep, n things -/
structure ShP (k n : Nat) (p : PyData) : Prop where
  sh : p.showable = true
  nd : p.hasDict = false
  lv : p.leavesShort 2000 = true
  bk : p.bulk ≤ n
  dp : p.depth ≤ k
  ok : PyData.strOk p.shown = true
structure ShPs (k n : Nat) (ps : List PyData) : Prop where
  sh : PyData.showableAll ps = true
  nd : PyData.hasDictAll ps = false
  lv : PyData.leavesShortAll 2000 ps = true
  bk : PyData.bulkAll ps ≤ n
  dp : PyData.depthAll ps ≤ k
  ok : ∀ t ∈ PyData.shownAll ps, PyData.strOk t = true
def Shw (k n : Nat) (d : D) : Prop := ∃ p, d.py = some p ∧ ShP k n p
section
variable {k n : Nat} {d : D} {xs : List D}
theorem Shw.mono {k' n' : Nat} (h : Shw k n d) (hk : k ≤ k') (hn : n ≤ n') : Shw k' n' d := by
  obtain ⟨p, e, s⟩ := h
  exact ⟨p, e, s.sh, s.nd, s.lv, Nat.le_trans s.bk hn, Nat.le_trans s.dp hk, s.ok⟩
theorem shw_non : Shw 0 0 .non := ⟨.none, rfl, rfl, rfl, rfl, by simp [PyData.bulk], by simp [PyData.depth], by decide +kernel⟩
theorem shw_bl {b : Bool} : Shw 0 0 (.bl b) := ⟨.bool b, rfl, rfl, rfl, rfl, by simp [PyData.bulk], by simp [PyData.depth], by cases b <;> decide +kernel⟩
theorem shw_int {i : Int} (h : i.natAbs.log2 < 1920) : Shw 0 0 (.int i) := by
  have l := int_text_length_le (k := 1920) (by decide) h
  refine ⟨.int i, rfl, by simpa [PyData.showable] using h, rfl, ?_, by simp [PyData.bulk], by simp [PyData.depth], ?_⟩
  · simp only [PyData.leavesShort, PyData.shown, decide_eq_true_eq]
    refine decide_eq_true ?_
    rw [PySem.ofString_length]
    omega
  · simp only [PyData.shown]
    exact sOk_str _
theorem shws (h : ∀ x ∈ xs, Shw k n x) : ∃ ps, pyAll xs = some ps ∧ ShPs k (xs.length * (n + 1)) ps := by
  induction xs with
  | nil => exact ⟨[], rfl, rfl, rfl, rfl, by simp [PyData.bulkAll], by simp [PyData.depthAll], by simp [PyData.shownAll]⟩
  | cons x xs ih =>
    obtain ⟨p, e, s⟩ := h x (by simp)
    obtain ⟨ps, es, ss⟩ := ih fun y hy => h y (List.mem_cons_of_mem _ hy)
    refine ⟨p :: ps, by rw [pyAll, e, es], ?_, ?_, ?_, ?_, ?_, ?_⟩
    · simp only [PyData.showableAll, s.sh, ss.sh, Bool.and_self]
    · simp only [PyData.hasDictAll, s.nd, ss.nd, Bool.or_self]
    · simp only [PyData.leavesShortAll, s.lv, ss.lv, Bool.and_self]
    · simp only [PyData.bulkAll, List.length_cons, Nat.succ_mul]
      have := s.bk
      have := ss.bk
      omega
    · simp only [PyData.depthAll]
      have := s.dp
      have := ss.dp
      omega
    · intro t ht
      simp only [PyData.shownAll, List.mem_cons] at ht
      rcases ht with ht | ht
      · rw [ht]; exact s.ok
      · exact ss.ok t ht
theorem shw_tup (h : ∀ x ∈ xs, Shw k n x) : Shw (k + 1) (xs.length * (n + 1)) (.tup xs) := by
  obtain ⟨ps, e, s⟩ := shws h
  refine ⟨.tuple ps, by rw [D.py, e]; rfl, by simpa only [PyData.showable] using s.sh, by simpa only [PyData.hasDict] using s.nd, by simpa only [PyData.leavesShort] using s.lv, by simpa only [PyData.bulk] using s.bk, ?_, ?_⟩
  · simp only [PyData.depth]
    have := s.dp
    omega
  · simp only [PyData.shown]
    exact sOk_tuple s.ok
theorem shw_lst (h : ∀ x ∈ xs, Shw k n x) : Shw (k + 1) (xs.length * (n + 1)) (.lst xs) := by
  obtain ⟨ps, e, s⟩ := shws h
  refine ⟨.list ps, by rw [D.py, e]; rfl, by simpa only [PyData.showable] using s.sh, by simpa only [PyData.hasDict] using s.nd, by simpa only [PyData.leavesShort] using s.lv, by simpa only [PyData.bulk] using s.bk, ?_, ?_⟩
  · simp only [PyData.depth]
    have := s.dp
    omega
  · simp only [PyData.shown]
    exact sOk_list s.ok
theorem reprD_at (h : Shw k n d) (hk : k ≤ 64) (hn : n ≤ 8000) : reprD [d] = some (.str (rp d)) ∧ PyData.strOk (rp d) = true := by
  obtain ⟨p, e, s⟩ := h
  have r : rp d = p.shown := by unfold rp; rw [e]; rfl
  have l := PyData.shown_le_bulk 2000 (by decide) p s.lv
  have f : fitsR p = true := by
    unfold fitsR
    have d1 : p.depth ≤ 64 := Nat.le_trans s.dp hk
    have d2 : p.shown.length ≤ sizeLine := by
      rw [sizeLine_eq]
      have := Nat.mul_le_mul_left 2002 (Nat.le_trans s.bk hn)
      omega
    rw [s.sh, s.nd, decide_eq_true d1, decide_eq_true d2]
    rfl
  refine ⟨?_, by rw [r]; exact s.ok⟩
  show (d.py.bind fun p => if fitsR p = true then some (D.str p.shown) else none) = _
  rw [e, r]
  show (if fitsR p = true then some (D.str p.shown) else none) = _
  rw [if_pos f]
theorem log2_of {m j : Nat} (h : m < 2 ^ j) (hj : 0 < j) : m.log2 < j := by
  by_cases h0 : m = 0
  · subst h0; simpa using hj
  · exact (Nat.log2_lt h0).mpr h
theorem shw_rD {q : Rat} (h : Bd 1900 q) : Shw 1 2 (rD q) := by
  have a : Shw 0 0 (.int q.num) := shw_int (Nat.lt_trans (log2_of h.1 (by decide)) (by decide))
  have b : Shw 0 0 (.int (q.den : Int)) := shw_int (by
    rw [Int.natAbs_natCast]
    exact Nat.lt_trans (log2_of h.2 (by decide)) (by decide))
  have := shw_tup (xs := [.int q.num, .int (q.den : Int)]) (k := 0) (n := 0) fun x hx => by
    simp only [List.mem_cons, List.not_mem_nil, or_false] at hx
    rcases hx with e | e <;> subst e
    · exact a
    · exact b
  exact this
theorem shw_rT {qs : List Rat} (h : ∀ q ∈ qs, Bd 1900 q) : Shw 2 (qs.length * 3) (rT qs) := by
  have := shw_tup (xs := qs.map rD) (k := 1) (n := 2) fun x hx => by
    obtain ⟨q, hq, rfl⟩ := List.mem_map.mp hx
    exact shw_rD (h q hq)
  rw [List.length_map] at this
  exact this
theorem shw_rTs {hs : List (List Rat)} {m : Nat} (h : ∀ h ∈ hs, h.length ≤ m ∧ ∀ q ∈ h, Bd 1900 q) : Shw 3 (hs.length * (m * 3 + 1)) (.tup (hs.map rT)) := by
  have := shw_tup (xs := hs.map rT) (k := 2) (n := m * 3) fun x hx => by
    obtain ⟨q, hq, rfl⟩ := List.mem_map.mp hx
    have l := (h q hq).1
    exact (shw_rT (h q hq).2).mono (Nat.le_refl _) (by omega)
  rw [List.length_map] at this
  exact this
end
end DL

set_option Elab.async false
set_option linter.all false
set_option maxRecDepth 100000
set_option autoImplicit false
/-! PD: ratios whose bottoms are powers of two. -/
namespace DL
open PySem PySem.Spec PyProof.Rows L2
/-- a whole number over 2 ^ e, below 2 ^ b -/
def Hf (e b : Nat) (q : Rat) : Prop := ∃ a : Int, q = mkRat a (2 ^ e) ∧ a.natAbs < 2 ^ b
section
variable {e f b c j : Nat} {p q : Rat}
theorem two_pos {e : Nat} : 2 ^ e ≠ 0 := Nat.ne_of_gt (Nat.two_pow_pos e)
theorem hf_bd {n : Nat} (h : Hf e b q) (h1 : e < n) (h2 : b ≤ n) : Bd n q := by
  obtain ⟨a, rfl, l⟩ := h
  exact bd_mk two_pos (Nat.lt_of_lt_of_le l (Nat.pow_le_pow_right (by decide) h2)) (Nat.pow_lt_pow_right (by decide) h1)
theorem hf_mono (h : Hf e b q) (hb : b ≤ c) : Hf e c q := by
  obtain ⟨a, x, l⟩ := h
  exact ⟨a, x, Nat.lt_of_lt_of_le l (Nat.pow_le_pow_right (by decide) hb)⟩
theorem hf_up (h : Hf e b q) (j : Nat) : Hf (e + j) (b + j) q := by
  obtain ⟨a, rfl, l⟩ := h
  refine ⟨a * ((2 ^ j : Nat) : Int), ?_, ?_⟩
  · rw [Nat.pow_add, Rat.mkRat_mul_right two_pos]
  · rw [Int.natAbs_mul, Int.natAbs_natCast, Nat.pow_add]
    exact Nat.mul_lt_mul_of_pos_right l (Nat.two_pow_pos j)
theorem mk_add {a c : Int} {d : Nat} (hd : d ≠ 0) : mkRat a d + mkRat c d = mkRat (a + c) d := by
  rw [Rat.mkRat_add_mkRat _ _ hd hd, ← Int.add_mul, Rat.mkRat_mul_right hd]
theorem hf_add (h : Hf e b p) (h2 : Hf e c q) : Hf e (max b c + 1) (p + q) := by
  obtain ⟨a, rfl, l⟩ := h
  obtain ⟨d, rfl, l2⟩ := h2
  refine ⟨a + d, mk_add two_pos, ?_⟩
  have x1 : 2 ^ b ≤ 2 ^ max b c := Nat.pow_le_pow_right (by decide) (Nat.le_max_left _ _)
  have x2 : 2 ^ c ≤ 2 ^ max b c := Nat.pow_le_pow_right (by decide) (Nat.le_max_right _ _)
  have := Int.natAbs_add_le a d
  rw [Nat.pow_succ]
  omega
theorem hf_neg (h : Hf e b p) : Hf e b (-p) := by
  obtain ⟨a, rfl, l⟩ := h
  exact ⟨-a, by rw [Rat.neg_mkRat], by rwa [Int.natAbs_neg]⟩
theorem hf_sub (h : Hf e b p) (h2 : Hf e c q) : Hf e (max b c + 1) (p - q) := by
  rw [Rat.sub_eq_add_neg]
  exact hf_add h (hf_neg h2)
theorem hf_mul (h : Hf e b p) (h2 : Hf f c q) : Hf (e + f) (b + c) (p * q) := by
  obtain ⟨a, rfl, l⟩ := h
  obtain ⟨d, rfl, l2⟩ := h2
  refine ⟨a * d, by rw [Rat.mkRat_mul_mkRat, Nat.pow_add], ?_⟩
  rw [Int.natAbs_mul, Nat.pow_add]
  by_cases h0 : d.natAbs = 0
  · rw [h0, Nat.mul_zero]
    exact Nat.mul_pos (Nat.two_pow_pos b) (Nat.two_pow_pos c)
  · exact Nat.lt_of_lt_of_le (Nat.mul_lt_mul_of_pos_right l (by omega)) (Nat.mul_le_mul_left _ (Nat.le_of_lt l2))
theorem hf_0 : Hf e b 0 := ⟨0, (Rat.zero_mkRat _).symm, Nat.two_pow_pos b⟩
theorem hf_1 : Hf 0 1 1 := ⟨1, rfl, by decide⟩
theorem hf_int {i : Int} (h : i.natAbs < 2 ^ b) : Hf 0 b (i : Rat) := ⟨i, by rw [Nat.pow_zero, Rat.mkRat_one], h⟩
/-- so many halves -/
def Hv (c : Nat) (q : Rat) : Prop := ∃ a : Int, q = mkRat a 2 ∧ a.natAbs ≤ c
theorem hv_hf (h : Hv c q) (hc : c < 2 ^ b) : Hf 1 b q := by
  obtain ⟨a, x, l⟩ := h
  exact ⟨a, x, by omega⟩
theorem hv_add {d : Nat} (h : Hv c p) (h2 : Hv d q) : Hv (c + d) (p + q) := by
  obtain ⟨a, rfl, l⟩ := h
  obtain ⟨x, rfl, l2⟩ := h2
  exact ⟨a + x, mk_add (by decide), by have := Int.natAbs_add_le a x; omega⟩
theorem hv_mono {d : Nat} (h : Hv c q) (hd : c ≤ d) : Hv d q := by
  obtain ⟨a, x, l⟩ := h
  exact ⟨a, x, by omega⟩
theorem hv_int {i : Int} (h : 2 * i.natAbs ≤ c) : Hv c (i : Rat) := by
  refine ⟨i * 2, ?_, by omega⟩
  have x := Rat.mkRat_mul_right (n := i) (d := 1) (a := 2) (by decide)
  rw [Rat.mkRat_one] at x
  exact x.symm
theorem hv_mk {a : Int} {d : Nat} (hd : d = 1 ∨ d = 2) (h : 2 * a.natAbs ≤ c) : Hv c (mkRat a d) := by
  rcases hd with e | e <;> subst e
  · rw [Rat.mkRat_one]
    exact hv_int h
  · exact ⟨a, rfl, by omega⟩
end
end DL

set_option Elab.async false
set_option linter.all false
set_option maxRecDepth 100000
set_option autoImplicit false
/-! PT: rows said n times. -/
namespace DL
open PySem PySem.Spec PyProof.Rows L2
section
variable {n : Nat}
theorem mulL_at {xs : List D} {k : Int} (h : -(2 ^ 63) ≤ k ∧ k < 2 ^ 63 ∧ xs.length * k.toNat ≤ sizeLine) : mulL (.lst xs) (.int k) = some (.lst (List.replicate k.toNat xs).flatten) := if_pos h
theorem alt_none {g g' : D → D → Option D} {a b : D} (h : g a b = none) : alt2 g g' a b = g' a b := by
  unfold alt2
  rw [h]
theorem alt_some {g g' : D → D → Option D} {a b c : D} (h : g a b = some c) : alt2 g g' a b = some c := by
  unfold alt2
  rw [h]
theorem z1 {x : D} (hn : n ≤ 1000) : [x].length * ((n : Int).toNat) ≤ sizeLine := by
  rw [Int.toNat_natCast, List.length_singleton, Nat.one_mul]
  exact Nat.le_trans hn (Nat.le_trans (by decide : 1000 ≤ 1000000) (by rw [sizeLine_eq]; decide))
theorem z2 (hn : n ≤ 1000) : -(2 ^ 63) ≤ (n : Int) ∧ (n : Int) < 2 ^ 63 := by omega
theorem flat_1 {x : D} : (List.replicate ((n : Int).toNat) [x]).flatten = List.replicate n x := by rw [Int.toNat_natCast, List.flatten_replicate_singleton]
theorem mul_one {x : D} (hn : n ≤ 1000) : mulD (.lst [x]) (.int (n : Nat)) = some (.lst (List.replicate n x)) := by
  have a : mulI (.lst [x]) (.int (n : Nat)) = none := rfl
  have b : mulTD (.lst [x]) (.int (n : Nat)) = none := rfl
  have c := mulL_at (xs := [x]) (k := (n : Int)) ⟨(z2 hn).1, (z2 hn).2, z1 hn⟩
  rw [flat_1] at c
  exact (alt_none a).trans ((alt_none b).trans c)
theorem mulT2_at {xs : List D} {k : Int} (h : xs ≠ [] ∧ 2 ≤ k ∧ k ≤ 1000 ∧ xs.length ≤ 1000) : mulT2 (.tup xs) (.int k) = some (.tup (List.replicate k.toNat xs).flatten) := if_pos h
theorem mulT1_no {xs : List D} {k : Int} (h : ¬ k = 1) : mulT1 (.tup xs) (.int k) = none := if_neg h
theorem mulT1_at {xs : List D} : mulT1 (.tup xs) (.int 1) = some (.tup xs) := rfl
theorem mul_oneT {x : D} (n1 : 1 ≤ n) (hn : n ≤ 1000) : mulD (.tup [x]) (.int (n : Nat)) = some (.tup (List.replicate n x)) := by
  have a : mulI (.tup [x]) (.int (n : Nat)) = none := rfl
  refine (alt_none a).trans (alt_some ?_)
  by_cases h : n = 1
  · subst h
    exact alt_some mulT1_at
  · have c := mulT2_at (xs := [x]) (k := (n : Int)) ⟨by simp, by omega, by omega, by simp⟩
    rw [flat_1] at c
    exact (alt_none (mulT1_no (by omega))).trans c

end
end DL

set_option Elab.async false
set_option linter.all false
set_option maxRecDepth 100000
set_option autoImplicit false
/-! PO: orders: the loud polynomial is heard, so the order is at most the number of crossings. -/
namespace DL
open PySem PySem.Spec PyProof.Rows L2
theorem rat_tri (x : Rat) : x < 0 ∨ x = 0 ∨ 0 < x := by grind
def powR (m : Rat) : Nat → Rat
  | 0 => 1
  | p + 1 => powR m p * m
/-- the value of a polynomial, power 0 first -/
def evL : List Rat → Rat → Rat
  | [], _ => 0
  | c :: cs, x => c + x * evL cs x
/-- .. times (x - m) -/
def stpL (m : Rat) (c : List Rat) : List Rat := List.zipWith (· - ·) (0 :: c) (c.map (m * ·) ++ [0])
theorem stpL_len {m : Rat} {c : List Rat} : (stpL m c).length = c.length + 1 := by unfold stpL; simp
theorem ev_zip : ∀ {a b : List Rat} {x : Rat}, a.length = b.length → evL (List.zipWith (· - ·) a b) x = evL a x - evL b x
  | [], [], x, _ => by simp only [List.zipWith_nil_left, evL]; grind
  | a :: as, b :: bs, x, h => by
    rw [List.zipWith_cons_cons, evL, evL, evL, ev_zip (by simpa using h)]
    grind
  | [], _ :: _, _, h => by simp at h
  | _ :: _, [], _, h => by simp at h
theorem ev_map {m x : Rat} : ∀ {c : List Rat}, evL (c.map (m * ·) ++ [0]) x = m * evL c x
  | [] => by simp only [List.map_nil, List.nil_append, evL]; grind
  | c :: cs => by
    rw [List.map_cons, List.cons_append, evL, evL, ev_map]
    grind
theorem ev_step {m x : Rat} {c : List Rat} : evL (stpL m c) x = (x - m) * evL c x := by
  unfold stpL
  rw [ev_zip (by simp), ev_map, evL]
  grind
theorem last_zip {m : Rat} : ∀ {c : List Rat} {z : Rat}, c.getLast? = some 1 → (List.zipWith (· - ·) (z :: c) (c.map (m * ·) ++ [0])).getLast? = some 1
  | [], _, h => by cases h
  | [a], z, h => by
    cases h
    simp
    grind
  | a :: b :: c, z, h => by
    have ih := last_zip (m := m) (c := b :: c) (z := a) (by simpa using h)
    rw [List.map_cons, List.cons_append, List.zipWith_cons_cons, List.getLast?_cons]
    rw [ih]
    rfl
theorem last_step {m : Rat} {c : List Rat} (h : c.getLast? = some 1) : (stpL m c).getLast? = some 1 := last_zip h
/-- the polynomial of told roots, the first root last -/
def prL (l : List Rat) (x : Rat) : Rat := l.foldr (fun m y => (x - m) * y) 1
def polyL (l : List Rat) : List Rat := l.foldl (fun c m => stpL m c) [1]
theorem poly_gen {x : Rat} : ∀ (l : List Rat) (c : List Rat), evL (l.foldl (fun c m => stpL m c) c) x = prL l x * evL c x
  | [], c => by simp [prL]
  | m :: l, c => by
    rw [List.foldl_cons, poly_gen l, ev_step]
    show prL l x * ((x - m) * evL c x) = ((x - m) * prL l x) * evL c x
    grind
theorem poly_ev {l : List Rat} {x : Rat} : evL (polyL l) x = prL l x := by
  unfold polyL
  rw [poly_gen]
  simp only [evL]
  grind
theorem poly_len_gen : ∀ (l c : List Rat), (l.foldl (fun c m => stpL m c) c).length = c.length + l.length
  | [], c => by simp
  | m :: l, c => by rw [List.foldl_cons, poly_len_gen l, stpL_len, List.length_cons]; omega
theorem poly_len {l : List Rat} : (polyL l).length = l.length + 1 := by
  unfold polyL
  rw [poly_len_gen]
  simp
  omega
theorem poly_last_gen : ∀ (l c : List Rat), c.getLast? = some 1 → (l.foldl (fun c m => stpL m c) c).getLast? = some 1
  | [], _, h => h
  | m :: l, c, h => poly_last_gen l _ (last_step h)
theorem poly_last {l : List Rat} : (polyL l).getLast? = some 1 := poly_last_gen l [1] rfl
/-! the middles at which the sign changes -/
def mids : List Rat → List Int → List Rat
  | a :: b :: ms, s :: t :: w => if t = s then mids (b :: ms) (t :: w) else (1 / 2 * (a + b)) :: mids (b :: ms) (t :: w)
  | _, _ => []
def Sgn (w : List Int) : Prop := ∀ x ∈ w, x = 1 ∨ x = -1
theorem mids_above : ∀ {ms : List Rat} {w : List Int} {a : Rat}, (a :: ms).Pairwise (· < ·) → ∀ m ∈ mids (a :: ms) w, a < m
  | [], w, a, _, m, h => by unfold mids at h; simp at h
  | b :: ms, [], a, _, m, h => by unfold mids at h; simp at h
  | b :: ms, [s], a, _, m, h => by unfold mids at h; simp at h
  | b :: ms, s :: t :: w, a, p, m, h => by
    rw [mids] at h
    rw [List.pairwise_cons] at p
    have ab : a < b := p.1 b List.mem_cons_self
    have ih := mids_above (ms := ms) (w := t :: w) (a := b) p.2
    split at h
    · have := ih m h; grind
    · rcases List.mem_cons.mp h with e | h
      · subst e; grind
      · have := ih m h; grind
theorem prL_neg {x y : Rat} : ∀ {l : List Rat}, (∀ m ∈ l, x < m) → (∀ m ∈ l, y < m) → 0 < prL l x * prL l y
  | [], _, _ => by
    show (0 : Rat) < 1 * 1
    grind
  | m :: l, h1, h2 => by
    have ih := prL_neg (l := l) (fun k hk => h1 k (List.mem_cons_of_mem _ hk)) (fun k hk => h2 k (List.mem_cons_of_mem _ hk))
    have a : 0 < m - x := by have := h1 m List.mem_cons_self; grind
    have b : 0 < m - y := by have := h2 m List.mem_cons_self; grind
    have := Rat.mul_pos (Rat.mul_pos a b) ih
    show 0 < ((x - m) * prL l x) * ((y - m) * prL l y)
    grind
/-- the last sign -/
def lastS (w : List Int) : Int := w.getLastD 1
theorem sg_cases {s : Int} (h : s = 1 ∨ s = -1) : ((s : Rat) = 1 ∧ s = 1) ∨ ((s : Rat) = -1 ∧ s = -1) := by
  rcases h with e | e <;> subst e
  · exact .inl ⟨rfl, rfl⟩
  · exact .inr ⟨rfl, rfl⟩
theorem same_sign {U A B : Rat} (h1 : 0 < U * B) (h2 : 0 < A * B) : 0 < U * A := by
  have bb : 0 < B * B := by
    rcases rat_tri B with h | h | h
    · have : 0 < -B := by grind
      have := Rat.mul_pos this this
      grind
    · subst h; grind
    · exact Rat.mul_pos h h
  have z := Rat.mul_pos h1 h2
  have e : U * B * (A * B) = (U * A) * (B * B) := by grind
  rw [e] at z
  rcases rat_tri (U * A) with h | h | h
  · have := Rat.mul_pos (show 0 < -(U * A) by grind) bb
    grind
  · rw [h] at z; grind
  · exact h
/-- at each mark the sign, the last sign and the product go together -/
theorem loud_at : ∀ (ms : List Rat) (w : List Int) (a : Rat) (s : Int), (a :: ms).Pairwise (· < ·) → ms.length = w.length → Sgn (s :: w) →
    ∀ p ∈ List.zip (a :: ms) (s :: w), 0 < (p.2 : Rat) * ((lastS (s :: w) : Int) : Rat) * prL (mids (a :: ms) (s :: w)) p.1
  | [], [], a, s, _, _, sg, p, hp => by
    simp only [List.zip_cons_cons, List.zip_nil_left, List.mem_singleton] at hp
    subst hp
    have := sg s List.mem_cons_self
    rcases this with e | e <;> subst e
    · show (0 : Rat) < ((1 : Int) : Rat) * ((1 : Int) : Rat) * 1
      have : ((1 : Int) : Rat) = 1 := rfl
      grind
    · show (0 : Rat) < ((-1 : Int) : Rat) * ((-1 : Int) : Rat) * 1
      have : ((-1 : Int) : Rat) = -1 := rfl
      grind
  | [], _ :: _, _, _, _, h, _, _, _ => by simp at h
  | _ :: _, [], _, _, _, h, _, _, _ => by simp at h
  | b :: ms, t :: w, a, s, pw, hl, sg, p, hp => by
    rw [List.pairwise_cons] at pw
    have ab : a < b := pw.1 b List.mem_cons_self
    have ih := loud_at ms w b t pw.2 (by simpa using hl) (fun x hx => sg x (List.mem_cons_of_mem _ hx))
    have el : lastS (s :: t :: w) = lastS (t :: w) := by simp [lastS]
    rw [el]
    have ih0 := ih (b, t) (by simp)
    have above := mids_above (w := t :: w) pw.2
    have same : 0 < prL (mids (b :: ms) (t :: w)) a * prL (mids (b :: ms) (t :: w)) b := prL_neg (fun m hm => by have := above m hm; grind) above
    have hs := sg_cases (sg s List.mem_cons_self)
    have ht := sg_cases (sg t (List.mem_cons_of_mem _ List.mem_cons_self))
    have hL : ((lastS (t :: w) : Int) : Rat) = 1 ∨ ((lastS (t :: w) : Int) : Rat) = -1 := by
      have : lastS (t :: w) ∈ t :: w := by
        unfold lastS
        rw [List.getLastD_eq_getLast?, List.getLast?_eq_some_getLast (by simp)]
        exact List.getLast_mem _
      rcases sg_cases (sg _ (List.mem_cons_of_mem _ this)) with h | h
      · exact .inl h.1
      · exact .inr h.1
    generalize ((lastS (t :: w) : Int) : Rat) = L at *
    rw [List.zip_cons_cons, List.mem_cons] at hp
    rw [mids]
    simp only at ih0
    generalize prL (mids (b :: ms) (t :: w)) b = B at *
    by_cases e : t = s
    · rw [if_pos e]
      rcases hp with hp | hp
      · subst hp
        subst e
        simp only
        generalize prL (mids (b :: ms) (t :: w)) a = A at *
        exact same_sign ih0 same
      · exact ih p hp
    · rw [if_neg e]
      have st : (s : Rat) = -(t : Rat) := by
        rcases hs with ⟨h1, h2⟩ | ⟨h1, h2⟩ <;> rcases ht with ⟨h3, h4⟩ | ⟨h3, h4⟩
        · exact absurd (h4.trans h2.symm) e
        · rw [h1, h3]; decide
        · rw [h1, h3]
        · exact absurd (h4.trans h2.symm) e
      rcases hp with hp | hp
      · subst hp
        simp only
        show 0 < (s : Rat) * L * ((a - 1 / 2 * (a + b)) * prL (mids (b :: ms) (t :: w)) a)
        rw [st]
        generalize prL (mids (b :: ms) (t :: w)) a = A at *
        generalize ((t : Int) : Rat) = T at *
        have ha : 0 < b - a := by grind
        have e1 : -T * L * ((a - 1 / 2 * (a + b)) * A) = (1 / 2 * (b - a)) * (T * L * A) := by grind
        rw [e1]
        have z2 : 0 < T * L * A := same_sign ih0 same
        exact Rat.mul_pos (Rat.mul_pos (by grind) ha) z2
      · have i := ih p hp
        show 0 < (p.2 : Rat) * L * ((p.1 - 1 / 2 * (a + b)) * prL (mids (b :: ms) (t :: w)) p.1)
        have pm : b ≤ p.1 := by
          have := (List.of_mem_zip hp).1
          rcases List.mem_cons.mp this with e | h
          · rw [e]; exact Rat.le_refl
          · have := (List.pairwise_cons.mp pw.2).1 _ h
            grind
        have fac : 0 < p.1 - 1 / 2 * (a + b) := by grind
        have := Rat.mul_pos fac i
        grind
/-! noises of powers -/
theorem tm_sg {l h : Rat} {s : Int} (hs : s = 1 ∨ s = -1) : tm l s h = l * ((s : Rat) * h) := by
  unfold tm
  rcases sg_cases hs with ⟨h1, h2⟩ | ⟨h1, h2⟩
  · rw [if_pos h2, h1]; grind
  · rw [if_neg (by omega), h1]; grind
theorem nz_cons {l x : Rat} {s : Int} {ls hs : List Rat} {w : List Int} : nz (l :: ls) (s :: w) (x :: hs) = tm l s x + nz ls w hs := by
  unfold nz
  show sumR (0 + tm l s x) (trm ls w hs) = _
  rw [sumR_add]
  grind
theorem nz_lin {c : Rat} (f g : Rat → Rat) : ∀ (ls ms : List Rat) (w : List Int), nz ls w (ms.map fun m => c * f m + g m) = c * nz ls w (ms.map f) + nz ls w (ms.map g)
  | l :: ls, m :: ms, s :: w => by
    rw [List.map_cons, List.map_cons, List.map_cons, nz_cons, nz_cons, nz_cons, nz_lin f g ls ms w]
    unfold tm
    split <;> grind
  | [], _, _ => by simp [nz, trm, sumR]; grind
  | _ :: _, [], [] => by simp [nz, trm, sumR]; grind
  | _ :: _, [], _ :: _ => by simp [nz, trm, sumR]; grind
  | _ :: _, _ :: _, [] => by simp [nz, trm, sumR]; grind
def nzp (ls ms : List Rat) (w : List Int) (p : Nat) : Rat := nz ls w (ms.map fun m => powR m p)
def linL (N : Nat → Rat) : List Rat → Nat → Rat
  | [], _ => 0
  | c :: cs, j => c * N j + linL N cs (j + 1)
theorem nz_ev {ls ms : List Rat} {w : List Int} : ∀ (c : List Rat) (j : Nat), nz ls w (ms.map fun m => powR m j * evL c m) = linL (nzp ls ms w) c j
  | [], j => by
    have := nz_lin (c := 0) (fun _ => 0) (fun m => powR m j * evL [] m) ls ms w
    have z : (fun m : Rat => powR m j * evL [] m) = fun _ => 0 := by funext m; simp only [evL]; grind
    rw [z] at this ⊢
    have z2 : ∀ (ls ms : List Rat) (w : List Int), nz ls w (ms.map fun _ => (0 : Rat)) = 0 := by
      intro ls
      induction ls with
      | nil => intro ms w; simp [nz, trm, sumR]
      | cons l ls ih =>
        intro ms w
        cases ms with
        | nil => cases w <;> simp [nz, trm, sumR]
        | cons m ms =>
          cases w with
          | nil => simp [nz, trm, sumR]
          | cons s w =>
            rw [List.map_cons, nz_cons, ih]
            unfold tm
            split <;> grind
    exact z2 ls ms w
  | c :: cs, j => by
    have e : (fun m : Rat => powR m j * evL (c :: cs) m) = fun m => c * powR m j + powR m (j + 1) * evL cs m := by
      funext m
      simp only [evL, powR]
      grind
    rw [e, nz_lin, nz_ev cs (j + 1)]
    rfl
theorem lin_last {N : Nat → Rat} : ∀ (c : List Rat) (j : Nat), c.getLast? = some 1 → (∀ k, j ≤ k → k + 1 < j + c.length → N k = 0) → linL N c j = N (j + c.length - 1)
  | [], _, h, _ => by cases h
  | [a], j, h, _ => by
    have ha : a = 1 := by simpa using h
    subst ha
    simp only [linL, List.length_singleton, Nat.add_sub_cancel]
    grind
  | a :: b :: c, j, h, hz => by
    rw [linL, lin_last (b :: c) (j + 1) (by simpa using h) fun k h1 h2 => hz k (by omega) (by simp only [List.length_cons] at h2 ⊢; omega), hz j (by omega) (by simp)]
    simp only [List.length_cons]
    rw [show j + 1 + (c.length + 1) - 1 = j + (c.length + 1 + 1) - 1 by omega]
    grind
theorem nz_pos {L : Rat} : ∀ {ls hs : List Rat} {w : List Int}, ls ≠ [] → ls.length = w.length → hs.length = w.length → Sgn w → (∀ l ∈ ls, 0 < l) → (∀ p ∈ List.zip hs w, 0 < (p.2 : Rat) * L * p.1) → 0 < L * nz ls w hs
  | [], _, _, h, _, _, _, _, _ => absurd rfl h
  | l :: ls, h :: hs, s :: w, _, h1, h2, sg, pos, hp => by
    have a : 0 < (s : Rat) * L * h := hp (h, s) (by simp)
    have b := pos l List.mem_cons_self
    have c : 0 < L * tm l s h := by
      rw [tm_sg (sg s List.mem_cons_self)]
      have := Rat.mul_pos b a
      grind
    rw [nz_cons]
    by_cases e : ls = []
    · subst e
      have : nz [] w hs = 0 := by simp [nz, trm, sumR]
      rw [this]
      grind
    · have := nz_pos (ls := ls) (hs := hs) (w := w) e (by simpa using h1) (by simpa using h2) (fun x hx => sg x (List.mem_cons_of_mem _ hx)) (fun x hx => pos x (List.mem_cons_of_mem _ hx)) fun p hp2 => hp p (by rw [List.zip_cons_cons]; exact List.mem_cons_of_mem _ hp2)
      grind
  | _ :: _, [], _ :: _, _, _, h, _, _, _ => by simp at h
  | _ :: _, _, [], _, h, _, _, _, _ => by simp at h
/-- the last sign is that of the number of crossings -/
theorem last_par : ∀ (ms : List Rat) (w : List Int) (a : Rat) (s : Int), ms.length = w.length → Sgn (s :: w) → lastS (s :: w) = s * (if (mids (a :: ms) (s :: w)).length % 2 = 0 then 1 else -1)
  | [], [], a, s, _, _ => by simp [lastS, mids]
  | [], _ :: _, _, _, h, _ => by simp at h
  | _ :: _, [], _, _, h, _ => by simp at h
  | b :: ms, t :: w, a, s, hl, sg => by
    have el : lastS (s :: t :: w) = lastS (t :: w) := by simp [lastS]
    rw [el, last_par ms w b t (by simpa using hl) fun x hx => sg x (List.mem_cons_of_mem _ hx), mids]
    have hs := sg s List.mem_cons_self
    have ht := sg t (List.mem_cons_of_mem _ List.mem_cons_self)
    by_cases e : t = s
    · rw [if_pos e, e]
    · rw [if_neg e, List.length_cons]
      have st : s = -t := by omega
      subst st
      rcases Nat.mod_two_eq_zero_or_one (mids (b :: ms) (t :: w)).length with h | h
      · rw [if_pos h, if_neg (by omega)]; omega
      · rw [if_neg (by omega), if_pos (by omega)]; omega
/-- the loud polynomial is heard, with the sign of the number of crossings -/
theorem loud_heard {ls ms : List Rat} {w : List Int} (h0 : ls ≠ []) (hl : ls.length = w.length) (hm : ms.length = w.length) (sg : Sgn w) (h1 : w.head? = some 1) (pos : ∀ l ∈ ls, 0 < l) (up : ms.Pairwise (· < ·)) :
    0 < (if (mids ms w).length % 2 = 0 then (1 : Rat) else -1) * nz ls w (ms.map (evL (polyL (mids ms w)))) := by
  match ms, w with
  | [], [] => cases h1
  | [], _ :: _ => simp at hm
  | _ :: _, [] => simp at hm
  | a :: ms, s :: w =>
    cases h1
    have lp := last_par ms w a 1 (by simpa using hm) sg
    have la := loud_at ms w a 1 up (by simpa using hm) sg
    have key : 0 < ((lastS (1 :: w) : Int) : Rat) * nz ls (1 :: w) ((a :: ms).map (evL (polyL (mids (a :: ms) (1 :: w))))) := by
      refine nz_pos h0 hl (by simpa using hm) sg pos fun p hp => ?_
      rw [List.zip_map_left] at hp
      obtain ⟨q, hq, rfl⟩ := List.mem_map.mp hp
      have := la q hq
      simp only [Prod.map_fst, Prod.map_snd, id_eq]
      rw [poly_ev]
      exact this
    rw [lp, Int.one_mul] at key
    split
    · rename_i h
      rw [if_pos h] at key
      exact key
    · rename_i h
      rw [if_neg h] at key
      exact key
/-- .. so the order is at most this number -/
theorem order_le {ls ms : List Rat} {w : List Int} (h0 : ls ≠ []) (hl : ls.length = w.length) (hm : ms.length = w.length) (sg : Sgn w) (h1 : w.head? = some 1) (pos : ∀ l ∈ ls, 0 < l) (up : ms.Pairwise (· < ·)) (hz : ∀ k, k < (mids ms w).length → nzp ls ms w k = 0) :
    nzp ls ms w (mids ms w).length = nz ls w (ms.map (evL (polyL (mids ms w)))) := by
  have e := nz_ev (ls := ls) (ms := ms) (w := w) (polyL (mids ms w)) 0
  have z : (fun m : Rat => powR m 0 * evL (polyL (mids ms w)) m) = evL (polyL (mids ms w)) := by
    funext m
    simp only [powR]
    grind
  rw [z] at e
  rw [e, lin_last _ 0 poly_last fun k _ h => hz k (by rw [poly_len] at h; omega), poly_len]
  congr 1
  omega
end DL

set_option Elab.async false
set_option linter.all false
set_option maxRecDepth 100000
set_option autoImplicit false
namespace K34
open PySem PySem.Spec PyProof.Rows L2 DL
theorem mixed_ok {a b : Int} (ha : Sm a) (hb : Sm b) : ∃ r : Int, m__law_mixed [.dat (.int a), .dat (.int b)] = .ok (.int r) none := by
  unfold m__law_mixed
  rw [mk_out]
  simp [g__law_mixed, mulD_s, modI_int, fdvI_s, ha, hb, sm_mod]
/-- the hand: cells, two places, the rest, the total -/
def HandOk (h : List D) : Prop := ∃ (cs : List Int) (a b c : Int), h = [.lst (cs.map .int), .int a, .int b, .int c] ∧ (∀ x ∈ cs, 0 ≤ x) ∧ cs.length ≤ 63 ∧ 0 ≤ a ∧ a ≤ cs.length ∧ 0 ≤ b ∧ 0 ≤ c ∧ c < 2147483629
theorem take_ok {h : List D} {m : Int} (hh : HandOk h) (m0 : 0 < m) (m1 : Sm m) : ∃ (r : Int) (h' : List D), 0 ≤ r ∧ r < m ∧ HandOk h' ∧ m__law_take [.par 0 (.lst h), .dat (.int m)] = .ok (.int r) (some (.lst h')) := by
  obtain ⟨cs, a, b, c, rfl, hc, hl, a0, al, b0, c0, cl⟩ := hh
  unfold m__law_take
  rw [mk_out]
  have mx : ∀ x y : Int, Sm x → Sm y → ∃ r : Int, m__law_mixed [.dat (.int x), .dat (.int y)] = .ok (.int r) none := fun x y h1 h2 => by
    exact mixed_ok h1 h2
  have rm : ∀ x : Int, 0 ≤ x % m ∧ x % m < m := fun x => ⟨Int.emod_nonneg x (by omega), Int.emod_lt_of_pos x m0⟩
  have p18 : powI (.int 10) (.int 18) = some (.int 1000000000000000000) := by rfl
  have sa : Sm (a + 1) := sm_of (by omega)
  have sc : Sm ((c + 1) % 2147483629) := sm_mod (by decide) (by simp)
  have sA : Sm a := sm_of (by omega)
  obtain ⟨r3, e3⟩ := mx _ _ sc sA
  obtain ⟨r4, e4⟩ := mx _ _ sc sa
  have c1 : 0 ≤ (c + 1) % 2147483629 ∧ (c + 1) % 2147483629 < 2147483629 := by omega
  by_cases hb : b = 0
  · subst hb
    by_cases ha : a < cs.length
    · have e1 : atI (cs.map D.int) a = some (.int (cs[a.toNat]'(by omega))) := by
        rw [atI_int a0 (by simpa using ha), List.getElem?_map, List.getElem?_eq_getElem (by omega)]
        rfl
      have q0 : 0 ≤ cs[a.toNat]'(by omega) := hc _ (List.getElem_mem _)
      generalize cs[a.toNat]'(by omega) = q at e1 q0
      obtain ⟨r2, e2⟩ := mx (q % 2147483647) (a + 1) (sm_mod (by decide) (by simp)) sa
      by_cases hq : q < 1000000000000000000
      · simp [g__law_take, ha, m0, m1, mulD_s, modI_int, fdvI_s, sm_mod, p18, ixD_l, e1, hq, e2]
        exact ⟨_, (rm _).1, (rm _).2, ⟨cs, a + 1, 0, c, rfl, hc, hl, by omega, by omega, by omega, by omega, by omega⟩, rfl⟩
      · have q1 : 0 < q := by omega
        simp [g__law_take, ha, m0, m1, mulD_s, modI_int, fdvI_s, sm_mod, p18, ixD_l, e1, hq, e2, q1]
        exact ⟨_, (rm _).1, (rm _).2, ⟨cs, a + 1, _, c, rfl, hc, hl, by omega, by omega, Int.ediv_nonneg q0 (by omega), by omega, by omega⟩, rfl⟩
    · simp [g__law_take, ha, m0, m1, mulD_s, modI_int, fdvI_s, sm_mod, p18, ixD_l, e3]
      exact ⟨_, (rm _).1, (rm _).2, ⟨cs, a, _, _, rfl, hc, hl, by omega, by omega, by omega, by omega, by omega⟩, rfl⟩
  · have hb2 : 0 < b := by omega
    simp [g__law_take, hb, hb2, m0, m1, mulD_s, modI_int, fdvI_s, sm_mod, p18, ixD_l, e3]
    exact ⟨_, (rm _).1, (rm _).2, ⟨cs, a, _, _, rfl, hc, hl, by omega, by omega, Int.ediv_nonneg b0 (by omega), by omega, by omega⟩, rfl⟩
theorem hand_ok {ns : List Int} (hl : ns.length ≤ 63) : ∃ h, HandOk h ∧ m__law_hand [.dat (.slst (ns.map D.int))] = .okn h none := by
  unfold m__law_hand
  rw [mk_out]
  obtain ⟨ρ', e, total, cs, last, eρ, h1, h2, h3, h4⟩ := for_inv (t := tgName 3) (g := (gSeq (gSet 1 (f2 modI (fB int1D (fCons (f2 addD (f2 mulD (fVar 1) (fC (.int 1019))) (fB int1D (fCons (fVar 3) fNil))) fNil)) (fC (.int 2147483629))))
    (gApp 2 (fIf (t2 geI (fVar 3) (fC (.int 0))) (fB int1D (fCons (fVar 3) fNil)) (f1 negI (fB int1D (fCons (fVar 3) fNil)))))))
    (fun rest ρ => ∃ (total : Int) (cs : List Int) (last : Option Slot), ρ = [some (.dat (.slst (ns.map D.int))), some (.dat (.int total)), some (.own (cs.map .int)), last] ∧ (∃ ms : List Int, rest = ms.map D.int ∧ cs.length + ms.length = ns.length) ∧ 0 ≤ total ∧ total < 2147483629 ∧ ∀ x ∈ cs, 0 ≤ x)
    (fun d ds ρ h => by
      obtain ⟨total, cs, last, rfl, ⟨ms, hm, hn⟩, t0, t1, hc⟩ := h
      cases ms with
      | nil => cases hm
      | cons m ms =>
        cases hm
        simp only [List.length_cons] at hn
        have st : Sm total := sm_of (by omega)
        refine ⟨_, [some (.dat (.slst (ns.map D.int))), some (.dat (.int ((total * 1019 + m) % 2147483629))), some (.own ((cs ++ [if 0 ≤ m then m else -m]).map D.int)), some (.dat (.int m))], rfl, .inl ?_, _, _, _, rfl, ⟨ms, rfl, ?_⟩, ?_, ?_, ?_⟩
        · by_cases hm : 0 ≤ m <;> simp [mulD_s, st, modI_int, szS_lt (xs := cs.map D.int) (by simp; omega), hm]
        · simp; omega
        · omega
        · omega
        · intro x hx
          rw [List.mem_append] at hx
          rcases hx with hx | hx
          · exact hc x hx
          · simp at hx; subst hx; split <;> omega) (ns.map D.int) [some (.dat (.slst (ns.map D.int))), some (.dat (.int (ns.length + 31))), some (.own []), none]
    ⟨ns.length + 31, [], none, rfl, ⟨ns, rfl, by simp⟩, by omega, by omega, fun x hx => nomatch hx⟩
  refine ⟨[.lst (cs.map .int), .int 0, .int 0, .int total], ⟨cs, 0, 0, total, rfl, h4, ?_, by omega, by omega, by omega, h2, h3⟩, ?_⟩
  · obtain ⟨ms, _, hn⟩ := h1; omega
  · subst eρ
    simp [g__law_hand, s_For, e]
theorem count_ok {h : List D} (hh : HandOk h) : ∃ (n : Nat) (h' : List D), 1 ≤ n ∧ n ≤ 24 ∧ HandOk h' ∧ m__law_count [.par 0 (.lst h)] = .ok (.int n) (some (.lst h')) := by
  unfold m__law_count
  rw [mk_out]
  obtain ⟨r1, h1, a1, b1, hh1, e1⟩ := take_ok (m := 8) hh (by decide) (by simp)
  obtain ⟨r2, h2, a2, b2, hh2, e2⟩ := take_ok (m := 13) hh1 (by decide) (by simp)
  obtain ⟨r3, h3, a3, b3, hh3, e3⟩ := take_ok (m := 8) hh1 (by decide) (by simp)
  by_cases c : r1 = 7
  · refine ⟨(12 + r2).toNat, h2, by omega, by omega, hh2, ?_⟩
    simp [g__law_count, e1, e2, c]
    omega
  · refine ⟨(1 + r3).toNat, h3, by omega, by omega, hh3, ?_⟩
    simp [g__law_count, e1, e3, c]
    omega
end K34

set_option Elab.async false
set_option linter.all false
set_option maxRecDepth 100000
set_option autoImplicit false
namespace K34
open PySem PySem.Spec PyProof.Rows L2 DL
theorem is_whole_nn {i : Int} : m_is_whole [.dat (.int i), .dat .non, .dat .non] = .ok (.bl true) none := by
  unfold m_is_whole
  rw [mk_out]
  simp [g_is_whole]
theorem is_whole_ln {i lo : Int} : m_is_whole [.dat (.int i), .dat (.int lo), .dat .non] = .ok (.bl (decide (lo ≤ i))) none := by
  unfold m_is_whole
  rw [mk_out]
  simp [g_is_whole]
  by_cases h : lo ≤ i <;> simp [h]
theorem is_whole_3 {i lo hi : Int} : m_is_whole [.dat (.int i), .dat (.int lo), .dat (.int hi)] = .ok (.bl (decide (lo ≤ i) && decide (i ≤ hi))) none := by
  unfold m_is_whole
  rw [mk_out]
  simp [g_is_whole]
  by_cases h : lo ≤ i <;> simp [h]
theorem is_whole_no {d lo hi : D} (h : noInt d = true) : m_is_whole [.dat d, .dat lo, .dat hi] = .ok (.bl false) none := by
  unfold m_is_whole
  rw [mk_out]
  cases d <;> first | (simp [noInt] at h; done) | (simp [g_is_whole]; done)
theorem gcd_ok {a : Int} {b : Nat} : m__law_gcd [.dat (.int a), .dat (.int b)] = .ok (.int ((Nat.gcd a.natAbs b : Nat) : Int)) none := by
  unfold m__law_gcd
  rw [mk_out]
  have e : (if a < 0 then -a else a) = ((a.natAbs : Nat) : Int) := by split <;> omega
  have e2 : (if (b : Int) < 0 then -(b : Int) else b) = ((b : Nat) : Int) := by split <;> omega
  have w := gcd_while (cf := fTru (fVar 1)) (body := gPar 0 1 (fCons (fVar 1) (fCons (f2 modI (fB int1D (fCons (fVar 0) fNil)) (fVar 1)) fNil))) (fun a b => by by_cases h : b = 0 <;> simp [h]) (fun a b hb => by
    simp [modI_int (show (0 : Int) < b by omega)]) (a.natAbs + 2 + (b + 2)) a.natAbs b (by omega)
  simp [g__law_gcd, e, e2, s_While, size1, w]
theorem lratio_ok {a : Int} {b n : Nat} (hb : b ≠ 0) (h : b < 2 ^ n) (hn : n ≤ 9000) : m__law_ratio [.dat (.int a), .dat (.int (b : Int))] = .ok (rD (mkRat a b)) none := by
  unfold m__law_ratio
  rw [mk_out]
  obtain ⟨e1, e2⟩ := low_ok (a := a) hb h hn
  have h0 : ¬ (b : Int) < 0 := by omega
  simp [g__law_ratio, gcd_ok, h0, e1, e2, rD]
theorem lratio_ok2 {a : Int} {b c n : Nat} (hb : b * c ≠ 0) (h : b * c < 2 ^ n) (hn : n ≤ 9000) : m__law_ratio [.dat (.int a), .dat (.int ((b : Int) * (c : Int)))] = .ok (rD (mkRat a (b * c))) none := by
  rw [← Int.natCast_mul]
  exact lratio_ok hb h hn
section
variable {m n : Nat} {p q : Rat}
theorem mnn (hp : Bd m p) (hq : Bd n q) (hm : m ≤ 60000000) (hn : n ≤ 60000000) : mulD (.int p.num) (.int q.num) = some (.int (p.num * q.num)) := mulD_b hp.1 hq.1 hm hn
theorem mnd (hp : Bd m p) (hq : Bd n q) (hm : m ≤ 60000000) (hn : n ≤ 60000000) : mulD (.int p.num) (.int (q.den : Nat)) = some (.int (p.num * (q.den : Nat))) := mulD_b hp.1 (j := (q.den : Nat)) hq.2 hm hn
theorem mdd (hp : Bd m p) (hq : Bd n q) (hm : m ≤ 60000000) (hn : n ≤ 60000000) : mulD (.int (p.den : Nat)) (.int (q.den : Nat)) = some (.int ((p.den : Nat) * (q.den : Nat))) := mulD_b (i := (p.den : Nat)) hp.2 (j := (q.den : Nat)) hq.2 hm hn
theorem dmul (hp : Bd m p) (hq : Bd n q) : p.den * q.den < 2 ^ (m + n) := by
  rw [Nat.pow_add]
  exact Nat.mul_lt_mul'' hp.2 hq.2
theorem lplus_ok (hp : Bd m p) (hq : Bd n q) (h : m + n ≤ 9000) : m__law_plus [.dat (rD p), .dat (rD q)] = .ok (rD (p + q)) none := by
  unfold m__law_plus
  rw [mk_out, Rat.add_def']
  simp [g__law_plus, mnd hp hq (by omega) (by omega), mnd hq hp (by omega) (by omega), mdd hp hq (by omega) (by omega), lratio_ok2 (Nat.mul_ne_zero p.den_nz q.den_nz) (dmul hp hq) h]
theorem ltimes_ok (hp : Bd m p) (hq : Bd n q) (h : m + n ≤ 9000) : m__law_times [.dat (rD p), .dat (rD q)] = .ok (rD (p * q)) none := by
  unfold m__law_times
  rw [mk_out, Rat.mul_def']
  simp [g__law_times, mnn hp hq (by omega) (by omega), mdd hp hq (by omega) (by omega), lratio_ok2 (Nat.mul_ne_zero p.den_nz q.den_nz) (dmul hp hq) h]
end
theorem lis_ratio_ok {d : D} {k : Nat} (h : good k d = true) : m__law_is_ratio [.dat d] = .ok (.bl (ratB d)) none := by
  unfold m__law_is_ratio
  rw [mk_out]
  cases d with
  | tup xs =>
    match xs, h with
    | [], _ => simp [g__law_is_ratio, ratB]
    | [a], _ => simp [g__law_is_ratio, ratB]
    | a :: b :: c :: r, _ =>
      have : ¬ ((r.length : Int) + 1 + 1 + 1 = 2) := by omega
      simp [g__law_is_ratio, ratB, this]
    | [a, b], h =>
      cases k with
      | zero => simp [good] at h
      | succ k =>
        simp at h
        rcases no_int h.1 with ⟨i, rfl⟩ | ha
        · rcases no_int h.2 with ⟨j, rfl⟩ | hb
          · by_cases h1 : 0 < j
            · have hj : j = ((j.toNat : Nat) : Int) := by omega
              have hn : j.natAbs = j.toNat := by omega
              have gc := gcd_ok (a := i) (b := j.toNat)
              rw [← hj] at gc
              simp [g__law_is_ratio, ratB, s_For, forL_c, forL_nil, ixD_t, h1, gc, hn, show ((Nat.gcd i.natAbs j.toNat : Nat) : Int) = 1 ↔ Nat.gcd i.natAbs j.toNat = 1 by omega]
            · simp [g__law_is_ratio, ratB, s_For, forL_c, forL_nil, ixD_t, h1]
          · cases b <;> first | (simp [noInt] at hb; done) | (simp [g__law_is_ratio, ratB, s_For, forL_c, forL_nil]; done)
        · cases a <;> first | (simp [noInt] at ha; done) | (simp [g__law_is_ratio, ratB, s_For, forL_c, forL_nil]; done)
  | ins _ _ => simp [good] at h
  | _ => simp [g__law_is_ratio, ratB]
end K34

set_option Elab.async false
set_option linter.all false
set_option maxRecDepth 100000
set_option autoImplicit false
namespace K34
open PySem PySem.Spec PyProof.Rows L2 DL
/-- words -/
def Sg (w : List Int) : Prop := ∀ x ∈ w, x = 1 ∨ x = -1
def IsW (w : List Int) (n : Nat) : Prop := w.length = n ∧ Sg w ∧ w.head? = some 1
theorem word_ok {h : List D} {n : Nat} (hh : HandOk h) (n1 : 1 ≤ n) (n2 : n ≤ 24) : ∃ w h', IsW w n ∧ HandOk h' ∧ m__law_word [.par 0 (.lst h), .dat (.int n)] = .ok (ti w) (some (.lst h')) := by
  unfold m__law_word
  rw [mk_out]
  obtain ⟨ρ', e, h', w, last, eρ, h1, h2, h3, h4⟩ := for_inv (t := tgName 3) (g := (gApp 2 (f2 subI (fC (.int 1)) (f2 mulD (fC (.int 2)) (fCallM 2 m__law_take 0 (fCons (fC (.int 2)) fNil))))))
    (fun rest ρ => ∃ (h' : List D) (w : List Int) (last : Option Slot), ρ = [some (.par 0 (.lst h')), some (.dat (.int n)), some (.own (w.map .int)), last] ∧ (∃ ms : List Int, rest = ms.map D.int ∧ w.length + ms.length = n) ∧ HandOk h' ∧ Sg w ∧ w.head? = some 1)
    (fun d ds ρ h => by
      obtain ⟨h', w, last, rfl, ⟨ms, hm, hn⟩, hh, hs, h0⟩ := h
      cases ms with
      | nil => cases hm
      | cons m ms =>
        cases hm
        simp only [List.length_cons] at hn
        obtain ⟨r, h2, r0, r1, hh2, et⟩ := take_ok (m := 2) hh (by decide) (by simp)
        have sr : Sm r := sm_of (by omega)
        refine ⟨_, [some (.par 0 (.lst h2)), some (.dat (.int n)), some (.own ((w ++ [1 - 2 * r]).map D.int)), some (.dat (.int m))], rfl, .inl ?_, _, _, _, rfl, ⟨ms, rfl, ?_⟩, hh2, ?_, ?_⟩
        · simp [mulD_s, sr, et, szS_lt (xs := w.map D.int) (by simp; omega)]
        · simp; omega
        · intro x hx
          rw [List.mem_append] at hx
          rcases hx with hx | hx
          · exact hs x hx
          · simp at hx; omega
        · cases w with
          | nil => cases h0
          | cons a w => exact h0) ((List.range (n - 1)).map fun k => D.int (1 + (k : Nat) : Int)) [some (.par 0 (.lst h)), some (.dat (.int n)), some (.own [.int 1]), none]
    ⟨h, [1], none, rfl, ⟨(List.range (n - 1)).map fun k => (1 + (k : Nat) : Int), by rw [List.map_map]; rfl, by simp; omega⟩, hh, fun x hx => .inl (by simpa using hx), rfl⟩
  refine ⟨w, h', ⟨?_, h3, h4⟩, h2, ?_⟩
  · obtain ⟨ms, hm, hn⟩ := h1
    cases ms with
    | nil => simpa using hn
    | cons _ _ => cases hm
  · subst eρ
    simp [g__law_word, s_For, range2_int (m := 1) (n := n) (by omega), e]
    rfl
theorem is_row_seq {d : D} {ds : List D} {lo hi : Int} (h : seqOf d = some ds) : m_is_row [.dat d, .dat (.int lo), .dat (.int hi)] = .ok (.bl (decide (lo ≤ ds.length) && decide ((ds.length : Int) ≤ hi))) none := by
  unfold m_is_row
  rw [mk_out]
  cases d <;> cases h <;> (simp [g_is_row]; by_cases h : lo ≤ ds.length <;> simp [h])
theorem is_row_no {lo hi : Int} : m_is_row [.dat .non, .dat (.int lo), .dat (.int hi)] = .ok (.bl false) none := by
  unfold m_is_row
  rw [mk_out]
  simp [g_is_row]
def eW (i : Int) (s : Str) : FR := .err "BadWord" [("index", .int i), ("what", .str s)] none
/-- no sign -/
def NoS (d : D) : Prop := d = .int 0 ∨ m_is_whole [.dat d, .dat (.int (-1)), .dat (.int 1)] = .ok (.bl false) none
theorem loop_ok {d0 lo hi : D} : ∀ (w : List Int) (k : Nat) (rest : List D) (s3 s4 : Option Slot), Sg w → ∃ t3 t4, forL (tgTup 2 (tgCons (tgName 3) (tgCons (tgName 4) tgNil))) (gIf (fOr (fNot (fTru (fCall 3 m_is_whole [] (fCons (fVar 4) (fCons (f1 negI (fC (.int 1))) (fCons (fC (.int 1)) fNil)))))) (t2 eqD (fVar 4) (fC (.int 0)))) (gRaise "BadWord" ["index", "what"] (fCons (fVar 3) (fCons (fC (.str "sign")) fNil))) gNx)
    (enumF k (w.map .int ++ rest)) [some (.dat d0), some (.dat lo), some (.dat hi), s3, s4] = forL (tgTup 2 (tgCons (tgName 3) (tgCons (tgName 4) tgNil))) (gIf (fOr (fNot (fTru (fCall 3 m_is_whole [] (fCons (fVar 4) (fCons (f1 negI (fC (.int 1))) (fCons (fC (.int 1)) fNil)))))) (t2 eqD (fVar 4) (fC (.int 0)))) (gRaise "BadWord" ["index", "what"] (fCons (fVar 3) (fCons (fC (.str "sign")) fNil))) gNx)
    (enumF (k + w.length) rest) [some (.dat d0), some (.dat lo), some (.dat hi), t3, t4] := by
  intro w
  induction w with
  | nil => intro k rest s3 s4 _; exact ⟨s3, s4, rfl⟩
  | cons x w ih =>
    intro k rest s3 s4 h
    obtain ⟨t3, t4, e⟩ := ih (k + 1) rest (some (.dat (.int k))) (some (.dat (.int x))) fun y hy => h y (List.mem_cons_of_mem _ hy)
    refine ⟨t3, t4, ?_⟩
    rw [List.map_cons, List.cons_append, enumF, forL_cons (by simp; rfl)]
    rw [List.length_cons, show k + (w.length + 1) = k + 1 + w.length by omega, ← e]
    rcases h x List.mem_cons_self with hx | hx <;> subst hx <;> simp [is_whole_3]
theorem row_ok {d : D} {w : List Int} {lo hi : Int} (h : seqOf d = some (w.map .int)) (hw : Sg w) (l1 : lo ≤ w.length) (l2 : (w.length : Int) ≤ hi) : m__check_sign_row [.dat d, .dat (.int lo), .dat (.int hi)] = .ok (ti w) none := by
  unfold m__check_sign_row
  rw [mk_out]
  obtain ⟨t3, t4, e⟩ := loop_ok (d0 := d) (lo := .int lo) (hi := .int hi) w 0 [] none none hw
  rw [List.append_nil, enumF, forL_nil] at e
  simp [g__check_sign_row, is_row_seq h, l1, l2, s_For, enum1_at h, e]
  cases d <;> cases h <;> rfl
theorem row_bad {d b : D} {w : List Int} {rest : List D} {lo hi : Int} (h : seqOf d = some (w.map .int ++ b :: rest)) (hw : Sg w) (hb : NoS b) (l1 : lo ≤ w.length + 1 + rest.length) (l2 : (w.length : Int) + 1 + rest.length ≤ hi) : m__check_sign_row [.dat d, .dat (.int lo), .dat (.int hi)] = eW w.length "sign" := by
  unfold m__check_sign_row eW
  rw [mk_out]
  obtain ⟨t3, t4, e⟩ := loop_ok (d0 := d) (lo := .int lo) (hi := .int hi) w 0 (b :: rest) none none hw
  rw [enumF, forL_cons (by simp; rfl), Nat.zero_add] at e
  have l1' : lo ≤ (w.length : Int) + ((rest.length : Int) + 1) := by omega
  have l2' : (w.length : Int) + ((rest.length : Int) + 1) ≤ hi := by omega
  simp [g__check_sign_row, is_row_seq h, l1', l2', s_For, enum1_at h, e]
  rcases hb with hb | hb
  · subst hb
    simp [is_whole_3]
  · simp [hb]
theorem row_many {d : D} {ds : List D} {lo hi : Int} (h : seqOf d = some ds) (l : ¬ (lo ≤ ds.length ∧ (ds.length : Int) ≤ hi)) : m__check_sign_row [.dat d, .dat (.int lo), .dat (.int hi)] = eW 0 "many" := by
  unfold m__check_sign_row eW
  rw [mk_out]
  have e : m_is_row [.dat d, .dat (.int lo), .dat (.int hi)] = .ok (.bl false) none := by
    rw [is_row_seq h]
    by_cases h1 : lo ≤ ds.length
    · have h2 : ¬ (ds.length : Int) ≤ hi := fun h2 => l ⟨h1, h2⟩
      rw [decide_eq_true h1, decide_eq_false h2]
      rfl
    · rw [decide_eq_false h1]
      rfl
  simp [g__check_sign_row, e]
theorem row_none {lo hi : Int} : m__check_sign_row [.dat .non, .dat (.int lo), .dat (.int hi)] = eW 0 "many" := by
  unfold m__check_sign_row eW
  rw [mk_out]
  simp [g__check_sign_row, is_row_no]
theorem first_ok {x : Int} {w : List Int} (h : x ≠ -1) : m__check_first [.dat (ti (x :: w))] = .ok (ti (x :: w)) none := by
  unfold m__check_first
  rw [mk_out]
  simp [g__check_first, ti, ixD_t, h]
theorem first_bad {w : List Int} : m__check_first [.dat (ti (-1 :: w))] = eW 0 "first" := by
  unfold m__check_first eW
  rw [mk_out]
  simp [g__check_first, ti, ixD_t]
theorem signs_ok {d : D} {w : List Int} {n : Nat} (h : seqOf d = some (w.map .int)) (hw : IsW w n) (n1 : 1 ≤ n) (n2 : n ≤ 24) : m_check_signs [.dat d] = .ok (ti w) none := by
  obtain ⟨hn, hs, h0⟩ := hw
  unfold m_check_signs
  rw [mk_out]
  cases w with
  | nil => cases h0
  | cons x w =>
    cases h0
    simp [g_check_signs, row_ok (lo := 1) (hi := 24) h hs (by omega) (by omega), first_ok (x := 1) (w := w) (by decide)]
theorem signs_bad {d b : D} {w : List Int} {rest : List D} (h : seqOf d = some (w.map .int ++ b :: rest)) (hw : Sg w) (hb : NoS b) (l : w.length + rest.length ≤ 23) : m_check_signs [.dat d] = eW w.length "sign" := by
  unfold m_check_signs
  rw [mk_out]
  simp [g_check_signs, row_bad h hw hb (lo := 1) (hi := 24) (by omega) (by omega), eW]
theorem signs_first {d : D} {w : List Int} (h : seqOf d = some ((-1 :: w).map .int)) (hw : Sg w) (l : w.length ≤ 23) : m_check_signs [.dat d] = eW 0 "first" := by
  unfold m_check_signs
  rw [mk_out]
  have e := row_ok (lo := 1) (hi := 24) h (fun x hx => by rcases List.mem_cons.mp hx with hx | hx; exact .inr hx; exact hw x hx) (by simp; omega) (by simp; omega)
  simp [g_check_signs, e, first_bad, eW]
theorem signs_none : m_check_signs [.dat .non] = eW 0 "many" := by
  unfold m_check_signs
  rw [mk_out]
  simp [g_check_signs, row_none, eW]
theorem signs_long {d : D} {ds : List D} (h : seqOf d = some ds) (l : 24 < ds.length) : m_check_signs [.dat d] = eW 0 "many" := by
  unfold m_check_signs
  rw [mk_out]
  simp [g_check_signs, row_many (lo := 1) (hi := 24) h (by omega), eW]
theorem tup_ints {ys : List Int} : D.tup (ys.map D.int) = ti ys := rfl
theorem sg_at {w : List Int} (h : Sg w) {k : Nat} (hk : k < w.length) : w[k] = 1 ∨ w[k] = -1 := h _ (List.getElem_mem hk)
theorem ixD_ti {w : List Int} {k : Nat} (hk : k < w.length) : ixD (ti w) (.int k) = some (.int w[k]) := by
  unfold ti
  rw [ixD_t, atI_nat (by simpa using hk), List.getElem?_map, List.getElem?_eq_getElem hk]
  rfl
@[simp] theorem seqOf_ti {w : List Int} : seqOf (ti w) = some (w.map .int) := (rfl)
@[simp] theorem items_ti {w : List Int} : items (ti w) = some (w.map .int) := (rfl)
def negW (w : List Int) : List Int := w.map fun x => -x
theorem neg_lc {ρ : En} {i j : Nat} {w : List Int} (hj : ρ[j]? = some (some (.dat (ti w)))) (hi : i < ρ.length) (hn : noMu [i] ρ = true) (hl : w.length ≤ 1000000) : fLc (fIt (fVar j)) [i] (tgName i) fYes (f1 negI (fVar i)) ρ = .ok ((negW w).map .int) ρ := by
  have h := lc_all (it := fIt (fVar j)) (vs := [i]) (t := tgName i) (te := f1 negI (fVar i)) (ρ := ρ) (ρ1 := ρ) D.int (fun x => .int (-x)) w (by simp [hj]) hn hl fun x hx =>
    ⟨ρ.set i (some (.dat (.int x))), by simp, by simp [List.getElem?_set_self hi], by simp⟩
  rw [h]
  unfold negW
  rw [List.map_map]
  rfl
theorem negW_sg {w : List Int} (h : Sg w) : Sg (negW w) := by
  intro x hx
  unfold negW at hx
  rw [List.mem_map] at hx
  obtain ⟨y, hy, rfl⟩ := hx
  rcases h y hy with e | e <;> subst e <;> simp
theorem isW_app {w v : List Int} {n m : Nat} (h : IsW w n) (h2 : Sg v) (hv : v.length = m) : IsW (w ++ v) (n + m) := by
  obtain ⟨a, b, c⟩ := h
  refine ⟨by rw [List.length_append, a, hv], fun x hx => ?_, ?_⟩
  · rcases List.mem_append.mp hx with hx | hx
    · exact b x hx
    · exact h2 x hx
  · cases w with
    | nil => cases c
    | cons x w => exact c
theorem add_ti {w v : List Int} (h : w.length + v.length ≤ 1000000) : addD (ti w) (ti v) = some (ti (w ++ v)) := by
  unfold ti
  rw [addD_tup (by simpa using h), List.map_append]
theorem built_ok {h : List D} {n : Nat} (hh : HandOk h) (n1 : 1 ≤ n) (n2 : n ≤ 24) : ∃ w h', IsW w n ∧ HandOk h' ∧ m__law_built [.par 0 (.lst h), .dat (.int n)] = .ok (ti w) (some (.lst h')) := by
  unfold m__law_built
  rw [mk_out]
  have m2 : modI (.int n) (.int 2) = some (.int (n % 2 : Nat)) := by rw [modI_int (by decide)]; simp
  have m4 : modI (.int n) (.int 4) = some (.int (n % 4 : Nat)) := by rw [modI_int (by decide)]; simp
  have d2 : fdvI (.int n) (.int 2) = some (.int (n / 2 : Nat)) := by rw [fdvI_s (by decide) (by simp)]; simp
  have d4 : fdvI (.int n) (.int 4) = some (.int (n / 4 : Nat)) := by rw [fdvI_s (by decide) (by simp)]; simp
  have ti2 : ∀ w : List Int, lenD [ti w] = some (.int w.length) := fun w => by simp [ti]
  by_cases c1 : (n : Int) < 2
  · obtain ⟨w, h', hw, hh', e⟩ := word_ok hh n1 n2
    exact ⟨w, h', hw, hh', by simp [g__law_built, c1, e]⟩
  by_cases c2 : (n : Int) % 2 = 0
  case neg =>
    obtain ⟨w, h', hw, hh', e⟩ := word_ok hh n1 n2
    exact ⟨w, h', hw, hh', by simp [g__law_built, c1, e, m2, c2]⟩
  obtain ⟨r, h1, r0, r1, hh1, et⟩ := take_ok (m := 2) hh (by decide) (by simp)
  by_cases c3 : r = 0
  case neg =>
    obtain ⟨w, h', hw, hh', e⟩ := word_ok hh1 n1 n2
    exact ⟨w, h', hw, hh', by simp [g__law_built, c1, e, m2, c2, et, c3]⟩
  subst c3
  obtain ⟨v, h2, hv, hh2, ev⟩ := word_ok (n := n / 2) hh1 (by omega) (by omega)
  push_cast at ev
  -- behind the half: the same end for both
  have fin : ∀ (u : List Int) (q : Option Slot) (h3 : List D), IsW u (n / 2) → HandOk h3 → (∀ k c, q ≠ some (.par k c)) → (∀ c, q ≠ some (.own c)) → ∃ w h', IsW w n ∧ HandOk h' ∧ outS true ((gSeq (gSet 4 (fCallM 2 m__law_take 0 (fCons (fC (.int 3)) fNil)))
    (gSeq (gIf (t2 eqD (fVar 4) (fC (.int 0))) (gRet (f2 addD (fVar 2) (fB tupleD (fCons (fOfL (fLc (fIt (fVar 2)) [5] (tgName 5) fYes (f1 negI (fVar 5)))) fNil)))) gNx)
    (gSeq (gIf (t2 eqD (fVar 4) (fC (.int 1))) (gRet (fB tupleD (fCons (fOfL (fLc (fRange1 (fCons (fVar 1) fNil)) [6] (tgName 6) fYes (f2 mulD (f2 ixD (fVar 2) (f2 fdvI (fVar 6) (fC (.int 2)))) (f2 subI (fC (.int 1)) (f2 mulD (fC (.int 2)) (f2 modI (fB int1D (fCons (fVar 6) fNil)) (fC (.int 2)))))))) fNil))) gNx)
    (gRet (f2 addD (fVar 2) (fB tupleD (fCons (fOfL (fLc (fRange1 (fCons (fB lenD (fCons (fVar 2) fNil)) fNil)) [6] (tgName 6) fYes (f2 mulD (f2 mulD (f2 ixD (fVar 2) (f2 subI (f2 subI (fB lenD (fCons (fVar 2) fNil)) (fC (.int 1))) (fVar 6))) (f2 subI (fC (.int 1)) (f2 mulD (fC (.int 2)) (fCallM 2 m__law_take 0 (fCons (fC (.int 2)) fNil))))) (f2 ixD (fVar 2) (fC (.int 0)))))) fNil))))))) [some (.par 0 (.lst h3)), some (.dat (.int n)), some (.dat (ti u)), q, none, none, none]) = .ok (ti w) (some (.lst h')) := by
    intro u q h3 hu hh3 hq hq2
    obtain ⟨p, h4, p0, p1, hh4, ep⟩ := take_ok (m := 3) hh3 (by decide) (by simp)
    have lu := hu.1
    have u0 : ixD (ti u) (.int 0) = some (.int 1) := by
      have := ixD_ti (w := u) (k := 0) (by omega)
      have c := hu.2.2
      rw [List.head?_eq_getElem?, List.getElem?_eq_getElem (by omega)] at c
      rw [show (0 : Int) = ((0 : Nat) : Int) from rfl, this, Option.some.inj c]
    by_cases p2 : p = 0
    · subst p2
      have hl := neg_lc (ρ := [some (.par 0 (.lst h4)), some (.dat (.int n)), some (.dat (ti u)), q, some (.dat (.int 0)), none, none]) (i := 5) (j := 2) (w := u) rfl (by simp) rfl (by omega)
      refine ⟨u ++ negW u, h4, ?_, hh4, ?_⟩
      · have := isW_app hu (negW_sg hu.2.1) (m := n / 2) (by unfold negW; simp [lu])
        rw [show n / 2 + n / 2 = n by omega] at this
        exact this
      · simp [ep, hl, tup_ints, add_ti (w := u) (v := negW u) (by unfold negW; simp; omega)]
    by_cases p3 : p = 1
    · subst p3
      have hl := lc_all (it := fRange1 (fCons (fVar 1) fNil)) (vs := [6]) (t := tgName 6) (te := f2 mulD (f2 ixD (fVar 2) (f2 fdvI (fVar 6) (fC (.int 2)))) (f2 subI (fC (.int 1)) (f2 mulD (fC (.int 2)) (f2 modI (fB int1D (fCons (fVar 6) fNil)) (fC (.int 2)))))) (ρ := [some (.par 0 (.lst h4)), some (.dat (.int n)), some (.dat (ti u)), q, some (.dat (.int 1)), none, none]) (ρ1 := [some (.par 0 (.lst h4)), some (.dat (.int n)), some (.dat (ti u)), q, some (.dat (.int 1)), none, none])
        (fun k : Nat => .int (k : Nat)) (fun k => .int ((u[k / 2]?.getD 0) * (1 - 2 * ((k % 2 : Nat) : Int)))) (List.range n) (by simp [range1_nat (n := n) (by omega)]) rfl (by simp; omega) fun k hk => by
          rw [List.mem_range] at hk
          have e1 := ixD_ti (w := u) (k := k / 2) (by omega)
          have e2 : fdvI (.int k) (.int 2) = some (.int (k / 2 : Nat)) := by rw [fdvI_s (by decide) (by simp)]; simp
          have e3 : modI (.int k) (.int 2) = some (.int (k % 2 : Nat)) := by rw [modI_int (by decide)]; simp
          have s1 : Sm u[k / 2] := by rcases sg_at hu.2.1 (show k / 2 < u.length by omega) with h | h <;> rw [h] <;> simp
          have s3 : Sm ((k % 2 : Nat) : Int) := sm_of (by omega)
          have s2 : Sm (1 - 2 * ((k % 2 : Nat) : Int)) := sm_of (by omega)
          have e4 : mulD (.int 2) (.int ((k % 2 : Nat) : Int)) = some (.int (2 * ((k % 2 : Nat) : Int))) := mulD_s (by simp) s3
          have e5 : mulD (.int u[k / 2]) (.int (1 - 2 * ((k % 2 : Nat) : Int))) = some (.int (u[k / 2] * (1 - 2 * ((k % 2 : Nat) : Int)))) := mulD_s s1 s2
          refine ⟨[some (.par 0 (.lst h4)), some (.dat (.int n)), some (.dat (ti u)), q, some (.dat (.int 1)), none, some (.dat (.int k))], rfl, ?_, rfl⟩
          rw [List.getElem?_eq_getElem (show k / 2 < u.length by omega), Option.getD_some, e_f2]
          simp only [e_f2, e_var, List.getElem?_cons_zero, List.getElem?_cons_succ, rdS_dat, bind_ok, bnd_ok, e_C, e2, of_some, e1, e_B, e_Cons, e_Nil, int1D_int, e3, e4, subI_int, e5]
      have hw : (List.range n).map (fun k => D.int ((u[k / 2]?.getD 0) * (1 - 2 * ((k % 2 : Nat) : Int)))) = ((List.range n).map (fun k => ((u[k / 2]?.getD 0) * (1 - 2 * ((k % 2 : Nat) : Int)) : Int))).map .int := by rw [List.map_map]; rfl
      rw [hw] at hl
      obtain ⟨W, hW⟩ : ∃ W, W = (List.range n).map (fun k => ((u[k / 2]?.getD 0) * (1 - 2 * ((k % 2 : Nat) : Int)) : Int)) := ⟨_, rfl⟩
      rw [← hW] at hl
      refine ⟨W, h4, ?_, hh4, by simp [ep, hl, tup_ints]⟩
      subst hW
      refine ⟨?_, ?_, ?_⟩
      · simp
      · intro x hx
        rw [List.mem_map] at hx
        obtain ⟨k, hk, rfl⟩ := hx
        rw [List.mem_range] at hk
        rw [List.getElem?_eq_getElem (show k / 2 < u.length by omega), Option.getD_some]
        rcases sg_at hu.2.1 (show k / 2 < u.length by omega) with h | h <;> rw [h] <;> omega
      · obtain ⟨m, rfl⟩ : ∃ m, n = m + 1 := ⟨n - 1, by omega⟩
        rw [List.range_succ_eq_map, List.map_cons, List.head?_cons]
        have c := hu.2.2
        rw [List.head?_eq_getElem?] at c
        simp [c]
    · obtain ⟨acc, ρb, el, h5, ws, hacc, hρ, hh5, hs, hlen⟩ := lc_inv (it := fRange1 (fCons (fB lenD (fCons (fVar 2) fNil)) fNil)) (vs := [6]) (t := tgName 6) (tt := fYes) (te := f2 mulD (f2 mulD (f2 ixD (fVar 2) (f2 subI (f2 subI (fB lenD (fCons (fVar 2) fNil)) (fC (.int 1))) (fVar 6))) (f2 subI (fC (.int 1)) (f2 mulD (fC (.int 2)) (fCallM 2 m__law_take 0 (fCons (fC (.int 2)) fNil))))) (f2 ixD (fVar 2) (fC (.int 0)))) (ρ := [some (.par 0 (.lst h4)), some (.dat (.int n)), some (.dat (ti u)), q, some (.dat (.int p)), none, none]) (ρ1 := [some (.par 0 (.lst h4)), some (.dat (.int n)), some (.dat (ti u)), q, some (.dat (.int p)), none, none])
        (fun k : Nat => .int (k : Nat)) (fun (rest : List Nat) acc ρ => ∃ (h5 : List D) (ws : List Int), acc = ws.map .int ∧ ρ = [some (.par 0 (.lst h5)), some (.dat (.int n)), some (.dat (ti u)), q, some (.dat (.int p)), none, none] ∧ HandOk h5 ∧ Sg ws ∧ ws.length + rest.length = n / 2 ∧ ∀ k ∈ rest, k < n / 2)
        (List.range (n / 2)) (by simp [ti2, lu]; exact range1_nat (n := n / 2) (by omega)) rfl (by simp; omega) ⟨h4, [], rfl, rfl, hh4, (fun x hx => by cases hx), by simp, fun k hk => List.mem_range.mp hk⟩ fun k rest acc ρ hI => by
          obtain ⟨h5, ws, rfl, rfl, hh5, hs, hlen, hk⟩ := hI
          obtain ⟨r, h6, r0, r1, hh6, er⟩ := take_ok (m := 2) hh5 (by decide) (by simp)
          have kk := hk k List.mem_cons_self
          have e1 := ixD_ti (w := u) (k := n / 2 - 1 - k) (by omega)
          have eix : ((n / 2 : Nat) : Int) - 1 - k = ((n / 2 - 1 - k : Nat) : Int) := by omega
          have sg := sg_at hu.2.1 (show n / 2 - 1 - k < u.length by omega)
          generalize u[n / 2 - 1 - k]'(by omega) = y at e1 sg
          have sy : Sm y := by rcases sg with h | h <;> rw [h] <;> simp
          have sr : Sm r := sm_of (by omega)
          have s2 : Sm (1 - 2 * r) := sm_of (by omega)
          have yr : y * (1 - 2 * r) = 1 ∨ y * (1 - 2 * r) = -1 := by rcases sg with h | h <;> subst h <;> omega
          have s3 : Sm (y * (1 - 2 * r)) := by rcases yr with h | h <;> rw [h] <;> simp
          refine ⟨[some (.par 0 (.lst h5)), some (.dat (.int n)), some (.dat (ti u)), q, some (.dat (.int p)), none, some (.dat (.int k))], true, _, rfl, rfl, fun _ => ⟨.int (y * (1 - 2 * r)), [some (.par 0 (.lst h6)), some (.dat (.int n)), some (.dat (ti u)), q, some (.dat (.int p)), none, some (.dat (.int k))], ?_, h6, ws ++ [y * (1 - 2 * r)], by simp, rfl, hh6, ?_, ?_, fun j hj => hk j (List.mem_cons_of_mem _ hj)⟩, fun h => nomatch h⟩
          · simp only [e_f2, e_var, List.getElem?_cons_zero, List.getElem?_cons_succ, rdS_dat, bind_ok, bnd_ok, e_C, ti2, lu, of_some, e_B, e_Cons, e_Nil, subI_int, eix, e1, e_callM, listO_par, List.length_cons, List.length_nil, Nat.zero_add, if_pos rfl, List.map_cons, List.map_nil, er, callM_ok, e_put2, e_slotPut, put_par, okO_some, List.set_cons_zero, mulD_s (sm_lit.mpr (by decide) : Sm 2) sr, mulD_s sy s2, u0, mulD_s s3 sm_one, Int.mul_one, ite_true]
          · intro x hx
            rcases List.mem_append.mp hx with hx | hx
            · exact hs x hx
            · simp at hx; subst hx; exact yr
          · simp only [List.length_append, List.length_cons, List.length_nil] at hlen ⊢; omega
      subst hacc hρ
      have hb : backE [6] [some (.par 0 (.lst h4)), some (.dat (.int n)), some (.dat (ti u)), q, some (.dat (.int p)), none, none] [some (.par 0 (.lst h5)), some (.dat (.int n)), some (.dat (ti u)), q, some (.dat (.int p)), none, none] = [some (.par 0 (.lst h5)), some (.dat (.int n)), some (.dat (ti u)), q, some (.dat (.int p)), none, none] := rfl
      rw [hb] at el
      simp only [List.length_nil, Nat.add_zero] at hlen
      refine ⟨u ++ ws, h5, ?_, hh5, ?_⟩
      · have := isW_app hu hs hlen.1
        rw [show n / 2 + n / 2 = n by omega] at this
        exact this
      · simp [ep, p2, p3, el, tup_ints, add_ti (w := u) (v := ws) (by omega)]
  have c2' : n % 2 = 0 := by omega
  by_cases c4 : (n : Int) % 4 = 0
  · obtain ⟨qw, h3, hq, hh3, eq⟩ := word_ok (n := n / 4) hh2 (by omega) (by omega)
    have lq := hq.1
    push_cast at eq
    have hn := isW_app hq (negW_sg hq.2.1) (m := n / 4) (by unfold negW; simp [lq])
    rw [show n / 4 + n / 4 = n / 2 by omega] at hn
    obtain ⟨w, h', hw, hh', e⟩ := fin (qw ++ negW qw) (some (.dat (ti qw))) h3 hn hh3 (fun _ _ => by simp) (fun _ => by simp)
    have hl := neg_lc (ρ := [some (.par 0 (.lst h3)), some (.dat (.int n)), some (.dat (ti v)), some (.dat (ti qw)), none, none, none]) (i := 5) (j := 3) (w := qw) rfl (by simp) rfl (by omega)
    refine ⟨w, h', hw, hh', ?_⟩
    rw [← e]
    simp [g__law_built, c1, m2, c2, et, d2, ev, m4, c4, d4, eq, hl, tup_ints, add_ti (w := qw) (v := negW qw) (by unfold negW; simp; omega)]
  · obtain ⟨w, h', hw, hh', e⟩ := fin v none h2 hv hh2 (fun _ _ => by simp) (fun _ => by simp)
    refine ⟨w, h', hw, hh', ?_⟩
    rw [← e]
    simp [g__law_built, c1, m2, c2, et, d2, ev, m4, c4]
end K34

set_option Elab.async false
set_option linter.all false
set_option maxRecDepth 100000
set_option autoImplicit false
namespace K34
open PySem PySem.Spec PyProof.Rows L2 DL
theorem lenD_tI {w : List Int} : lenD [ti w] = some (.int w.length) := by simp [ti]
section
variable {ls ms : List Rat} {hs : List (List Rat)} {ws : List (List Int)}
end
section
variable {ls ms h : List Rat} {w : List Int} {n : Nat} {d : D}
def bodyN : G := (gSet 3 (fCall 2 m__law_plus [] (fCons (fVar 3) (fCons (fCall 2 m__law_times [] (fCons (fTup (fCons (f2 mulD (f2 ixD (f2 ixD (fVar 0) (fVar 4)) (fC (.int 0))) (f2 ixD (fVar 1) (fVar 4))) (fCons (f2 ixD (f2 ixD (fVar 0) (fVar 4)) (fC (.int 1))) fNil))) (fCons (f2 ixD (fVar 2) (fVar 4)) fNil))) fNil))))
theorem drop_cons {α : Type} {xs : List α} {k : Nat} (h : k < xs.length) : xs.drop k = xs[k] :: xs.drop (k + 1) := (List.getElem_cons_drop h).symm
theorem tm_data {l : Rat} {s : Int} (hs : s = 1 ∨ s = -1) : D.tup [.int (l.num * s), .int (l.den : Nat)] = rD (if s = 1 then l else -l) := by
  rcases hs with rfl | rfl
  · rw [if_pos rfl, Int.mul_one]; rfl
  · rw [if_neg (by decide), Int.mul_neg, Int.mul_one]; exact neg_rD
theorem lnoise_loop {a b : Nat} (hl : ls.length = n) (hw : IsW w n) (hh : h.length = n) (n2 : n ≤ 24) (bl : ∀ l ∈ ls, Bd a l) (bh : ∀ x ∈ h, Bd b x) (hb : a + b ≤ 300) :
    ∀ (m k B : Nat) (t : Rat) (s4 : Option Slot), k + m = n → Bd B t → B + (m + 1) * (a + b + 1) ≤ 9000 → ∃ t4, forL (tgName 4) bodyN ((List.range' k m).map fun j => D.int (j : Nat)) [some (.dat (rT ls)), some (.dat (ti w)), some (.dat (rT h)), some (.dat (rD t)), s4] = .nx [some (.dat (rT ls)), some (.dat (ti w)), some (.dat (rT h)), some (.dat (rD (sumR t (trm (ls.drop k) (w.drop k) (h.drop k))))), t4] := by
  intro m
  have lw := hw.1
  induction m with
  | zero =>
    intro k B t s4 hk _ _
    refine ⟨s4, ?_⟩
    have e0 : ls.drop k = [] := List.drop_eq_nil_of_le (by omega)
    rw [e0]
    rfl
  | succ m ih =>
    intro k B t s4 hk bt hB
    rw [Nat.succ_mul, Nat.succ_mul] at hB
    have i1 := ixD_rT (qs := ls) (i := (k : Nat)) (by omega) (by omega)
    have i2 := ixD_ti (w := w) (k := k) (by omega)
    have i3 := ixD_rT (qs := h) (i := (k : Nat)) (by omega) (by omega)
    have b1 := bl _ (List.getElem_mem (l := ls) (n := k) (by omega))
    have b3 := bh _ (List.getElem_mem (l := h) (n := k) (by omega))
    have g := hw.2.1 _ (List.getElem_mem (l := w) (n := k) (by omega))
    rw [drop_cons (xs := ls) (k := k) (by omega), drop_cons (xs := w) (k := k) (by omega), drop_cons (xs := h) (k := k) (by omega)]
    simp only [Int.toNat_natCast] at i1 i3
    generalize ls[k]'(by omega) = l at *
    generalize w[k]'(by omega) = s at *
    generalize h[k]'(by omega) = x at *
    have ml : mulD (.int l.num) (.int s) = some (.int (l.num * s)) := mulD_b (n := 10) b1.1 (by rcases g with h | h <;> rw [h] <;> decide) (by omega) (by decide)
    have td := tm_data (l := l) g
    have bl' : Bd a (if s = 1 then l else -l) := by
      split
      · exact b1
      · exact b1.neg
    have t1 := ltimes_ok bl' b3 (by omega)
    have bt1 := bl'.mul b3
    have p := lplus_ok bt bt1 (by omega)
    obtain ⟨t4, e⟩ := ih (k + 1) (B + (a + b) + 1) (t + tm l s x) (some (.dat (.int (k : Nat)))) (by omega) (bt.add (bd_tm b1 b3)) (by rw [Nat.succ_mul]; omega)
    refine ⟨t4, ?_⟩
    rw [List.range'_succ, List.map_cons, forL_cons (by simp; rfl)]
    show _ = SR.nx [some (.dat (rT ls)), some (.dat (ti w)), some (.dat (rT h)), some (.dat (rD (sumR (t + tm l s x) (trm (ls.drop (k + 1)) (w.drop (k + 1)) (h.drop (k + 1)))))), t4]
    rw [← e]
    generalize forL (tgName 4) bodyN = L
    have ed : tm l s x = (if s = 1 then l else -l) * x := rfl
    rw [ed]
    generalize (if s = 1 then l else -l) = y at *
    simp [bodyN, i1, i2, i3, ml, td, t1, p]
theorem lnoise_ok {a b : Nat} (hl : ls.length = n) (hw : IsW w n) (hh : h.length = n) (n2 : n ≤ 24) (bl : ∀ l ∈ ls, Bd a l) (bh : ∀ x ∈ h, Bd b x) (hb : a + b ≤ 300) : m__law_noise [.dat (rT ls), .dat (ti w), .dat (rT h)] = .ok (rD (nz ls w h)) none := by
  unfold m__law_noise
  rw [mk_out]
  have lw := hw.1
  obtain ⟨t4, e⟩ := lnoise_loop hl hw hh n2 bl bh hb n 0 1 0 none (by omega) bd_zero (by
    have : (n + 1) * (a + b + 1) ≤ 25 * 301 := Nat.mul_le_mul (by omega) (by omega)
    omega)
  rw [← List.range_eq_range', List.drop_zero, List.drop_zero, List.drop_zero, show rD 0 = .tup [.int 0, .int 1] from rfl] at e
  have el : lenD [ti w] = some (.int n) := by rw [lenD_tI, lw]
  have rg : ∀ ρ : En, range1 (.int n) ρ = .ok ((List.range n).map fun j => D.int (j : Nat)) ρ := fun ρ => range1_nat (by omega)
  simp only [g__law_noise]
  rw [← bodyN]
  generalize (List.range n).map (fun j => D.int (j : Nat)) = R at *
  simp [el, s_For, rg, e]
  rfl
end
end K34

set_option Elab.async false
set_option linter.all false
set_option maxRecDepth 100000
set_option autoImplicit false
namespace K34
open PySem PySem.Spec PyProof.Rows L2 DL
theorem powR_eq (m : Rat) : ∀ k : Nat, powR m k = m ^ k
  | 0 => (Rat.pow_zero _).symm
  | k + 1 => by rw [powR, powR_eq m k, Rat.pow_succ]
/-- a drawn line -/
structure LH (ls ms : List Rat) (n : Nat) : Prop extends LnOk ls ms n where
  fl : ∀ l ∈ ls, Hf 1 5 l
  fm : ∀ m ∈ ms, Hf 1 8 m
theorem hf_pw {m : Rat} (h : Hf 1 8 m) : ∀ k : Nat, Hf k (8 * k + 1) (powR m k)
  | 0 => hf_1
  | k + 1 => hf_mono (hf_mul (hf_pw h k) h) (by omega)
def pwH (ms : List Rat) (p : Nat) : List Rat := ms.map fun m => powR m p
section
variable {ls ms : List Rat} {w : List Int} {n : Nat} {d : D}
theorem LH.bl (L : LH ls ms n) : ∀ l ∈ ls, Bd 6 l := fun l hl => hf_bd (L.fl l hl) (by omega) (by omega)
theorem LH.bm (L : LH ls ms n) : ∀ m ∈ ms, Bd 9 m := fun m hm => hf_bd (L.fm m hm) (by omega) (by omega)
theorem pwH_len {p : Nat} : (pwH ms p).length = ms.length := by unfold pwH; rw [List.length_map]
theorem LH.bp (L : LH ls ms n) {p : Nat} (hp : p ≤ 24) : ∀ x ∈ pwH ms p, Bd 200 x := fun x hx => by
  obtain ⟨m, hm, rfl⟩ := List.mem_map.mp hx
  exact hf_bd (hf_pw (L.fm m hm) p) (by omega) (by omega)
theorem LH.ln (L : LH ls ms n) (hw : IsW w n) {p : Nat} (hp : p ≤ 24) : m__law_noise [.dat (rT ls), .dat (ti w), .dat (rT (pwH ms p))] = .ok (rD (nzp ls ms w p)) none :=
  lnoise_ok L.l1 hw (pwH_len.trans L.l2) L.n2 L.bl (L.bp hp) (by omega)
end
section
variable {ls ms : List Rat} {w : List Int} {n : Nat} {d : D} {m : Rat}
theorem rD_pw {k : Nat} : rD (powR m k) = .tup [.int (m.num ^ k), .int ((m.den : Int) ^ k)] := by
  rw [powR_eq]
  unfold rD
  rw [Rat.num_pow, Rat.den_pow, Int.natCast_pow]
def bP : G := (gSet 2 (fTup (fCons (f2 mulD (f2 ixD (fVar 2) (fC (.int 0))) (f2 ixD (fVar 0) (fC (.int 0)))) (fCons (f2 mulD (f2 ixD (fVar 2) (fC (.int 1))) (f2 ixD (fVar 0) (fC (.int 1)))) fNil))))
theorem npow_lt {a b : Nat} (h : a < 2 ^ b) : ∀ k : Nat, a ^ k < 2 ^ (b * k + 1)
  | 0 => by simp
  | k + 1 => by
    have ih := npow_lt h k
    rw [Nat.pow_succ, show b * (k + 1) + 1 = (b * k + 1) + b by rw [Nat.mul_succ]; omega, Nat.pow_add]
    by_cases h0 : a = 0
    · subst h0; rw [Nat.mul_zero]; exact Nat.mul_pos (Nat.two_pow_pos _) (Nat.two_pow_pos _)
    · exact Nat.lt_of_lt_of_le (Nat.mul_lt_mul_of_pos_right ih (by omega)) (Nat.mul_le_mul_left _ (Nat.le_of_lt h))
theorem power_loop (hm : Bd 9 m) {S : Slot} : ∀ (k j : Nat) (s4 : Option Slot), j + k ≤ 24 → ∃ t4, forL (tgName 3) bP ((List.range' j k).map fun i => D.int (i : Nat)) [some (.dat (rD m)), some S, some (.dat (.tup [.int (m.num ^ j), .int ((m.den : Int) ^ j)])), s4] = .nx [some (.dat (rD m)), some S, some (.dat (.tup [.int (m.num ^ (j + k)), .int ((m.den : Int) ^ (j + k))])), t4]
  | 0, j, s4, _ => ⟨s4, rfl⟩
  | k + 1, j, s4, h => by
    obtain ⟨t4, e⟩ := power_loop hm k (j + 1) (some (.dat (.int (j : Nat)))) (S := S) (by omega)
    refine ⟨t4, ?_⟩
    have a1 : mulD (.int (m.num ^ j)) (.int m.num) = some (.int (m.num ^ j * m.num)) := mulD_b (m := 9 * j + 1) (n := 9) (by rw [Int.natAbs_pow]; exact npow_lt hm.1 j) hm.1 (by omega) (by omega)
    have a2 : mulD (.int ((m.den : Int) ^ j)) (.int (m.den : Nat)) = some (.int (((m.den : Int) ^ j) * (m.den : Nat))) := mulD_b (m := 9 * j + 1) (n := 9) (by rw [Int.natAbs_pow, Int.natAbs_natCast]; exact npow_lt hm.2 j) (by rw [Int.natAbs_natCast]; exact hm.2) (by omega) (by omega)
    have c1 : m.num ^ j * m.num = m.num ^ (j + 1) := (Int.pow_succ _ _).symm
    have c2 : ((m.den : Int) ^ j) * (m.den : Nat) = ((m.den : Int) ^ (j + 1)) := (Int.pow_succ _ _).symm
    rw [c1] at a1
    rw [c2] at a2
    rw [List.range'_succ, List.map_cons, forL_cons (by simp; rfl), show j + (k + 1) = j + 1 + k by omega, ← e]
    generalize forL (tgName 3) bP = Lp
    generalize m.num ^ (j + 1) = x1 at *
    generalize m.num ^ j = x0 at *
    generalize ((m.den : Int) ^ (j + 1)) = y1 at *
    generalize ((m.den : Int) ^ j) = y0 at *
    have i0 : ixD (rD m) (.int 0) = some (.int m.num) := rfl
    have i1 : ixD (rD m) (.int 1) = some (.int (m.den : Nat)) := rfl
    have j0 : ixD (.tup [.int x0, .int y0]) (.int 0) = some (.int x0) := rfl
    have j1 : ixD (.tup [.int x0, .int y0]) (.int 1) = some (.int y0) := rfl
    generalize rD m = M at *
    simp [bP, a1, a2, i0, i1, j0, j1]
theorem lpower_ok (hm : Bd 9 m) {k : Nat} (hk : k ≤ 24) : m__law_power [.dat (rD m), .dat (.int (k : Nat))] = .ok (rD (powR m k)) none := by
  unfold m__law_power
  rw [mk_out]
  obtain ⟨t4, e⟩ := power_loop hm (S := .dat (.int (k : Nat))) k 0 none (by omega)
  rw [← List.range_eq_range', Nat.zero_add] at e
  have rg : ∀ ρ : En, range1 (.int k) ρ = .ok ((List.range k).map fun j => D.int (j : Nat)) ρ := fun ρ => range1_nat (by omega)
  simp only [g__law_power]
  rw [← bP, rD_pw]
  generalize (List.range k).map (fun j => D.int (j : Nat)) = R at *
  generalize m.num ^ k = x at *
  generalize ((m.den : Int) ^ k) = y at *
  rw [Int.pow_zero, Int.pow_zero] at e
  have e2 := e
  generalize rD m = M at *
  simp [s_For, rg, e2]
theorem lmark_ok (L : LH ls ms n) {k : Nat} (hk : k ≤ 24) : m__law_mark_hum [.dat (rT ms), .dat (.int (k : Nat))] = .ok (rT (pwH ms k)) none := by
  unfold m__law_mark_hum
  rw [mk_out]
  have e := lc_all (it := fIt (fVar 0)) (vs := [2]) (t := tgName 2) (te := fCall 2 m__law_power [] (fCons (fVar 2) (fCons (fVar 1) fNil))) (ρ := [some (.dat (rT ms)), some (.dat (.int (k : Nat))), none]) (ρ1 := [some (.dat (rT ms)), some (.dat (.int (k : Nat))), none])
    rD (fun m => rD (powR m k)) ms (by have : items (rT ms) = some (ms.map rD) := rfl
                                       simp [this]) rfl (by have := L.l2; have := L.n2; omega) fun m hm => by
      have p := lpower_ok (L.bm m hm) hk
      exact ⟨[some (.dat (rT ms)), some (.dat (.int (k : Nat))), some (.dat (rD m))], rfl, by simp [p], rfl⟩
  have t : tupleD [.lst (ms.map fun m => rD (powR m k))] = some (rT (pwH ms k)) := by
    unfold rT pwH
    rw [List.map_map]
    rfl
  simp only [g__law_mark_hum]
  generalize fLc _ _ _ _ _ = F at *
  generalize ms.map (fun m => rD (powR m k)) = Y at *
  generalize rT (pwH ms k) = Z at *
  generalize rT ms = X at *
  simp [e, t]
def bO : G := (gIf (t2 neD (f2 ixD (fCall 3 m__law_noise [] (fCons (fVar 0) (fCons (fVar 2) (fCons (fCall 2 m__law_mark_hum [] (fCons (fVar 1) (fCons (fVar 3) fNil))) fNil)))) (fC (.int 0))) (fC (.int 0))) (gRet (fVar 3)) gNx)
theorem bO_ok (L : LH ls ms n) (hw : IsW w n) {k : Nat} (hk : k ≤ 24) : bO [some (.dat (rT ls)), some (.dat (rT ms)), some (.dat (ti w)), some (.dat (.int (k : Nat)))] = if nzp ls ms w k = 0 then .nx [some (.dat (rT ls)), some (.dat (rT ms)), some (.dat (ti w)), some (.dat (.int (k : Nat)))] else .rt (.int (k : Nat)) [some (.dat (rT ls)), some (.dat (rT ms)), some (.dat (ti w)), some (.dat (.int (k : Nat)))] := by
  have a := lmark_ok L hk
  have b := L.ln hw hk
  generalize rT (pwH ms k) = Z at *
  generalize nzp ls ms w k = q at *
  have i0 : ixD (rD q) (.int 0) = some (.int q.num) := rfl
  have z : q.num = 0 ↔ q = 0 := Rat.num_eq_zero
  generalize rT ls = X at *
  generalize rT ms = Y at *
  by_cases h : q = 0
  · rw [if_pos h]
    simp [bO, a, b, i0, z.mpr h]
  · have h2 : ¬ q.num = 0 := fun x => h (z.mp x)
    rw [if_neg h]
    simp [bO, a, b, i0, h2]
theorem lorder_loop (L : LH ls ms n) (hw : IsW w n) {o : Nat} (ho : o ≤ 23) (hz : ∀ j, j < o → nzp ls ms w j = 0) (hn : nzp ls ms w o ≠ 0) : ∀ (k p : Nat) (s3 : Option Slot), p ≤ o → o < p + k → forL (tgName 3) bO ((List.range' p k).map fun i => D.int (i : Nat)) [some (.dat (rT ls)), some (.dat (rT ms)), some (.dat (ti w)), s3] = .rt (.int (o : Nat)) [some (.dat (rT ls)), some (.dat (rT ms)), some (.dat (ti w)), some (.dat (.int (o : Nat)))]
  | 0, p, s3, h1, h2 => absurd h2 (by omega)
  | k + 1, p, s3, h1, h2 => by
    rw [List.range'_succ, List.map_cons, forL_cons rfl]
    show (bO [some (.dat (rT ls)), some (.dat (rT ms)), some (.dat (ti w)), some (.dat (.int (p : Nat)))]).loop _ = _
    rw [bO_ok L hw (by omega)]
    by_cases e : p = o
    · subst e
      rw [if_neg hn]
      rfl
    · rw [if_pos (hz p (by omega)), lo_nx]
      exact lorder_loop L hw ho hz hn k (p + 1) _ (by omega) (by omega)
theorem lorder_ok (L : LH ls ms n) (hw : IsW w n) {o : Nat} (ho : o < n) (hz : ∀ j, j < o → nzp ls ms w j = 0) (hn : nzp ls ms w o ≠ 0) : m__law_order [.dat (rT ls), .dat (rT ms), .dat (ti w)] = .ok (.int (o : Nat)) none := by
  unfold m__law_order
  rw [mk_out]
  have n2 := L.n2
  have e := lorder_loop L hw (o := o) (by omega) hz hn n 0 none (by omega) (by omega)
  rw [← List.range_eq_range'] at e
  have el : lenD [ti w] = some (.int n) := by rw [lenD_tI, hw.1]
  have rg : ∀ ρ : En, range1 (.int n) ρ = .ok ((List.range n).map fun j => D.int (j : Nat)) ρ := fun ρ => range1_nat (by omega)
  simp only [g__law_order]
  rw [← bO]
  generalize (List.range n).map (fun j => D.int (j : Nat)) = R at *
  generalize rT ls = X at *
  generalize rT ms = Y at *
  simp [el, s_For, rg, e]
end
theorem even_ok {n : Nat} (h : n ≤ 24) : m__law_even [.dat (.int n)] = .ok (rws (List.replicate n 1) ((List.range n).map fun k => ((k : Nat) : Rat))) none := by
  unfold m__law_even
  rw [mk_out]
  have l1 := lc_all (it := fRange1 (fCons (fVar 0) fNil)) (vs := [1]) (t := tgName 1) (te := fTup (fCons (fC (.int 1)) (fCons (fC (.int 1)) fNil))) (ρ := [some (.dat (.int n)), none]) (ρ1 := [some (.dat (.int n)), none]) (fun k : Nat => D.int k) (fun _ => rD 1) (List.range n) (by simp [range1_nat (n := n) (by omega)]) (by rfl) (by simp; omega) (fun k _ => ⟨_, rfl, by simp; rfl, rfl⟩)
  have l2 := lc_all (it := fRange1 (fCons (fVar 0) fNil)) (vs := [1]) (t := tgName 1) (te := fTup (fCons (fVar 1) (fCons (fC (.int 1)) fNil))) (ρ := [some (.dat (.int n)), none]) (ρ1 := [some (.dat (.int n)), none]) (fun k : Nat => D.int k) (fun k => rD ((k : Nat) : Rat)) (List.range n) (by simp [range1_nat (n := n) (by omega)]) (by rfl) (by simp; omega) (fun k _ => ⟨_, rfl, by simp; rfl, rfl⟩)
  simp [g__law_even, l1, l2]
  unfold rws rT
  simp
  rw [List.map_const', List.length_range]
theorem line_even {n : Nat} (n1 : 1 ≤ n) (n2 : n ≤ 24) : LnOk (List.replicate n 1) ((List.range n).map fun k => ((k : Nat) : Rat)) n := by
  refine ⟨by simp, by simp, n1, n2, fun l hl => ?_, ?_⟩
  · rw [(List.mem_replicate.mp hl).2]
    decide
  · rw [List.pairwise_map]
    refine List.Pairwise.imp ?_ List.pairwise_lt_range
    intro a b h
    exact Rat.natCast_lt_natCast.mpr h
end K34

set_option Elab.async false
set_option linter.all false
set_option maxRecDepth 100000
set_option autoImplicit false
namespace K34
open PySem PySem.Spec PyProof.Rows L2 DL
/-! running sums, and sums over sections -/
def ch : Nat → Nat → Int
  | _, 0 => 1
  | 0, _ + 1 => 0
  | a + 1, i + 1 => ch a i + ch a (i + 1)
theorem ch_0 : ∀ a, ch a 0 = 1
  | 0 => rfl
  | _ + 1 => rfl
theorem ch_z (i : Nat) : ch 0 (i + 1) = 0 := rfl
theorem ch_s (a i : Nat) : ch (a + 1) (i + 1) = ch a i + ch a (i + 1) := rfl
theorem ch_mul : ∀ (a i : Nat), (a : Int) * ch a i = i * ch a i + (i + 1) * ch a (i + 1)
  | 0, 0 => by rw [ch_z, ch_0]; simp
  | 0, i + 1 => by rw [ch_z, ch_z]; simp
  | a + 1, 0 => by
    have h := ch_mul a 0
    rw [ch_0, ch_s, ch_0]
    rw [ch_0] at h
    simp at h ⊢
    omega
  | a + 1, i + 1 => by
    have h1 := ch_mul a i
    have h2 := ch_mul a (i + 1)
    rw [ch_s, ch_s]
    push_cast at h1 h2 ⊢
    generalize ch a i = x at *
    generalize ch a (i + 1) = y at *
    generalize ch a (i + 1 + 1) = z at *
    grind
def ws (f : Nat → Int) : Nat → List Int → Int
  | _, [] => 0
  | k, x :: xs => x * f k + ws f (k + 1) xs
theorem ws_congr {f g : Nat → Int} (h : ∀ k, f k = g k) : ∀ (xs : List Int) (k : Nat), ws f k xs = ws g k xs
  | [], _ => rfl
  | x :: xs, k => by rw [ws, ws, h k, ws_congr h xs]
theorem ws_lin {f g : Nat → Int} {a b : Int} : ∀ (xs : List Int) (k : Nat), ws (fun i => a * f i + b * g i) k xs = a * ws f k xs + b * ws g k xs
  | [], _ => by simp [ws]
  | x :: xs, k => by
    rw [ws, ws, ws, ws_lin xs (k + 1)]
    generalize ws f (k + 1) xs = y
    generalize ws g (k + 1) xs = z
    generalize f k = p
    generalize g k = q
    grind
theorem ws_one : ∀ (xs : List Int) (k : Nat), ws (fun _ => 1) k xs = xs.sum
  | [], _ => rfl
  | x :: xs, k => by rw [ws, ws_one xs (k + 1), List.sum_cons, Int.mul_one]
def runS : Int → List Int → List Int
  | _, [] => []
  | t, x :: xs => (t + x) :: runS (t + x) xs
theorem runS_len : ∀ (t : Int) (xs : List Int), (runS t xs).length = xs.length
  | _, [] => rfl
  | t, x :: xs => by rw [runS, List.length_cons, runS_len, List.length_cons]
theorem abel (f : Nat → Int) : ∀ (xs : List Int) (t : Int) (k : Nat), ws f k xs = (t + xs.sum) * f (k + xs.length) - t * f k - ws (fun i => f (i + 1) - f i) k (runS t xs)
  | [], t, k => by
    rw [runS, ws, ws]
    simp
  | x :: xs, t, k => by
    have h := abel f xs (t + x) (k + 1)
    rw [ws, runS, ws, h, List.sum_cons, List.length_cons, show k + (xs.length + 1) = k + 1 + xs.length by omega]
    generalize ws (fun i => f (i + 1) - f i) (k + 1) (runS (t + x) xs) = y
    generalize f (k + 1 + xs.length) = p
    generalize f (k + 1) = q
    generalize f k = r
    generalize xs.sum = s
    grind
def nxt (xs : List Int) : List Int := runS 0 xs.dropLast
theorem ws_snoc (f : Nat → Int) : ∀ (xs : List Int) (x : Int) (k : Nat), ws f k (xs ++ [x]) = ws f k xs + x * f (k + xs.length)
  | [], x, k => by rw [List.nil_append, ws, ws, ws]; simp
  | y :: xs, x, k => by
    rw [List.cons_append, ws, ws, ws_snoc f xs x (k + 1), List.length_cons, show k + (xs.length + 1) = k + 1 + xs.length by omega, Int.add_assoc]
theorem runS_snoc : ∀ (t : Int) (xs : List Int) (x : Int), runS t (xs ++ [x]) = runS t xs ++ [t + xs.sum + x]
  | t, [], x => by rw [List.nil_append, runS, runS, runS]; simp
  | t, y :: xs, x => by
    rw [List.cons_append, runS, runS, runS_snoc (t + y) xs x, List.cons_append, List.sum_cons, show t + y + xs.sum + x = t + (y + xs.sum) + x by omega]
theorem ws_nxt (f : Nat → Int) {xs : List Int} (hs : xs.sum = 0) (hn : xs ≠ []) : ws f 0 xs = - ws (fun i => f (i + 1) - f i) 0 (nxt xs) := by
  have h := abel f xs 0 0
  rw [hs] at h
  have e : xs = xs.dropLast ++ [xs.getLast hn] := (List.dropLast_concat_getLast hn).symm
  have r : runS 0 xs = nxt xs ++ [0] := by
    unfold nxt
    have q := runS_snoc 0 xs.dropLast (xs.getLast hn)
    rw [← e] at q
    rw [q]
    have s : xs.dropLast.sum + xs.getLast hn = 0 := by
      have := congrArg List.sum e
      rw [List.sum_append, List.sum_singleton, hs] at this
      omega
    rw [show 0 + xs.dropLast.sum + xs.getLast hn = 0 by omega]
  rw [r, ws_snoc] at h
  rw [h]
  simp
def rws : Nat → List Int → List (List Int)
  | 0, xs => [xs]
  | m + 1, xs => if xs.sum = 0 then xs :: rws m (nxt xs) else [xs]
theorem rws_ne : ∀ (m : Nat) (xs : List Int), rws m xs ≠ []
  | 0, xs => by simp [rws]
  | m + 1, xs => by
    rw [rws]
    split <;> simp
theorem nxt_len {xs : List Int} : (nxt xs).length = xs.length - 1 := by
  unfold nxt
  rw [runS_len, List.length_dropLast]
theorem nxt_head {xs : List Int} (h : xs.head? = some 1) (hl : 2 ≤ xs.length) : (nxt xs).head? = some 1 := by
  match xs, h, hl with
  | [a], _, hl => simp at hl
  | a :: b :: c, h, _ =>
    have e : a = 1 := by simpa using h
    subst e
    rfl
/-- the rows: all sums below the last are 0, the last is not; and what they tell of the word -/
theorem rows_key : ∀ (m : Nat) (xs : List Int), xs.head? = some 1 → xs.length ≤ m + 1 →
    ∃ (r : Nat) (last : List Int), (rws m xs).length = r + 1 ∧ (rws m xs).getLast? = some last ∧ last.sum ≠ 0 ∧ r < xs.length ∧
      (∀ j, j < r → ws (fun a => ch a j) 0 xs = 0) ∧ ws (fun a => ch a r) 0 xs = (if r % 2 = 0 then last.sum else - last.sum)
  | 0, xs, h, hl => by
    match xs, h, hl with
    | [a], h, _ =>
      have e : a = 1 := by simpa using h
      subst e
      exact ⟨0, [1], rfl, rfl, by decide, by simp, fun j hj => absurd hj (by omega), rfl⟩
    | a :: b :: c, _, hl => simp at hl
  | m + 1, xs, h, hl => by
    rw [rws]
    have hn : xs ≠ [] := by intro e; subst e; cases h
    by_cases hs : xs.sum = 0
    · have h2 : 2 ≤ xs.length := by
        match xs, h, hs with
        | [a], h, hs =>
          have e : a = 1 := by simpa using h
          subst e
          simp at hs
        | a :: b :: c, _, _ => simp
      obtain ⟨r, last, e1, e2, e3, e4, e5, e6⟩ := rows_key m (nxt xs) (nxt_head h h2) (by rw [nxt_len]; omega)
      rw [if_pos hs]
      have dl : ∀ j, ws (fun a => ch a (j + 1)) 0 xs = - ws (fun a => ch a j) 0 (nxt xs) := fun j => by
        rw [ws_nxt _ hs hn]
        congr 1
        refine ws_congr (fun k => ?_) _ _
        show ch (k + 1) (j + 1) - ch k (j + 1) = ch k j
        rw [ch_s]
        omega
      refine ⟨r + 1, last, by rw [List.length_cons, e1], ?_, e3, ?_, fun j hj => ?_, ?_⟩
      · rw [List.getLast?_cons, e2]
        rfl
      · rw [nxt_len] at e4
        omega
      · cases j with
        | zero =>
          rw [ws_congr ch_0, ws_one, hs]
        | succ j =>
          rw [dl j, e5 j (by omega)]
          rfl
      · rw [dl r, e6]
        by_cases q : r % 2 = 0
        · rw [if_pos q, if_neg (by omega)]
        · rw [if_neg q, if_pos (by omega)]
          omega
    · rw [if_neg hs]
      refine ⟨0, xs, rfl, rfl, hs, by cases xs with
        | nil => exact absurd rfl hn
        | cons a b => simp, fun j hj => absurd hj (by omega), ?_⟩
      rw [ws_congr ch_0, ws_one]
      rfl
theorem pow_key {w : List Int} {r : Nat} {T : Int} (hz : ∀ j, j < r → ws (fun a => ch a j) 0 w = 0) (hn : ws (fun a => ch a r) 0 w = T) (hT : T ≠ 0) : ∀ (p i : Nat),
    (p + i < r → ws (fun a => (a : Int) ^ p * ch a i) 0 w = 0) ∧ (p + i = r → ws (fun a => (a : Int) ^ p * ch a i) 0 w ≠ 0)
  | 0, i => by
    have e : ws (fun a => (a : Int) ^ 0 * ch a i) 0 w = ws (fun a => ch a i) 0 w := ws_congr (fun k => by rw [Int.pow_zero, Int.one_mul]) _ _
    rw [e]
    refine ⟨fun h => hz i (by omega), fun h => ?_⟩
    have : i = r := by omega
    subst this
    rw [hn]
    exact hT
  | p + 1, i => by
    have e : ws (fun a => (a : Int) ^ (p + 1) * ch a i) 0 w = (i : Int) * ws (fun a => (a : Int) ^ p * ch a i) 0 w + ((i : Int) + 1) * ws (fun a => (a : Int) ^ p * ch a (i + 1)) 0 w := by
      rw [← ws_lin]
      refine ws_congr (fun k => ?_) _ _
      have h := ch_mul k i
      show (k : Int) ^ (p + 1) * ch k i = (i : Int) * ((k : Int) ^ p * ch k i) + ((i : Int) + 1) * ((k : Int) ^ p * ch k (i + 1))
      rw [Int.pow_succ]
      generalize (k : Int) ^ p = y
      generalize ch k i = u at *
      generalize ch k (i + 1) = v at *
      grind
    obtain ⟨a1, a2⟩ := pow_key hz hn hT p i
    obtain ⟨b1, b2⟩ := pow_key hz hn hT p (i + 1)
    rw [e]
    refine ⟨fun h => ?_, fun h => ?_⟩
    · rw [a1 (by omega), b1 (by omega)]
      simp
    · rw [a1 (by omega)]
      have q := b2 (by omega)
      rw [Int.mul_zero, Int.zero_add]
      intro z
      rcases Int.mul_eq_zero.mp z with z | z
      · omega
      · exact q z
end K34

set_option Elab.async false
set_option linter.all false
set_option maxRecDepth 100000
set_option autoImplicit false
namespace K34
open PySem PySem.Spec PyProof.Rows L2 DL
def evS (n : Nat) : List Rat := List.replicate n 1
def evM (n : Nat) : List Rat := (List.range n).map fun k => ((k : Nat) : Rat)
theorem pw_int (k : Nat) : ∀ p : Nat, powR ((k : Nat) : Rat) p = (((k : Int) ^ p : Int) : Rat)
  | 0 => by rw [powR, Int.pow_zero]; rfl
  | p + 1 => by
    rw [powR, pw_int k p, Int.pow_succ, Rat.intCast_mul]
    rfl
theorem nz_ws (f : Nat → Int) : ∀ (w : List Int) (k : Nat), Sg w → nz (List.replicate w.length 1) w ((List.range' k w.length).map fun i => ((f i : Int) : Rat)) = ((ws f k w : Int) : Rat)
  | [], k, _ => rfl
  | x :: w, k, h => by
    have ih := nz_ws f w (k + 1) (fun y hy => h y (List.mem_cons_of_mem _ hy))
    rw [List.length_cons, List.replicate_succ, List.range'_succ, List.map_cons]
    have e : nz (1 :: List.replicate w.length 1) (x :: w) (((f k : Int) : Rat) :: (List.range' (k + 1) w.length).map fun i => ((f i : Int) : Rat)) = tm 1 x ((f k : Int) : Rat) + nz (List.replicate w.length 1) w ((List.range' (k + 1) w.length).map fun i => ((f i : Int) : Rat)) := by
      have a := nz_app (l1 := [1]) (w1 := [x]) (h1 := [((f k : Int) : Rat)]) (l2 := List.replicate w.length 1) (w2 := w) (h2 := (List.range' (k + 1) w.length).map fun i => ((f i : Int) : Rat)) rfl rfl
      have z : nz [1] [x] [((f k : Int) : Rat)] = tm 1 x ((f k : Int) : Rat) := by
        show (0 : Rat) + tm 1 x ((f k : Int) : Rat) = _
        rw [Rat.zero_add]
      rw [z] at a
      exact a
    rw [e, ih, ws, Rat.intCast_add]
    congr 1
    unfold tm
    rcases h x (List.mem_cons_self ..) with z | z
    · subst z
      rw [if_pos rfl, Int.one_mul, Rat.one_mul]
    · subst z
      rw [if_neg (by decide), Rat.intCast_mul]
      rfl
theorem nzp_ws {w : List Int} {n p : Nat} (hw : IsW w n) : nzp (evS n) (evM n) w p = ((ws (fun a => (a : Int) ^ p) 0 w : Int) : Rat) := by
  have h := nz_ws (fun a => (a : Int) ^ p) w 0 hw.2.1
  rw [hw.1, ← List.range_eq_range'] at h
  unfold nzp evS evM
  rw [List.map_map, ← h]
  congr 1
  refine List.map_congr_left fun k _ => ?_
  exact pw_int k p
theorem LH_ev {n : Nat} (n1 : 1 ≤ n) (n2 : n ≤ 24) : LH (evS n) (evM n) n := by
  refine ⟨line_even n1 n2, fun l hl => ?_, fun m hm => ?_⟩
  · rw [(List.mem_replicate.mp hl).2]
    exact hf_mono (hf_up hf_1 1) (by omega)
  · unfold evM at hm
    obtain ⟨k, hk, rfl⟩ := List.mem_map.mp hm
    have : k < n := List.mem_range.mp hk
    have h : Hf 0 5 ((k : Int) : Rat) := hf_int (by omega)
    exact hf_mono (hf_up h 1) (by omega)
end K34

set_option Elab.async false
set_option linter.all false
set_option maxRecDepth 100000
set_option autoImplicit false
namespace K34
open PySem PySem.Spec PyProof.Rows L2 DL
section
variable {xs : List Int} {ds : List D} {ρ : En} {i : Nat}
@[simp] theorem e_tupX : fTupX i ρ = R.of ((lstS ρ[i]?).map .tup) ρ := (rfl)
@[simp] theorem lstS_own : lstS (some (some (.own ds))) = some ds := (rfl)
theorem sumA_ti : sumA [ti xs] = some (.int xs.sum) := by
  unfold sumA alt1
  have a : sumD [ti xs] = none := rfl
  rw [a]
  show (intsOf (xs.map D.int)).map (fun ns => D.int ns.sum) = _
  rw [intsOf_map]
  rfl
theorem sumD_l : sumD [.lst (xs.map D.int)] = some (.int xs.sum) := by
  unfold sumD onL
  show (intsOf (xs.map D.int)).map (fun ns => D.int ns.sum) = _
  rw [intsOf_map]
  rfl
theorem cut_m1 (h : ds ≠ []) : DL.cutD ds none (some (-1)) = ds.dropLast := by
  unfold DL.cutD
  have a : HT.sIx ds.length 0 none = 0 := rfl
  have b : HT.sIx ds.length ds.length (some (-1)) = ds.length - 1 := by
    show (if (-1 : Int) < 0 then ((-1 : Int) + (ds.length : Int)).toNat else min (-1 : Int).toNat ds.length) = _
    rw [if_pos (by decide)]
    have := List.length_pos_iff.mpr h
    omega
  rw [a, b, List.drop_zero, Nat.sub_zero, List.dropLast_eq_take]
theorem sl_m1 (h : xs ≠ []) : slD (ti xs) none (some (-1)) = some (ti xs.dropLast) := by
  have c := cut_m1 (ds := xs.map D.int) (by simpa using h)
  show some (D.tup (DL.cutD (xs.map D.int) none (some (-1)))) = some (D.tup (xs.dropLast.map D.int))
  rw [c, List.map_dropLast]
theorem at_last {α : Type} {as : List α} {x : α} : atI (as ++ [x]) (-1) = some x := by
  unfold atI
  have e : ixN (as ++ [x]).length (-1) = some as.length := by
    rw [List.length_append, List.length_singleton]
    unfold ixN
    rw [if_neg (by decide), if_pos (by omega)]
    exact congrArg some (by omega)
  rw [e]
  simp
def bR : G := (gSeq (gSet 2 (f2 addD (fVar 2) (fVar 3))) (gApp 1 (fVar 2)))
theorem run_loop {S : Option Slot} : ∀ (xs : List Int) (t : Int) (acc : List D) (s3 : Option Slot), acc.length + xs.length ≤ 1000 → ∃ t3, forL (tgName 3) bR (xs.map D.int) [S, some (.own acc), some (.dat (.int t)), s3] = .nx [S, some (.own (acc ++ (runS t xs).map D.int)), some (.dat (.int (t + xs.sum))), t3]
  | [], t, acc, s3, _ => ⟨s3, by rw [runS, List.sum_nil, Int.add_zero, List.map_nil, List.append_nil]; rfl⟩
  | x :: xs, t, acc, s3, h => by
    simp only [List.length_cons] at h
    obtain ⟨t3, e⟩ := run_loop (S := S) xs (t + x) (acc ++ [.int (t + x)]) (some (.dat (.int x))) (by rw [List.length_append, List.length_singleton]; omega)
    refine ⟨t3, ?_⟩
    have c : forL (tgName 3) bR ((x :: xs).map D.int) [S, some (.own acc), some (.dat (.int t)), s3] = (bR [S, some (.own acc), some (.dat (.int t)), some (.dat (.int x))]).loop (forL (tgName 3) bR (xs.map D.int)) := forL_cons rfl
    have z : bR [S, some (.own acc), some (.dat (.int t)), some (.dat (.int x))] = .nx [S, some (.own (acc ++ [.int (t + x)])), some (.dat (.int (t + x))), some (.dat (.int x))] := by
      have sz := fun y : SR => szS_lt (xs := acc) (x := y) (by omega)
      simp [bR, sz]
    rw [c, z, lo_nx, e, runS, List.map_cons, List.sum_cons, List.append_assoc]
    rw [show t + x + xs.sum = t + (x + xs.sum) by omega]
    rfl
theorem running_ok (h : xs.length ≤ 1000) : m__running_sums [.dat (ti xs)] = .ok (ti (runS 0 xs)) none := by
  unfold m__running_sums
  rw [mk_out]
  obtain ⟨t3, e⟩ := run_loop (S := some (.dat (ti xs))) xs 0 [] none (by simpa using h)
  rw [List.nil_append] at e
  have it : items (ti xs) = some (xs.map D.int) := rfl
  have tp : tupleD [.lst ((runS 0 xs).map D.int)] = some (ti (runS 0 xs)) := rfl
  have g : g__running_sums = (gSeq (gOwn 1 (fDisp fNil)) (gSeq (gSet 2 (fC (.int 0))) (gSeq (gFor (fIt (fVar 0)) (tgName 3) bR) (gFrz 1 (gRet (fB tupleD (fCons (fVar 1) fNil))))))) := rfl
  rw [g]
  generalize bR = B at *
  generalize (runS 0 xs).map D.int = Y at *
  generalize ti (runS 0 xs) = Z at *
  generalize xs.map D.int = Y2 at *
  generalize ti xs = X at *
  simp [s_For, it, e, tp]
def cS : FB := (t2 eqD (fB sumA (fCons (fVar 1) fNil)) (fC (.int 0)))
def bS : G := (gSeq (gSet 1 (fCall 1 m__running_sums [] (fCons (fSl (fVar 1) oNone (oSome (f1 negI (fC (.int 1))))) fNil))) (gApp 2 (fVar 1)))
theorem cS_ok {S R : Option Slot} : cS [S, some (.dat (ti xs)), R] = .ok (decide (xs.sum = 0)) [S, some (.dat (ti xs)), R] := by
  have s := sumA_ti (xs := xs)
  unfold cS
  generalize ti xs = X at *
  simp [s]
theorem bS_ok {S : Option Slot} {acc : List D} (hn : xs ≠ []) (h : xs.length ≤ 1000) (ha : acc.length ≤ 1000) : bS [S, some (.dat (ti xs)), some (.own acc)] = .nx [S, some (.dat (ti (nxt xs))), some (.own (acc ++ [ti (nxt xs)]))] := by
  have s := sl_m1 hn
  have r := running_ok (xs := xs.dropLast) (by rw [List.length_dropLast]; omega)
  have sz := fun y : SR => szS_lt (xs := acc) (x := y) (by omega)
  unfold bS nxt
  generalize ti (runS 0 xs.dropLast) = Z at *
  generalize ti xs.dropLast = Y at *
  generalize ti xs = X at *
  simp [s, r, sz]
theorem while_ok {S : Option Slot} : ∀ (m : Nat) (xs : List Int) (acc : List D) (n : Nat), xs.head? = some 1 → xs.length ≤ m + 1 → m ≤ 24 → acc.length + m ≤ 500 → m < n →
    ∃ last, whileN cS bS n [S, some (.dat (ti xs)), some (.own (acc ++ [ti xs]))] = .nx [S, some (.dat (ti last)), some (.own (acc ++ (rws m xs).map ti))]
  | m, xs, acc, 0, _, _, _, _, h => absurd h (by omega)
  | m, xs, acc, n + 1, h1, h2, h3, h4, h5 => by
    have hn : xs ≠ [] := by intro e; subst e; cases h1
    rw [whileN, cS_ok, sr_ok]
    by_cases hs : xs.sum = 0
    · rw [decide_eq_true hs, if_pos rfl, bS_ok hn (by omega) (by rw [List.length_append, List.length_singleton]; omega)]
      have hl : 2 ≤ xs.length := by
        match xs, h1, hs with
        | [a], h, hs =>
          have e : a = 1 := by simpa using h
          subst e
          simp at hs
        | a :: b :: c, _, _ => simp
      cases m with
      | zero => omega
      | succ m =>
        obtain ⟨last, e⟩ := while_ok (S := S) m (nxt xs) (acc ++ [ti xs]) n (nxt_head h1 hl) (by rw [nxt_len]; omega) (by omega) (by rw [List.length_append, List.length_singleton]; omega) (by omega)
        refine ⟨last, ?_⟩
        rw [rws, if_pos hs, List.map_cons]
        refine Eq.trans e ?_
        rw [List.append_assoc]
        rfl
    · rw [decide_eq_false hs, if_neg (by decide)]
      refine ⟨xs, ?_⟩
      cases m with
      | zero => rw [rws]; rfl
      | succ m => rw [rws, if_neg hs]; rfl
end
end K34

set_option Elab.async false
set_option linter.all false
set_option maxRecDepth 100000
set_option autoImplicit false
namespace K34
open PySem PySem.Spec PyProof.Rows L2 DL
section
variable {xs w : List Int} {ds : List D} {ρ : En} {i n : Nat} {d : D} {s2 s3 s4 s5 : Option Slot}
theorem s_While {c : FB} {g : G} {f : En → Nat} : gWhile c g f ρ = whileN c g (f ρ) ρ := (rfl)
@[simp] theorem s_Mix0 {i j : Nat} {d : D} : gMix i j (fC d) (fDisp fNil) ρ = .nx ((ρ.set i (some (.dat d))).set j (some (.own []))) := by
  unfold gMix
  simp
def rowsT (w : List Int) (n : Nat) : List (List Int) := rws (n - 1) w
theorem sum_rows_ok (h : seqOf d = some (w.map .int)) (hw : IsW w n) (n1 : 1 ≤ n) (n2 : n ≤ 24) : m_sum_rows [.dat d] = .ok (.tup ((rowsT w n).map ti)) none := by
  have c := signs_ok h hw n1 n2
  obtain ⟨last, e⟩ := while_ok (S := some (.dat d)) (n - 1) w [] (fuel [some (.dat d), some (.dat (ti w)), some (.own [ti w])]) hw.2.2 (by have := hw.1; omega) (by omega) (by simp; omega) (by
    have := hw.1
    simp [size1, ti]
    omega)
  rw [List.nil_append, List.nil_append] at e
  have tp : tupleD [.lst ((rws (n - 1) w).map ti)] = some (.tup ((rws (n - 1) w).map ti)) := rfl
  unfold m_sum_rows rowsT
  rw [mk_out]
  have g : g_sum_rows = (gSeq (gSet 1 (fCall 1 m_check_signs [] (fCons (fVar 0) fNil)))
    (gSeq (gOwn 2 (fDisp (fCons (fVar 1) fNil)))
    (gSeq (gWhile cS bS fuel)
    (gFrz 2 (gRet (fB tupleD (fCons (fVar 2) fNil))))))) := rfl
  rw [g]
  have sW : ∀ ρ, gWhile cS bS fuel ρ = whileN cS bS (fuel ρ) ρ := fun _ => rfl
  have e2 : gWhile cS bS fuel [some (.dat d), some (.dat (ti w)), some (.own [ti w])] = .nx [some (.dat d), some (.dat (ti last)), some (.own ((rws (n - 1) w).map ti))] := e
  clear e sW
  generalize gWhile cS bS fuel = GW at *
  generalize (rws (n - 1) w).map ti = Y at *
  generalize ti w = X at *
  generalize ti last = X2 at *
  simp [c, e2, tp]
def bI : G := (gSeq (gSet 3 (f2 addD (fVar 3) (fVar 5))) (gApp 4 (fVar 3)))
theorem inner_loop {S R : Option Slot} : ∀ (xs : List Int) (t : Int) (acc : List D) (s5 : Option Slot), acc.length + xs.length ≤ 1000 → ∃ t5, forL (tgName 5) bI (xs.map D.int) [S, R, s2, some (.dat (.int t)), some (.own acc), s5] = .nx [S, R, s2, some (.dat (.int (t + xs.sum))), some (.own (acc ++ (runS t xs).map D.int)), t5]
  | [], t, acc, s5, _ => ⟨s5, by rw [runS, List.sum_nil, Int.add_zero, List.map_nil, List.append_nil]; rfl⟩
  | x :: xs, t, acc, s5, h => by
    simp only [List.length_cons] at h
    obtain ⟨t5, e⟩ := inner_loop (S := S) (R := R) xs (t + x) (acc ++ [.int (t + x)]) (some (.dat (.int x))) (by rw [List.length_append, List.length_singleton]; omega)
    refine ⟨t5, ?_⟩
    have c : forL (tgName 5) bI ((x :: xs).map D.int) [S, R, s2, some (.dat (.int t)), some (.own acc), s5] = (bI [S, R, s2, some (.dat (.int t)), some (.own acc), some (.dat (.int x))]).loop (forL (tgName 5) bI (xs.map D.int)) := forL_cons rfl
    have z : bI [S, R, s2, some (.dat (.int t)), some (.own acc), some (.dat (.int x))] = .nx [S, R, s2, some (.dat (.int (t + x))), some (.own (acc ++ [.int (t + x)])), some (.dat (.int x))] := by
      have sz := fun y : SR => szS_lt (xs := acc) (x := y) (by omega)
      simp [bI, sz]
    rw [c, z, lo_nx, e, runS, List.map_cons, List.sum_cons, List.append_assoc]
    rw [show t + x + xs.sum = t + (x + xs.sum) by omega]
    rfl
def bL : G := (gSeq (gIf (t2 neD (fB sumA (fCons (fIxO 1 (f1 negI (fC (.int 1)))) fNil)) (fC (.int 0))) gBrk gNx)
    (gSeq (gMix 3 4 (fC (.int 0)) (fDisp fNil))
    (gSeq (gFor (fIt (fSl (fIxO 1 (f1 negI (fC (.int 1)))) oNone (oSome (f1 negI (fC (.int 1)))))) (tgName 5) bI)
    (gApp 1 (fTupX 4)))))
theorem bL_brk {S : Option Slot} {acc : List D} (hs : xs.sum ≠ 0) : bL [S, some (.own (acc ++ [ti xs])), s2, s3, s4, s5] = .bk [S, some (.own (acc ++ [ti xs])), s2, s3, s4, s5] := by
  have a := at_last (as := acc) (x := ti xs)
  have s := sumA_ti (xs := xs)
  unfold bL
  generalize acc ++ [ti xs] = Z at *
  generalize ti xs = X at *
  simp [a, s, hs]
theorem bL_nx {S : Option Slot} {acc : List D} (hs : xs.sum = 0) (hn : xs ≠ []) (hl : xs.length ≤ 500) (ha : acc.length ≤ 500) : ∃ t3 t4 t5, bL [S, some (.own (acc ++ [ti xs])), s2, s3, s4, s5] = .nx [S, some (.own (acc ++ [ti xs] ++ [ti (nxt xs)])), s2, t3, t4, t5] := by
  have a := at_last (as := acc) (x := ti xs)
  have s := sumA_ti (xs := xs)
  have sl := sl_m1 hn
  have it : items (ti xs.dropLast) = some (xs.dropLast.map D.int) := rfl
  obtain ⟨t5, e⟩ := inner_loop (S := S) (R := some (.own (acc ++ [ti xs]))) (s2 := s2) xs.dropLast 0 [] s5 (by rw [List.length_dropLast]; simp; omega)
  rw [List.nil_append] at e
  have hz : (acc ++ [ti xs]).length < 1000000 := by rw [List.length_append, List.length_singleton]; omega
  have sz := fun y : SR => szS_lt (xs := acc ++ [ti xs]) (x := y) hz
  refine ⟨some (.dat (.int (0 + xs.dropLast.sum))), some (.own ((runS 0 xs.dropLast).map D.int)), t5, ?_⟩
  have tt : D.tup ((runS 0 xs.dropLast).map D.int) = ti (nxt xs) := rfl
  rw [hs] at s
  unfold bL
  generalize bI = BI at *
  generalize ti (nxt xs) = Z1 at *
  generalize (runS 0 xs.dropLast).map D.int = Y at *
  generalize xs.dropLast.map D.int = Y2 at *
  generalize ti xs.dropLast = Y3 at *
  generalize acc ++ [ti xs] = Z at *
  generalize ti xs = X at *
  simp [a, s, sl, s_For, it, e, sz, tt]
theorem rows_loop {S : Option Slot} : ∀ (m : Nat) (xs : List Int) (acc : List D) (k : Nat) (s2 s3 s4 s5 : Option Slot), xs.head? = some 1 → xs.length ≤ m + 1 → m ≤ 24 → acc.length + m ≤ 400 →
    ∃ t2 t3 t4 t5, forL (tgName 2) bL ((List.range' k (m + 1)).map fun j => D.int (j : Nat)) [S, some (.own (acc ++ [ti xs])), s2, s3, s4, s5] = .nx [S, some (.own (acc ++ (rws m xs).map ti)), t2, t3, t4, t5]
  | m, xs, acc, k, s2, s3, s4, s5, h1, h2, h3, h4 => by
    have hn : xs ≠ [] := by intro e; subst e; cases h1
    rw [List.range'_succ, List.map_cons]
    have c : forL (tgName 2) bL (D.int (k : Nat) :: (List.range' (k + 1) m).map fun j => D.int (j : Nat)) [S, some (.own (acc ++ [ti xs])), s2, s3, s4, s5] = (bL [S, some (.own (acc ++ [ti xs])), some (.dat (.int (k : Nat))), s3, s4, s5]).loop (forL (tgName 2) bL ((List.range' (k + 1) m).map fun j => D.int (j : Nat))) := forL_cons rfl
    rw [c]
    by_cases hs : xs.sum = 0
    · have hl : 2 ≤ xs.length := by
        match xs, h1, hs with
        | [a], h, hs =>
          have e : a = 1 := by simpa using h
          subst e
          simp at hs
        | a :: b :: c, _, _ => simp
      obtain ⟨u3, u4, u5, e⟩ := bL_nx (S := S) (acc := acc) (s2 := some (.dat (.int (k : Nat)))) (s3 := s3) (s4 := s4) (s5 := s5) hs hn (by omega) (by omega)
      rw [e, lo_nx]
      cases m with
      | zero => omega
      | succ m =>
        obtain ⟨t2, t3, t4, t5, e2⟩ := rows_loop (S := S) m (nxt xs) (acc ++ [ti xs]) (k + 1) (some (.dat (.int (k : Nat)))) u3 u4 u5 (nxt_head h1 hl) (by rw [nxt_len]; omega) (by omega) (by rw [List.length_append, List.length_singleton]; omega)
        refine ⟨t2, t3, t4, t5, ?_⟩
        rw [rws, if_pos hs, List.map_cons]
        refine Eq.trans e2 ?_
        rw [List.append_assoc]
        rfl
    · rw [bL_brk hs, lo_bk]
      refine ⟨some (.dat (.int (k : Nat))), s3, s4, s5, ?_⟩
      cases m with
      | zero => rw [rws]; rfl
      | succ m => rw [rws, if_neg hs]; rfl
theorem lrows_ok (hw : IsW w n) (n1 : 1 ≤ n) (n2 : n ≤ 24) : m__law_rows [.dat (ti w)] = .ok (.lst ((rowsT w n).map ti)) none := by
  obtain ⟨t2, t3, t4, t5, e⟩ := rows_loop (S := some (.dat (ti w))) (n - 1) w [] 0 none none none none hw.2.2 (by have := hw.1; omega) (by omega) (by simp; omega)
  rw [List.nil_append, List.nil_append, ← List.range_eq_range', show n - 1 + 1 = n by omega] at e
  have rg : ∀ ρ : En, range1 (.int n) ρ = .ok ((List.range n).map fun j => D.int (j : Nat)) ρ := fun ρ => range1_nat (by omega)
  have el : lenD [ti w] = some (.int n) := by rw [lenD_tI, hw.1]
  have tp : tupleD [ti w] = some (ti w) := rfl
  unfold m__law_rows rowsT
  rw [mk_out]
  have g : g__law_rows = (gSeq (gOwn 1 (fDisp (fCons (fB tupleD (fCons (fVar 0) fNil)) fNil)))
    (gSeq (gFor (fRange1 (fCons (fB lenD (fCons (fVar 0) fNil)) fNil)) (tgName 2) bL)
    (gFrz 1 (gRet (fVar 1))))) := rfl
  rw [g]
  generalize bL = BL at *
  generalize (rws (n - 1) w).map ti = Y at *
  generalize (List.range n).map (fun j => D.int (j : Nat)) = R at *
  generalize ti w = X at *
  simp [tp, el, s_For, rg, e]
end
end K34

set_option Elab.async false
set_option linter.all false
set_option maxRecDepth 100000
set_option autoImplicit false
namespace K34
open PySem PySem.Spec PyProof.Rows L2 DL
theorem tab0 : ((List.range 25).all fun a => decide (PySem.W.mcComb ((a : Nat) : Int) 0 = 1)) = true := by decide +kernel
theorem tabZ : ((List.range 25).all fun b => decide (PySem.W.mcComb 0 ((b : Nat) + 1 : Int) = 0)) = true := by decide +kernel
theorem tabP : ((List.range 25).all fun a => (List.range 25).all fun b => decide (PySem.W.mcComb ((a : Nat) + 1 : Int) ((b : Nat) + 1 : Int) = PySem.W.mcComb ((a : Nat) : Int) ((b : Nat) : Int) + PySem.W.mcComb ((a : Nat) : Int) ((b : Nat) + 1 : Int))) = true := by decide +kernel
theorem comb_ch : ∀ (a b : Nat), a ≤ 24 → b ≤ 24 → PySem.W.mcComb ((a : Nat) : Int) ((b : Nat) : Int) = ch a b
  | a, 0, ha, _ => by
    have := List.all_eq_true.mp tab0 a (List.mem_range.mpr (by omega))
    rw [ch_0]
    exact of_decide_eq_true this
  | 0, b + 1, _, hb => by
    have := List.all_eq_true.mp tabZ b (List.mem_range.mpr (by omega))
    rw [ch_z]
    exact of_decide_eq_true this
  | a + 1, b + 1, ha, hb => by
    have := List.all_eq_true.mp (List.all_eq_true.mp tabP a (List.mem_range.mpr (by omega))) b (List.mem_range.mpr (by omega))
    have e := of_decide_eq_true this
    have i1 := comb_ch a b (by omega) (by omega)
    have i2 := comb_ch a (b + 1) (by omega) hb
    push_cast at i1 i2 ⊢
    rw [e, i1, i2, ch_s]
theorem ch_bd : ∀ (a i : Nat), 0 ≤ ch a i ∧ ch a i ≤ 2 ^ a
  | 0, 0 => by decide
  | 0, i + 1 => by rw [ch_z]; decide
  | a + 1, 0 => by
    rw [ch_0, Int.pow_succ]
    have := (ch_bd a 0).2
    rw [ch_0] at this
    omega
  | a + 1, i + 1 => by
    have h1 := ch_bd a i
    have h2 := ch_bd a (i + 1)
    rw [ch_s, Int.pow_succ]
    omega
theorem ch_small {a i : Nat} (h : a ≤ 24) : (ch a i).natAbs < 2 ^ 25 := by
  have b := ch_bd a i
  have p : (2 : Int) ^ a ≤ 2 ^ 24 := by
    have := Nat.pow_le_pow_right (n := 2) (by decide) h
    exact_mod_cast this
  omega
theorem ch_step (a i : Nat) : ch a i * ((a : Int) - (1 + (i : Int)) + 1) / (1 + (i : Int)) = ch a (i + 1) := by
  have h := ch_mul a i
  have e : ch a i * ((a : Int) - (1 + (i : Int)) + 1) = (1 + (i : Int)) * ch a (i + 1) := by
    generalize ch a i = x at *
    generalize ch a (i + 1) = y at *
    grind
  rw [e, Int.mul_ediv_cancel_left _ (by omega)]
def chs (w k : Nat) : List D := (List.range k).map fun j => D.int (ch w j)
theorem chs_s (w k : Nat) : chs w (k + 1) = chs w k ++ [.int (ch w k)] := by
  unfold chs
  rw [List.range_succ, List.map_append]
  rfl
theorem chs_len (w k : Nat) : (chs w k).length = k := by simp [chs]
section
variable {w : List Int} {n m a : Nat} {d : D} {S M : Slot} {s2 s3 s4 s5 s6 : Option Slot}
def bC : G := (gApp 2 (f2 fdvI (f2 mulD (fIxO 2 (f2 subI (fVar 3) (fC (.int 1)))) (f2 addD (f2 subI (fVar 0) (fVar 3)) (fC (.int 1)))) (fVar 3)))
theorem bC_ok (ha : a ≤ 24) {k : Nat} (hk : k ≤ 24) : bC [some (.dat (.int (a : Nat))), some M, some (.own (chs a (k + 1))), some (.dat (.int (1 + (k : Nat))))] = .nx [some (.dat (.int (a : Nat))), some M, some (.own (chs a (k + 1 + 1))), some (.dat (.int (1 + (k : Nat))))] := by
  have z : (1 + (k : Int)) - 1 = (k : Int) := by omega
  have ix : atI (chs a (k + 1)) (k : Int) = some (.int (ch a k)) := by
    rw [DL.atI_nat (by rw [chs_len]; omega)]
    unfold chs
    simp
  have mu : mulD (.int (ch a k)) (.int ((a : Int) - (1 + (k : Int)) + 1)) = some (.int (ch a k * ((a : Int) - (1 + (k : Int)) + 1))) := mulD_b (m := 25) (n := 10) (ch_small ha) (by omega) (by omega) (by omega)
  have fd : fdvI (.int (ch a k * ((a : Int) - (1 + (k : Int)) + 1))) (.int (1 + (k : Int))) = some (.int (ch a (k + 1))) := by
    rw [fdvI_b (n := 10) (by omega) (by omega) (by omega), ch_step]
  have sz := fun y : SR => szS_lt (xs := chs a (k + 1)) (x := y) (by rw [chs_len]; omega)
  rw [chs_s a (k + 1)]
  unfold bC
  generalize ch a k * ((a : Int) - (1 + (k : Int)) + 1) = P at *
  generalize hQ : ((a : Int) - (1 + (k : Int)) + 1) = Q at *
  generalize chs a (k + 1) = Y at *
  generalize ch a k = x0 at *
  generalize ch a (k + 1) = x1 at *
  simp [z, ix, hQ, mu, fd, sz]
theorem chosen_loop (ha : a ≤ 24) : ∀ (c k : Nat) (s3 : Option Slot), k + c ≤ 24 → ∃ t3, forL (tgName 3) bC ((List.range' k c).map fun j => D.int (1 + (j : Nat))) [some (.dat (.int (a : Nat))), some M, some (.own (chs a (k + 1))), s3] = .nx [some (.dat (.int (a : Nat))), some M, some (.own (chs a (k + c + 1))), t3]
  | 0, k, s3, _ => ⟨s3, rfl⟩
  | c + 1, k, s3, h => by
    obtain ⟨t3, e⟩ := chosen_loop ha c (k + 1) (some (.dat (.int (1 + (k : Nat))))) (by omega)
    refine ⟨t3, ?_⟩
    rw [List.range'_succ, List.map_cons]
    have c1 : forL (tgName 3) bC (D.int (1 + (k : Nat)) :: (List.range' (k + 1) c).map fun j => D.int (1 + (j : Nat))) [some (.dat (.int (a : Nat))), some M, some (.own (chs a (k + 1))), s3] = (bC [some (.dat (.int (a : Nat))), some M, some (.own (chs a (k + 1))), some (.dat (.int (1 + (k : Nat))))]).loop (forL (tgName 3) bC ((List.range' (k + 1) c).map fun j => D.int (1 + (j : Nat)))) := forL_cons rfl
    rw [c1, bC_ok ha (by omega), lo_nx, show k + (c + 1) + 1 = k + 1 + c + 1 by omega]
    exact e
theorem chosen_ok (ha : a ≤ 24) (m1 : 1 ≤ m) (m2 : m ≤ 24) : m__law_chosen [.dat (.int (a : Nat)), .dat (.int (m : Nat))] = .ok (.lst (chs a m)) none := by
  obtain ⟨t3, e⟩ := chosen_loop ha (m - 1) 0 none (M := .dat (.int (m : Nat))) (by omega)
  rw [← List.range_eq_range', show 0 + (m - 1) + 1 = m by omega] at e
  have c0 : chs a (0 + 1) = [.int 1] := by
    unfold chs
    simp [ch_0]
  rw [c0] at e
  have z : ((m : Int) - 1).toNat = m - 1 := by omega
  have rg : ∀ ρ : En, range2 (.int 1) (.int (m : Nat)) ρ = .ok ((List.range (m - 1)).map fun k => .int (1 + (k : Nat))) ρ := fun ρ => by rw [range2_int (by omega), z]
  unfold m__law_chosen
  rw [mk_out]
  have g : g__law_chosen = (gSeq (gOwn 2 (fDisp (fCons (fC (.int 1)) fNil)))
    (gSeq (gFor (fRange2 (fCons (fC (.int 1)) (fCons (fVar 1) fNil))) (tgName 3) bC)
    (gFrz 2 (gRet (fVar 2))))) := rfl
  rw [g]
  generalize bC = BC at *
  generalize chs a m = Y at *
  generalize (List.range (m - 1)).map (fun k => D.int (1 + (k : Nat))) = R at *
  simp [s_For, rg, e]
/-- the sums below place k -/
def pB (w : List Int) (k j : Nat) : Int := ws (fun a => ch a j) 0 (w.take k)
theorem pB_s {k : Nat} (hk : k < w.length) (j : Nat) : pB w (k + 1) j = pB w k j + w[k] * ch k j := by
  unfold pB
  rw [← List.take_append_getElem hk, ws_snoc, List.length_take, Nat.min_eq_left (by omega), Nat.zero_add]
theorem pB_bd (hs : Sg w) : ∀ (k : Nat), k ≤ w.length → k ≤ 24 → ∀ j, (pB w k j).natAbs ≤ k * 2 ^ 25
  | 0, _, _, j => by
    unfold pB
    rw [List.take_zero]
    simp [ws]
  | k + 1, h1, h2, j => by
    have ih := pB_bd hs k (by omega) (by omega) j
    have c := ch_small (a := k) (i := j) (by omega)
    rw [pB_s (by omega)]
    rcases sg_at hs (k := k) (by omega) with z | z <;> rw [z] <;> omega
def bnd24 (w : List Int) (k m : Nat) : D := .lst ((List.range m).map fun j => .int (pB w k j))
def bB : G := (gSeq (gSet 5 (fCall 2 m__law_chosen [] (fCons (f2 mulD (fVar 4) (fVar 1)) (fCons (fVar 2) fNil))))
    (gSet 3 (fOfL (fLc (fRange1 (fCons (fVar 2) fNil)) [6] (tgName 6) fYes (f2 addD (f2 ixD (fVar 3) (fVar 6)) (f2 mulD (f2 ixD (fVar 0) (fVar 4)) (f2 ixD (fVar 5) (fVar 6))))))))
theorem bB_ok (hs : Sg w) {k : Nat} (hk : k < w.length) (hn : w.length ≤ 24) (m1 : 1 ≤ m) (m2 : m ≤ 24) : bB [some (.dat (ti w)), some (.dat (.int 1)), some (.dat (.int (m : Nat))), some (.dat (bnd24 w k m)), some (.dat (.int (k : Nat))), s5, none] = .nx [some (.dat (ti w)), some (.dat (.int 1)), some (.dat (.int (m : Nat))), some (.dat (bnd24 w (k + 1) m)), some (.dat (.int (k : Nat))), some (.dat (.lst (chs k m))), none] := by
  have mu : mulD (.int (k : Nat)) (.int 1) = some (.int (k : Nat)) := by
    have := mulD_b (i := (k : Nat)) (j := 1) (m := 10) (n := 2) (by omega) (by decide) (by omega) (by omega)
    rwa [Int.mul_one] at this
  have c := chosen_ok (a := k) (m := m) (by omega) m1 m2
  have rg : ∀ ρ : En, range1 (.int (m : Nat)) ρ = .ok ((List.range m).map fun j => D.int (j : Nat)) ρ := fun ρ => range1_nat (by omega)
  have iw := ixD_ti (w := w) (k := k) hk
  have f := lc_all (it := fRange1 (fCons (fVar 2) fNil)) (vs := [6]) (t := tgName 6) (te := f2 addD (f2 ixD (fVar 3) (fVar 6)) (f2 mulD (f2 ixD (fVar 0) (fVar 4)) (f2 ixD (fVar 5) (fVar 6))))
    (ρ := [some (.dat (ti w)), some (.dat (.int 1)), some (.dat (.int (m : Nat))), some (.dat (bnd24 w k m)), some (.dat (.int (k : Nat))), some (.dat (.lst (chs k m))), none]) (ρ1 := [some (.dat (ti w)), some (.dat (.int 1)), some (.dat (.int (m : Nat))), some (.dat (bnd24 w k m)), some (.dat (.int (k : Nat))), some (.dat (.lst (chs k m))), none])
    (fun j : Nat => D.int (j : Nat)) (fun j => D.int (pB w (k + 1) j)) (List.range m) (by simp [rg]) rfl (by simp; omega) (fun j hj => by
      have hj : j < m := by simpa using hj
      refine ⟨[some (.dat (ti w)), some (.dat (.int 1)), some (.dat (.int (m : Nat))), some (.dat (bnd24 w k m)), some (.dat (.int (k : Nat))), some (.dat (.lst (chs k m))), some (.dat (.int (j : Nat)))], rfl, ?_, rfl⟩
      have i1 : ixD (bnd24 w k m) (.int (j : Nat)) = some (.int (pB w k j)) := by
        unfold bnd24
        rw [ixD_l, DL.atI_nat (by simpa using hj)]
        simp [hj]
      have i2 : ixD (.lst (chs k m)) (.int (j : Nat)) = some (.int (ch k j)) := by
        rw [ixD_l, DL.atI_nat (by rw [chs_len]; exact hj)]
        unfold chs
        simp [hj]
      have mm : mulD (.int w[k]) (.int (ch k j)) = some (.int (w[k] * ch k j)) := mulD_b (m := 2) (n := 25) (by rcases sg_at hs hk with z | z <;> rw [z] <;> decide) (ch_small (by omega)) (by omega) (by omega)
      rw [pB_s hk]
      generalize w[k] * ch k j = P at *
      generalize w[k] = x at *
      generalize ch k j = y at *
      generalize pB w k j = p at *
      generalize bnd24 w k m = Z at *
      generalize chs k m = Y at *
      generalize ti w = X at *
      simp [i1, i2, iw, mm])
  have e : D.lst ((List.range m).map fun j => D.int (pB w (k + 1) j)) = bnd24 w (k + 1) m := rfl
  generalize (List.range m).map (fun j => D.int (pB w (k + 1) j)) = Y1 at *
  unfold bB
  generalize fLc _ _ _ _ _ = F at *
  generalize bnd24 w k m = Z at *
  generalize bnd24 w (k + 1) m = Z2 at *
  generalize chs k m = Y at *
  generalize ti w = X at *
  simp [mu, c, f, e]
theorem binom_loop (hs : Sg w) (hn : w.length ≤ 24) (m1 : 1 ≤ m) (m2 : m ≤ 24) : ∀ (c k : Nat) (s4 s5 : Option Slot), k + c = w.length → ∃ t4 t5, forL (tgName 4) bB ((List.range' k c).map fun j => D.int (j : Nat)) [some (.dat (ti w)), some (.dat (.int 1)), some (.dat (.int (m : Nat))), some (.dat (bnd24 w k m)), s4, s5, none] = .nx [some (.dat (ti w)), some (.dat (.int 1)), some (.dat (.int (m : Nat))), some (.dat (bnd24 w w.length m)), t4, t5, none]
  | 0, k, s4, s5, h => ⟨s4, s5, by
    have : k = w.length := by omega
    subst this
    rfl⟩
  | c + 1, k, s4, s5, h => by
    obtain ⟨t4, t5, e⟩ := binom_loop hs hn m1 m2 c (k + 1) (some (.dat (.int (k : Nat)))) (some (.dat (.lst (chs k m)))) (by omega)
    refine ⟨t4, t5, ?_⟩
    rw [List.range'_succ, List.map_cons]
    have c1 : forL (tgName 4) bB (D.int (k : Nat) :: (List.range' (k + 1) c).map fun j => D.int (j : Nat)) [some (.dat (ti w)), some (.dat (.int 1)), some (.dat (.int (m : Nat))), some (.dat (bnd24 w k m)), s4, s5, none] = (bB [some (.dat (ti w)), some (.dat (.int 1)), some (.dat (.int (m : Nat))), some (.dat (bnd24 w k m)), some (.dat (.int (k : Nat))), s5, none]).loop (forL (tgName 4) bB ((List.range' (k + 1) c).map fun j => D.int (j : Nat))) := forL_cons rfl
    rw [c1, bB_ok hs (by omega) hn m1 m2, lo_nx]
    exact e
def bsum (w : List Int) (j : Nat) : Int := ws (fun a => ch a j) 0 w
theorem lbinom_ok (hw : IsW w n) (n2 : n ≤ 24) (m1 : 1 ≤ m) (m2 : m ≤ 24) : m__law_binomials [.dat (ti w), .dat (.int 1), .dat (.int (m : Nat))] = .ok (.lst ((List.range m).map fun j => .int (bsum w j))) none := by
  have hl := hw.1
  obtain ⟨t4, t5, e⟩ := binom_loop hw.2.1 (by omega) m1 m2 w.length 0 none none (by omega)
  rw [← List.range_eq_range'] at e
  have z0 : bnd24 w 0 m = .lst (List.replicate m (.int 0)) := by
    unfold bnd24 pB
    rw [List.take_zero]
    show D.lst ((List.range m).map fun _ => D.int 0) = _
    rw [List.map_const', List.length_range]
  have z1 : bnd24 w w.length m = .lst ((List.range m).map fun j => .int (bsum w j)) := by
    unfold bnd24 pB bsum
    rw [List.take_length]
  rw [z0, z1] at e
  have mu := mul_one (x := .int 0) (n := m) (by omega)
  have el : lenD [ti w] = some (.int w.length) := lenD_tI
  have rg : ∀ ρ : En, range1 (.int w.length) ρ = .ok ((List.range w.length).map fun j => D.int (j : Nat)) ρ := fun ρ => range1_nat (by omega)
  unfold m__law_binomials
  rw [mk_out]
  have g : g__law_binomials = (gSeq (gSet 3 (f2 mulD (fLst (fCons (fC (.int 0)) fNil)) (fVar 2)))
    (gSeq (gFor (fRange1 (fCons (fB lenD (fCons (fVar 0) fNil)) fNil)) (tgName 4) bB)
    (gRet (fVar 3)))) := rfl
  rw [g]
  generalize bB = BB at *
  generalize (List.range m).map (fun j => D.int (bsum w j)) = Y at *
  generalize List.replicate m (D.int 0) = Y0 at *
  generalize (List.range w.length).map (fun j => D.int (j : Nat)) = R at *
  generalize ti w = X at *
  simp [mu, el, s_For, rg, e]
end
end K34

set_option Elab.async false
set_option linter.all false
set_option maxRecDepth 100000
set_option autoImplicit false
namespace K34
open PySem PySem.Spec PyProof.Rows L2 DL
theorem combD_at {a b : Int} (h : 0 ≤ a ∧ 0 ≤ b ∧ a < 2 ^ 62 ∧ b ≤ 9000) : combD [.int a, .int b] = some (.int (PySem.W.mcComb a b)) := if_pos h
def en : Nat → List Int → List (Nat × Int)
  | _, [] => []
  | k, x :: xs => (k, x) :: en (k + 1) xs
theorem enumF_en : ∀ (k : Nat) (xs : List Int), enumF k (xs.map D.int) = (en k xs).map fun p => D.tup [.int (p.1 : Nat), .int p.2]
  | _, [] => rfl
  | k, x :: xs => by
    rw [List.map_cons, en, List.map_cons, ← enumF_en (k + 1) xs]
    rfl
theorem en_mem : ∀ {k : Nat} {xs : List Int} {p : Nat × Int}, p ∈ en k xs → p.1 < k + xs.length ∧ p.2 ∈ xs
  | k, x :: xs, p, h => by
    rw [en] at h
    rcases List.mem_cons.mp h with h | h
    · subst h
      exact ⟨by simp, List.mem_cons_self ..⟩
    · have := en_mem h
      exact ⟨by rw [List.length_cons]; omega, List.mem_cons_of_mem _ this.2⟩
theorem en_len : ∀ (k : Nat) (xs : List Int), (en k xs).length = xs.length
  | _, [] => rfl
  | k, x :: xs => by rw [en, List.length_cons, en_len, List.length_cons]
theorem en_sum (f : Nat → Int) : ∀ (k : Nat) (xs : List Int), ((en k xs).map fun p => p.2 * f p.1).sum = ws f k xs
  | _, [] => rfl
  | k, x :: xs => by rw [en, List.map_cons, List.sum_cons, en_sum f (k + 1) xs, ws]
section
variable {w : List Int} {n m a j : Nat} {d dm : D} {h : List D}
theorem bin_sums_ok (hw : IsW w n) (n2 : n ≤ 24) (m2 : m ≤ 24) : m_binomial_sums [.dat (ti w), .dat (.int (m : Nat)), .dat (.int 1)] = .ok (.lst ((List.range m).map fun j => .int (bsum w j))) none := by
  have hl := hw.1
  have rg : ∀ ρ : En, range1 (.int (m : Nat)) ρ = .ok ((List.range m).map fun j => D.int (j : Nat)) ρ := fun ρ => range1_nat (by omega)
  have ee : ∀ ρ : En, enum1 (ti w) ρ = .ok (enumF 0 (w.map D.int)) ρ := fun ρ => enum1_at (a := ti w) rfl
  have f := lc_all (it := fRange1 (fCons (fVar 1) fNil)) (vs := [3]) (t := tgName 3) (te := fB sumD (fCons (fOfL (fLc (fEnum (fCons (fVar 0) fNil)) [4, 5] (tgTup 2 (tgCons (tgName 4) (tgCons (tgName 5) tgNil))) fYes (f2 mulD (fVar 5) (fB combD (fCons (f2 mulD (fVar 2) (fVar 4)) (fCons (fVar 3) fNil)))))) fNil))
    (ρ := [some (.dat (ti w)), some (.dat (.int (m : Nat))), some (.dat (.int 1)), none, none, none]) (ρ1 := [some (.dat (ti w)), some (.dat (.int (m : Nat))), some (.dat (.int 1)), none, none, none]) (fun j : Nat => D.int (j : Nat)) (fun j => D.int (bsum w j)) (List.range m) (by simp [rg]) rfl (by simp; omega) (fun j hj => by
      have hj : j < m := by simpa using hj
      refine ⟨[some (.dat (ti w)), some (.dat (.int (m : Nat))), some (.dat (.int 1)), some (.dat (.int (j : Nat))), none, none], rfl, ?_, rfl⟩
      have g := lc_all (it := fEnum (fCons (fVar 0) fNil)) (vs := [4, 5]) (t := tgTup 2 (tgCons (tgName 4) (tgCons (tgName 5) tgNil))) (te := f2 mulD (fVar 5) (fB combD (fCons (f2 mulD (fVar 2) (fVar 4)) (fCons (fVar 3) fNil))))
        (ρ := [some (.dat (ti w)), some (.dat (.int (m : Nat))), some (.dat (.int 1)), some (.dat (.int (j : Nat))), none, none]) (ρ1 := [some (.dat (ti w)), some (.dat (.int (m : Nat))), some (.dat (.int 1)), some (.dat (.int (j : Nat))), none, none])
        (fun p : Nat × Int => D.tup [.int (p.1 : Nat), .int p.2]) (fun p => D.int (p.2 * ch p.1 j)) (en 0 w) (by
          rw [← enumF_en]
          generalize enumF 0 (w.map D.int) = E at *
          generalize ti w = X at *
          simp [ee]) rfl (by rw [en_len]; omega) (fun p hp => by
          obtain ⟨p1, p2⟩ := en_mem hp
          have c1 : combD [.int (p.1 : Nat), .int (j : Nat)] = some (.int (ch p.1 j)) := by
            rw [← comb_ch p.1 j (by omega) (by omega)]
            exact combD_at ⟨by omega, by omega, by omega, by omega⟩
          have m1 : mulD (.int 1) (.int (p.1 : Nat)) = some (.int (p.1 : Nat)) := by
            have := mulD_b (i := 1) (j := (p.1 : Nat)) (m := 2) (n := 10) (by decide) (by omega) (by omega) (by omega)
            rwa [Int.one_mul] at this
          have m2 : mulD (.int p.2) (.int (ch p.1 j)) = some (.int (p.2 * ch p.1 j)) := mulD_b (m := 2) (n := 25) (by rcases hw.2.1 _ p2 with z | z <;> rw [z] <;> decide) (ch_small (by omega)) (by omega) (by omega)
          refine ⟨[some (.dat (ti w)), some (.dat (.int (m : Nat))), some (.dat (.int 1)), some (.dat (.int (j : Nat))), some (.dat (.int (p.1 : Nat))), some (.dat (.int p.2))], rfl, ?_, rfl⟩
          generalize p.2 * ch p.1 j = P at *
          generalize ch p.1 j = C at *
          generalize ti w = X at *
          simp [c1, m1, m2])
      have sm : sumD [.lst ((en 0 w).map fun p => D.int (p.2 * ch p.1 j))] = some (.int (bsum w j)) := by
        have := sumD_l (xs := (en 0 w).map fun p => p.2 * ch p.1 j)
        rw [List.map_map, en_sum (fun a => ch a j)] at this
        exact this
      generalize (en 0 w).map (fun p => D.int (p.2 * ch p.1 j)) = Y at *
      generalize bsum w j = B at *
      generalize fLc _ _ _ _ _ = F at *
      generalize ti w = X at *
      simp [g, sm])
  unfold m_binomial_sums
  rw [mk_out]
  simp only [g_binomial_sums]
  generalize (List.range m).map (fun j => D.int (bsum w j)) = Y at *
  generalize fLc (fRange1 _) _ _ _ _ = F at *
  generalize ti w = X at *
  simp [f]
def noi (w : List Int) (m : Nat) : List Rat := (List.range m).map fun j => ((bsum w j : Int) : Rat)
theorem noises_ok (hd : seqOf d = some (w.map .int)) (hw : IsW w n) (n1 : 1 ≤ n) (n2 : n ≤ 24) (m1 : 1 ≤ m) (m2 : m ≤ 24) : m_binomial_noises [.dat d, .dat (.int (m : Nat))] = .ok (rT (noi w m)) none := by
  have c := signs_ok hd hw n1 n2
  have wh := is_whole_3 (i := (m : Int)) (lo := 1) (hi := 24)
  rw [decide_eq_true (by omega), decide_eq_true (by omega)] at wh
  have bs := bin_sums_ok (m := m) hw n2 m2
  have it : items (.lst ((List.range m).map fun j => D.int (bsum w j))) = some ((List.range m).map fun j => D.int (bsum w j)) := rfl
  have f := lc_all (it := fIt (fCall 3 m_binomial_sums [] (fCons (fVar 0) (fCons (fVar 1) (fCons (fC (.int 1)) fNil))))) (vs := [2]) (t := tgName 2) (te := fTup (fCons (fVar 2) (fCons (fC (.int 1)) fNil)))
    (ρ := [some (.dat (ti w)), some (.dat (.int (m : Nat))), none]) (ρ1 := [some (.dat (ti w)), some (.dat (.int (m : Nat))), none]) (fun j : Nat => D.int (bsum w j)) (fun j => rD ((bsum w j : Int) : Rat)) (List.range m) (by
      generalize (List.range m).map (fun j => D.int (bsum w j)) = Y at *
      generalize ti w = X at *
      simp [bs, it]) rfl (by simp; omega) (fun j hj => ⟨[some (.dat (ti w)), some (.dat (.int (m : Nat))), some (.dat (.int (bsum w j)))], rfl, by
        have e : rD ((bsum w j : Int) : Rat) = .tup [.int (bsum w j), .int 1] := rfl
        rw [e]
        generalize ti w = X at *
        simp, rfl⟩)
  have tp : tupleD [.lst ((List.range m).map fun j => rD ((bsum w j : Int) : Rat))] = some (rT (noi w m)) := by
    unfold rT noi
    rw [List.map_map]
    rfl
  unfold m_binomial_noises
  rw [mk_out]
  simp only [g_binomial_noises]
  generalize rT (noi w m) = Z at *
  generalize (List.range m).map (fun j => rD ((bsum w j : Int) : Rat)) = Y at *
  generalize fLc _ _ _ _ _ = F at *
  generalize ti w = X at *
  simp [c, wh, f, tp]
theorem noises_word {i : Int} {s : Str} (e : m_check_signs [.dat d] = eW i s) : m_binomial_noises [.dat d, .dat dm] = eW i s := by
  unfold eW at *
  unfold m_binomial_noises
  rw [mk_out]
  simp [g_binomial_noises, e]
theorem noises_count (hd : seqOf d = some (w.map .int)) (hw : IsW w n) (n1 : 1 ≤ n) (n2 : n ≤ 24) (wh : m_is_whole [.dat dm, .dat (.int 1), .dat (.int 24)] = .ok (.bl false) none) : m_binomial_noises [.dat d, .dat dm] = .err "BadCount" [] none := by
  have c := signs_ok hd hw n1 n2
  unfold m_binomial_noises
  rw [mk_out]
  generalize ti w = X at *
  simp [g_binomial_noises, c, wh]
theorem lref_word {i : Int} {s : Str} (e : m_check_signs [.dat d] = eW i s) : m__law_refused [.dat d, .dat dm] = .ok (.tup [.str "word", .int i, .str s]) none := by
  have k := noises_word (dm := dm) e
  unfold eW at k
  unfold m__law_refused
  rw [mk_out]
  simp [g__law_refused, k, cat_BadWord, cat_BadCount]
theorem lref_count (hd : seqOf d = some (w.map .int)) (hw : IsW w n) (n1 : 1 ≤ n) (n2 : n ≤ 24) (wh : m_is_whole [.dat dm, .dat (.int 1), .dat (.int 24)] = .ok (.bl false) none) : m__law_refused [.dat d, .dat dm] = .ok (.tup [.str "count"]) none := by
  have k := noises_count hd hw n1 n2 wh
  unfold m__law_refused
  rw [mk_out]
  simp [g__law_refused, k, cat_BadWord, cat_BadCount]
theorem lref_no (hd : seqOf d = some (w.map .int)) (hw : IsW w n) (n1 : 1 ≤ n) (n2 : n ≤ 24) (m1 : 1 ≤ m) (m2 : m ≤ 24) : m__law_refused [.dat d, .dat (.int (m : Nat))] = .ok .non none := by
  have k := noises_ok hd hw n1 n2 m1 m2
  unfold m__law_refused
  rw [mk_out]
  generalize rT (noi w m) = Z at *
  simp [g__law_refused, k]
theorem rref_word {i : Int} {s : Str} (e : m_check_signs [.dat d] = eW i s) : m__law_rows_refused [.dat d] = .ok (.tup [.int i, .str s]) none := by
  have k : m_sum_rows [.dat d] = eW i s := by
    unfold eW at *
    unfold m_sum_rows
    rw [mk_out]
    simp [g_sum_rows, e]
  unfold eW at k
  unfold m__law_rows_refused
  rw [mk_out]
  simp [g__law_rows_refused, k, cat_BadWord]
theorem rref_no (hd : seqOf d = some (w.map .int)) (hw : IsW w n) (n1 : 1 ≤ n) (n2 : n ≤ 24) : m__law_rows_refused [.dat d] = .ok .non none := by
  have k := sum_rows_ok hd hw n1 n2
  unfold m__law_rows_refused
  rw [mk_out]
  generalize (rowsT w n).map ti = Z at *
  simp [g__law_rows_refused, k]
theorem signs_str {s : Str} : m_check_signs [.dat (.str s)] = eW 0 "many" := by
  have r : m_is_row [.dat (.str s), .dat (.int 1), .dat (.int 24)] = .ok (.bl false) none := by
    unfold m_is_row
    rw [mk_out]
    simp [g_is_row]
  have q : m__check_sign_row [.dat (.str s), .dat (.int 1), .dat (.int 24)] = eW 0 "many" := by
    unfold m__check_sign_row eW
    rw [mk_out]
    simp [g__check_sign_row, r]
  unfold eW at q
  unfold m_check_signs eW
  rw [mk_out]
  simp [g_check_signs, q]
/-- no word, with what is told of it -/
def OddW (d : D) (i : Int) (s : Str) : Prop := m_check_signs [.dat d] = eW i s ∧ PyData.strOk s = true
theorem pick_ok {xs : List D} {r : Int} (a : 0 ≤ r) (b : r < xs.length) : ∃ d ∈ xs, ixD (.lst xs) (.int r) = some d := by
  refine ⟨xs[r.toNat]'(by omega), List.getElem_mem _, ?_⟩
  rw [ixD_l, atI_int (by omega) b, List.getElem?_eq_getElem (by omega)]
theorem odd_word_ok (hw : IsW w n) (n1 : 1 ≤ n) (n2 : n ≤ 24) (hh : HandOk h) : ∃ d i s h', OddW d i s ∧ HandOk h' ∧ m__law_odd_word [.par 0 (.lst h), .dat (ti w)] = .ok (.tup [d, .int i, .str s]) (some (.lst h')) := by
  have hl := hw.1
  obtain ⟨r1, h1, a1, b1, hh1, e1⟩ := take_ok (m := 8) hh (by decide) (by simp)
  obtain ⟨r2, h2, a2, b2, hh2, e2⟩ := take_ok (m := (n : Int)) hh1 (by omega) (sm_of (by omega))
  obtain ⟨k, rfl⟩ := Int.eq_ofNat_of_zero_le a2
  have el : lenD [ti w] = some (.int n) := by rw [lenD_tI, hl]
  unfold m__law_odd_word
  rw [mk_out]
  simp only [g__law_odd_word]
  by_cases c : r1 < 5
  · obtain ⟨o, ho, io⟩ := pick_ok (xs := [.int 0, .int 2, .bl true, .non, .str "1"]) (r := r1) a1 (by simpa using c)
    have no : NoS o := by
      simp only [List.mem_cons, List.not_mem_nil, or_false] at ho
      rcases ho with e | e | e | e | e <;> subst e
      · exact .inl rfl
      · exact .inr (by rw [is_whole_3]; rfl)
      · exact .inr (is_whole_no rfl)
      · exact .inr (is_whole_no rfl)
      · exact .inr (is_whole_no rfl)
    have s1 : slD (ti w) none (some (k : Int)) = some (.tup ((w.take k).map D.int)) := by
      have q := cutD_to (ds := w.map D.int) (k := k) (by rw [List.length_map]; omega)
      show some (D.tup (DL.cutD (w.map D.int) none (some (k : Int)))) = _
      rw [q, List.map_take]
    have s2 : slD (ti w) (some ((k : Int) + 1)) none = some (.tup ((w.drop (k + 1)).map D.int)) := by
      have q := cutD_from (ds := w.map D.int) (k := k + 1) (by rw [List.length_map]; omega)
      show some (D.tup (DL.cutD (w.map D.int) (some ((k + 1 : Nat) : Int)) none)) = _
      rw [q, List.map_drop]
    have p1 : addD (.tup ((w.take k).map D.int)) (.tup [o]) = some (.tup ((w.take k).map D.int ++ [o])) := addD_tup (by simp; omega)
    have p2 : addD (.tup ((w.take k).map D.int ++ [o])) (.tup ((w.drop (k + 1)).map D.int)) = some (.tup ((w.take k).map D.int ++ [o] ++ (w.drop (k + 1)).map D.int)) := addD_tup (by simp; omega)
    have sb := signs_bad (d := .tup ((w.take k).map D.int ++ [o] ++ (w.drop (k + 1)).map D.int)) (b := o) (w := w.take k) (rest := (w.drop (k + 1)).map D.int) (by rw [List.append_assoc]; rfl) (fun x hx => hw.2.1 x (List.mem_of_mem_take hx)) no (by simp; omega)
    rw [List.length_take, Nat.min_eq_left (by omega)] at sb
    refine ⟨_, (k : Int), "sign", h2, ⟨sb, by decide +kernel⟩, hh2, ?_⟩
    generalize (w.take k).map D.int ++ [o] ++ (w.drop (k + 1)).map D.int = Z at *
    generalize (w.take k).map D.int ++ [o] = Z1 at *
    generalize (w.take k).map D.int = Z2 at *
    generalize (w.drop (k + 1)).map D.int = Z3 at *
    generalize ti w = X at *
    simp [e1, el, e2, c, io, s1, s2, p1, p2]
  by_cases c5 : r1 = 5
  · have f := neg_lc (ρ := [some (.par 0 (.lst h2)), some (.dat (ti w)), some (.dat (.int r1)), some (.dat (.int (k : Nat))), none, none]) (i := 5) (j := 1) (w := w) rfl (by simp) rfl (by omega)
    have sf : m_check_signs [.dat (ti (negW w))] = eW 0 "first" := by
      cases w with
      | nil => exact absurd hw.2.2 (by simp)
      | cons x v =>
        have hx : x = 1 := by have := hw.2.2; simpa using this
        subst hx
        refine signs_first (w := negW v) rfl (negW_sg fun y hy => hw.2.1 y (List.mem_cons_of_mem _ hy)) ?_
        unfold negW
        rw [List.length_map]
        rw [List.length_cons] at hl
        omega
    refine ⟨ti (negW w), 0, "first", h2, ⟨sf, by decide +kernel⟩, hh2, ?_⟩
    have tp : tupleD [.lst ((negW w).map D.int)] = some (ti (negW w)) := rfl
    generalize (negW w).map D.int = Y at *
    generalize ti (negW w) = Z at *
    generalize fLc _ _ _ _ _ = F at *
    generalize ti w = X at *
    subst c5
    simp [e1, el, e2, f, tp]
  · have m1 : mulD (.lst [.int 1]) (.int 25) = some (.lst (List.replicate 25 (.int 1))) := mul_one (n := 25) (by omega)
    have tp : tupleD [.lst (List.replicate 25 (D.int 1))] = some (.tup (List.replicate 25 (.int 1))) := rfl
    obtain ⟨o, ho, io⟩ := pick_ok (xs := [.str "+-", .tup (List.replicate 25 (.int 1))]) (r := r1 - 6) (by omega) (by simp; omega)
    have sb : m_check_signs [.dat o] = eW 0 "many" := by
      simp only [List.mem_cons, List.not_mem_nil, or_false] at ho
      rcases ho with e | e <;> subst e
      · exact signs_str
      · exact signs_long (ds := List.replicate 25 (.int 1)) rfl (by simp)
    refine ⟨o, 0, "many", h2, ⟨sb, by decide +kernel⟩, hh2, ?_⟩
    generalize List.replicate 25 (D.int 1) = R at *
    generalize ti w = X at *
    simp [e1, el, e2, c, c5, m1, tp, io]
end
end K34

set_option Elab.async false
set_option linter.all false
set_option maxRecDepth 100000
set_option autoImplicit false
namespace K34
open PySem PySem.Spec PyProof.Rows L2 DL
section
variable {w xs : List Int} {n m a j r : Nat} {d dm : D} {h : List D} {qs : List Rat}
theorem good_ints {k : Nat} : goodL (k + 1) (xs.map D.int) = true := by
  apply goodL_all
  intro y hy
  obtain ⟨z, _, rfl⟩ := List.mem_map.mp hy
  rfl
theorem good_rows {rs : List (List Int)} : good 64 (.tup (rs.map ti)) = true := by
  have : goodL 63 (rs.map ti) = true := by
    apply goodL_all
    intro y hy
    obtain ⟨z, _, rfl⟩ := List.mem_map.mp hy
    unfold ti
    simpa using good_ints (xs := z) (k := 61)
  simpa using this
theorem ne_self {d : D} (g : good 64 d = true) : neD d d = some (.bl false) := by
  rw [neD_eq, eqv_self g]
  rfl
theorem eq_self {d : D} (g : good 64 d = true) : eqD d d = some (.bl true) := by
  rw [eqD_eq, eqv_self g]
  rfl
theorem whole1_ok {i : Int} : m__law_is_whole [.dat (.int i)] = .ok (.bl true) none := by
  unfold m__law_is_whole
  rw [mk_out]
  simp [g__law_is_whole]
theorem all_whole_ok (hl : xs.length ≤ 1000) : m__law_all_whole [.dat (ti xs)] = .ok (.bl true) none := by
  have f := lc_map (it := fIt (fVar 0)) (vs := [1]) (t := tgName 1) (tt := fNot (fTru (fCall 1 m__law_is_whole [] (fCons (fVar 1) fNil)))) (te := fC (.int 1))
    (ρ := [some (.dat (ti xs)), none]) (ρ1 := [some (.dat (ti xs)), none]) D.int (fun _ => false) (fun _ => .int 1) xs (by
      have it : items (ti xs) = some (xs.map D.int) := rfl
      generalize ti xs = X at *
      simp [it]) rfl (by omega) (fun x hx => by
      have q := whole1_ok (i := x)
      refine ⟨[some (.dat (ti xs)), some (.dat (.int x))], rfl, ?_, fun h => (nomatch h), rfl⟩
      generalize ti xs = X at *
      simp [q])
  rw [show xs.filter (fun _ => false) = [] by simp, List.map_nil] at f
  have ty : (ti xs).ty = some "tuple" := rfl
  unfold m__law_all_whole
  rw [mk_out]
  simp only [g__law_all_whole]
  generalize fLc _ _ _ _ _ = F at *
  generalize ti xs = X at *
  simp [ty, f]
theorem is_row_ok (hl : qs.length = m) (h2 : m ≤ 1000) : m__law_is_row [.dat (rT qs), .dat (.int (m : Nat))] = .ok (.bl true) none := by
  have f := lc_map (it := fIt (fVar 0)) (vs := [2]) (t := tgName 2) (tt := fNot (fTru (fCall 1 m__law_is_ratio [] (fCons (fVar 2) fNil)))) (te := fC (.int 1))
    (ρ := [some (.dat (rT qs)), some (.dat (.int (m : Nat))), none]) (ρ1 := [some (.dat (rT qs)), some (.dat (.int (m : Nat))), none]) rD (fun _ => false) (fun _ => .int 1) qs (by
      have it : items (rT qs) = some (qs.map rD) := rfl
      generalize rT qs = X at *
      simp [it]) rfl (by omega) (fun x hx => by
      have q := lis_ratio_ok (d := rD x) (k := 3) (by rfl)
      rw [ratB_r] at q
      refine ⟨[some (.dat (rT qs)), some (.dat (.int (m : Nat))), some (.dat (rD x))], rfl, ?_, fun h => (nomatch h), rfl⟩
      generalize rD x = Y at *
      generalize rT qs = X at *
      simp [q])
  rw [show qs.filter (fun _ => false) = [] by simp, List.map_nil] at f
  have ty : (rT qs).ty = some "tuple" := rfl
  have el : lenD [rT qs] = some (.int m) := by rw [lenD_seq (d := rT qs) (xs := qs.map rD) rfl, List.length_map, hl]
  unfold m__law_is_row
  rw [mk_out]
  simp only [g__law_is_row]
  generalize fLc _ _ _ _ _ = F at *
  generalize rT qs = X at *
  simp [ty, el, f]
theorem line_order_ok (hw : IsW w n) (n1 : 1 ≤ n) (n2 : n ≤ 24) (hr : r < n) {T : Int} (hz : ∀ j, j < r → bsum w j = 0) (hn : bsum w r = T) (hT : T ≠ 0) : m__law_line_order [.dat (.tup [rT (evS n), rT (evM n)]), .dat (ti w)] = .ok (.int (r : Nat)) none := by
  have pk := pow_key hz hn hT
  have e0 : ∀ p, ws (fun a => (a : Int) ^ p * ch a 0) 0 w = ws (fun a => (a : Int) ^ p) 0 w := fun p => ws_congr (fun k => by rw [ch_0, Int.mul_one]) _ _
  have lo := lorder_ok (LH_ev n1 n2) hw hr (fun p hp => by
    rw [nzp_ws hw, ← e0, (pk p 0).1 (by omega)]
    rfl) (by
    rw [nzp_ws hw, ← e0]
    intro z
    have := (pk r 0).2 (by omega)
    exact this (by exact_mod_cast z))
  have i0 : ixD (.tup [rT (evS n), rT (evM n)]) (.int 0) = some (rT (evS n)) := rfl
  have i1 : ixD (.tup [rT (evS n), rT (evM n)]) (.int 1) = some (rT (evM n)) := rfl
  unfold m__law_line_order
  rw [mk_out]
  generalize D.tup [rT (evS n), rT (evM n)] = Z at *
  generalize rT (evS n) = X at *
  generalize rT (evM n) = Y at *
  generalize ti w = V at *
  simp [g__law_line_order, i0, i1, lo]
theorem cut_take {ds : List D} {k : Nat} : DL.cutD ds none (some (k : Int)) = ds.take k := by
  by_cases hk : k ≤ ds.length
  · exact cutD_to hk
  · unfold DL.cutD
    have a : HT.sIx ds.length 0 none = 0 := rfl
    rw [a, HT.sIx_nat, List.drop_zero, Nat.sub_zero, Nat.min_eq_right (by omega), List.take_length, List.take_of_length_le (by omega)]
theorem noi_at (hj : j < m) : ixD (rT (noi w m)) (.int (j : Nat)) = some (rD ((bsum w j : Int) : Rat)) := by
  rw [ixD_rT (by omega) (by simp [noi]; omega)]
  simp [noi]
theorem noi_take {y : D} (hy : y ∈ ((noi w m).map rD).take r) (hz : ∀ j, j < r → bsum w j = 0) : y = rD 0 := by
  obtain ⟨i, hi, rfl⟩ := List.getElem_of_mem hy
  rw [List.length_take] at hi
  have hr : i < r := by omega
  rw [List.getElem_take]
  simp only [noi, List.getElem_map, List.getElem_range]
  rw [hz i hr]
  rfl
theorem right_ok (hw : IsW w n) (n1 : 1 ≤ n) (n2 : n ≤ 24) (m1 : 1 ≤ m) (m2 : m ≤ 24) : m__law_right [.dat (ti w), .dat (.int (m : Nat))] = .ok (.bl true) none := by
  have hl := hw.1
  obtain ⟨r, last, k1, k2, k3, k4, k5, k6⟩ := rows_key (n - 1) w hw.2.2 (by omega)
  have hT : bsum w r ≠ 0 := by
    show ws (fun a => ch a r) 0 w ≠ 0
    rw [k6]
    split <;> omega
  have sr := sum_rows_ok (d := .lst (w.map D.int)) rfl hw n1 n2
  have lr := lrows_ok hw n1 n2
  have lo := line_order_ok hw n1 n2 (by omega) (T := bsum w r) k5 rfl hT
  have ev : m__law_even [.dat (.int (n : Nat))] = .ok (.tup [rT (evS n), rT (evM n)]) none := even_ok n2
  have ns := noises_ok (d := ti w) rfl hw n1 n2 m1 m2
  have lb := lbinom_ok hw n2 m1 m2
  have ir := is_row_ok (qs := noi w m) (m := m) (by simp [noi]) (by omega)
  have nl : (noi w m).length = m := by simp [noi]
  have el : lenD [ti w] = some (.int n) := by rw [lenD_tI, hl]
  have sq : seqOf (ti w) = some (w.map D.int) := rfl
  have hR : rowsT w n = rws (n - 1) w := rfl
  rw [← hR] at k1 k2
  have rl : ∀ x ∈ rowsT w n, x.length ≤ 1000 := by
    have gen : ∀ (q : Nat) (xs : List Int), xs.length ≤ 1000 → ∀ x ∈ rws q xs, x.length ≤ 1000 := by
      intro q
      induction q with
      | zero => intro xs hx x hx2; rw [rws, List.mem_singleton] at hx2; rw [hx2]; exact hx
      | succ q ih =>
        intro xs hx x hx2
        rw [rws] at hx2
        split at hx2
        · rcases List.mem_cons.mp hx2 with z | z
          · rw [z]; exact hx
          · exact ih (nxt xs) (by rw [nxt_len]; omega) x z
        · rw [List.mem_singleton] at hx2; rw [hx2]; exact hx
    exact gen _ _ (by omega)
  have v1 := eqv_self (good_rows (rs := rowsT w n))
  have v2 := ne_self (d := .int (r : Nat)) rfl
  have gT : good 64 (rT (noi w m)) = true := by
    unfold rT
    simpa using goodL_mono _ (goodL_rs (n := 0) (qs := noi w m)) (show 1 ≤ 63 by omega)
  have v3 := eqv_self gT
  have t1 : tupleD [.lst ((rowsT w n).map ti)] = some (.tup ((rowsT w n).map ti)) := rfl
  have ln : lenD [.tup ((rowsT w n).map ti)] = some (.int ((r : Int) + 1)) := by
    rw [lenD_seq (d := .tup ((rowsT w n).map ti)) (xs := (rowsT w n).map ti) rfl, List.length_map, k1]
    rfl
  have lastE : ∃ pre, rowsT w n = pre ++ [last] := by
    obtain ⟨pre, e⟩ := List.getLast?_eq_some_iff.mp k2
    exact ⟨pre, e⟩
  have il : ixD (.tup ((rowsT w n).map ti)) (.int (-1)) = some (ti last) := by
    obtain ⟨pre, e⟩ := lastE
    rw [e, List.map_append]
    exact ixD_seq (d := .tup (pre.map ti ++ [ti last])) rfl at_last
  have sl := sumA_ti (xs := last)
  have f6 := lc_map (it := fIt (fVar 2)) (vs := [6]) (t := tgName 6) (tt := fNot (fTru (fCall 1 m__law_all_whole [] (fCons (fVar 6) fNil)))) (te := fC (.int 1))
    (ρ := [some (.dat (ti w)), some (.dat (.int (m : Nat))), some (.dat (.tup ((rowsT w n).map ti))), some (.dat (.lst ((rowsT w n).map ti))), none, none, none, none]) (ρ1 := [some (.dat (ti w)), some (.dat (.int (m : Nat))), some (.dat (.tup ((rowsT w n).map ti))), some (.dat (.lst ((rowsT w n).map ti))), none, none, none, none])
    ti (fun _ => false) (fun _ => .int 1) (rowsT w n) (by simp) rfl (by omega) (fun x hx => by
      have q := all_whole_ok (rl x hx)
      refine ⟨[some (.dat (ti w)), some (.dat (.int (m : Nat))), some (.dat (.tup ((rowsT w n).map ti))), some (.dat (.lst ((rowsT w n).map ti))), none, none, some (.dat (ti x)), none], rfl, ?_, fun h => (nomatch h), rfl⟩
      generalize ti x = Y at *
      generalize (rowsT w n).map ti = Z at *
      generalize ti w = X at *
      simp [q])
  rw [show (rowsT w n).filter (fun _ => false) = [] by simp, List.map_nil] at f6
  have itb : items (.lst ((List.range m).map fun j => D.int (bsum w j))) = some ((List.range m).map fun j => D.int (bsum w j)) := rfl
  have f7 := fun s5 : Option Slot => lc_all (it := fIt (fCall 3 m__law_binomials [] (fCons (fVar 0) (fCons (fC (.int 1)) (fCons (fVar 1) fNil))))) (vs := [7]) (t := tgName 7) (te := fTup (fCons (fVar 7) (fCons (fC (.int 1)) fNil)))
    (ρ := [some (.dat (ti w)), some (.dat (.int (m : Nat))), some (.dat (.tup ((rowsT w n).map ti))), some (.dat (.lst ((rowsT w n).map ti))), some (.dat (.int (r : Nat))), s5, none, none]) (ρ1 := [some (.dat (ti w)), some (.dat (.int (m : Nat))), some (.dat (.tup ((rowsT w n).map ti))), some (.dat (.lst ((rowsT w n).map ti))), some (.dat (.int (r : Nat))), s5, none, none])
    (fun j : Nat => D.int (bsum w j)) (fun j => rD ((bsum w j : Int) : Rat)) (List.range m) (by
      generalize (List.range m).map (fun j => D.int (bsum w j)) = Y at *
      generalize (rowsT w n).map ti = Z at *
      generalize ti w = X at *
      simp [lb, itb]) rfl (by simp; omega) (fun j hj => ⟨[some (.dat (ti w)), some (.dat (.int (m : Nat))), some (.dat (.tup ((rowsT w n).map ti))), some (.dat (.lst ((rowsT w n).map ti))), some (.dat (.int (r : Nat))), s5, none, some (.dat (.int (bsum w j)))], rfl, by
        have e : rD ((bsum w j : Int) : Rat) = .tup [.int (bsum w j), .int 1] := rfl
        rw [e]
        generalize (rowsT w n).map ti = Z at *
        generalize ti w = X at *
        simp, rfl⟩)
  have t7 : tupleD [.lst ((List.range m).map fun j => rD ((bsum w j : Int) : Rat))] = some (rT (noi w m)) := by
    unfold rT noi
    rw [List.map_map]
    rfl
  have s8 : slD (rT (noi w m)) none (some (r : Int)) = some (.tup (((noi w m).map rD).take r)) := by
    show some (D.tup (DL.cutD ((noi w m).map rD) none (some (r : Int)))) = _
    rw [cut_take]
  have f8 := lc_map (it := fIt (fSl (fVar 5) oNone (oSome (fVar 4)))) (vs := [7]) (t := tgName 7) (tt := t2 neD (fVar 7) (fTup (fCons (fC (.int 0)) (fCons (fC (.int 1)) fNil)))) (te := fC (.int 1))
    (ρ := [some (.dat (ti w)), some (.dat (.int (m : Nat))), some (.dat (.tup ((rowsT w n).map ti))), some (.dat (.lst ((rowsT w n).map ti))), some (.dat (.int (r : Nat))), some (.dat (rT (noi w m))), none, none]) (ρ1 := [some (.dat (ti w)), some (.dat (.int (m : Nat))), some (.dat (.tup ((rowsT w n).map ti))), some (.dat (.lst ((rowsT w n).map ti))), some (.dat (.int (r : Nat))), some (.dat (rT (noi w m))), none, none])
    id (fun _ => false) (fun _ => .int 1) (((noi w m).map rD).take r) (by
      generalize ((noi w m).map rD).take r = Y at *
      generalize rT (noi w m) = Y2 at *
      generalize (rowsT w n).map ti = Z at *
      generalize ti w = X at *
      simp [s8]) rfl (by rw [List.length_take, List.length_map]; omega) (fun y hy => by
      have e := noi_take hy k5
      subst e
      have q : eqvD (rD 0) (.tup [.int 0, .int 1]) = some true := eqv_self (d := rD 0) rfl
      refine ⟨[some (.dat (ti w)), some (.dat (.int (m : Nat))), some (.dat (.tup ((rowsT w n).map ti))), some (.dat (.lst ((rowsT w n).map ti))), some (.dat (.int (r : Nat))), some (.dat (rT (noi w m))), none, some (.dat (rD 0))], rfl, ?_, fun h => (nomatch h), rfl⟩
      generalize rD 0 = O at *
      generalize rT (noi w m) = Y2 at *
      generalize (rowsT w n).map ti = Z at *
      generalize ti w = X at *
      simp [q])
  rw [show (((noi w m).map rD).take r).filter (fun _ => false) = [] by simp, List.map_nil] at f8
  have sb : last.sum.natAbs < 2 ^ 40 := by
    have b := pB_bd hw.2.1 n (by omega) n2 r
    have e : pB w n r = bsum w r := by
      unfold pB bsum
      rw [← hl, List.take_length]
    rw [e] at b
    have q : (bsum w r).natAbs = last.sum.natAbs := by
      show (ws (fun a => ch a r) 0 w).natAbs = _
      rw [k6]
      split
      · rfl
      · rw [Int.natAbs_neg]
    rw [← q]
    have : n * 2 ^ 25 ≤ 24 * 2 ^ 25 := Nat.mul_le_mul_right _ n2
    omega
  have md : modI (.int (r : Nat)) (.int 2) = some (.int ((r : Int) % 2)) := modI_int (by decide)
  have mm : mulD (.int 2) (.int ((r : Int) % 2)) = some (.int (2 * ((r : Int) % 2))) := mulD_b (m := 3) (n := 3) (by decide) (by omega) (by omega) (by omega)
  have ms : mulD (.int last.sum) (.int (1 - 2 * ((r : Int) % 2))) = some (.int (last.sum * (1 - 2 * ((r : Int) % 2)))) := mulD_b (m := 40) (n := 3) sb (by omega) (by omega) (by omega)
  have val : last.sum * (1 - 2 * ((r : Int) % 2)) = bsum w r := by
    show _ = ws (fun a => ch a r) 0 w
    rw [k6]
    by_cases q : r % 2 = 0
    · rw [if_pos q, show (r : Int) % 2 = 0 by omega]
      simp
    · rw [if_neg q, show (r : Int) % 2 = 1 by omega]
      simp
  have i9 : r < m → ixD (rT (noi w m)) (.int (r : Nat)) = some (.tup [.int (bsum w r), .int 1]) := fun hr => noi_at hr
  have v9 := eqv_self (d := .tup [.int (bsum w r), .int 1]) rfl
  rw [val] at ms
  generalize bsum w r = B at *
  have ge : geI (.int (r : Nat)) (.int (m : Nat)) = some (.bl (decide ((m : Int) ≤ r))) := rfl
  unfold m__law_right
  rw [mk_out]
  simp only [g__law_right, gs__law_right_1, gs__law_right_2, gs__law_right_3, gs__law_right_4, gs__law_right_5, gs__law_right_6, gs__law_right_7, gs__law_right_8, gs__law_right_9]
  generalize hF6 : fLc (fIt (fVar 2)) _ _ _ _ = F6 at *
  generalize hF7 : fLc (fIt (fCall 3 m__law_binomials _ _)) _ _ _ _ = F7 at *
  generalize hF8 : fLc (fIt (fSl _ _ _)) _ _ _ _ = F8 at *
  generalize (List.range m).map (fun j => rD ((bsum w j : Int) : Rat)) = Y7 at *
  generalize rT (noi w m) = Y2 at *
  generalize w.map D.int = WL at *
  generalize (rowsT w n).map ti = Z at *
  generalize D.tup [rT (evS n), rT (evM n)] = EV at *
  generalize ti last = LA at *
  generalize hls : last.sum = LS at *
  generalize ti w = X at *
  by_cases hr : r < m
  · have i9 := i9 hr
    have ng : ¬ (m : Int) ≤ r := by omega
    simp [sq, sr, lr, v1, t1, f6, ln, el, ev, lo, v2, il, sl, k3, ns, ir, f7, t7, v3, f8, ng, i9, md, mm, ms, v9]
  · have ng : (m : Int) ≤ r := by omega
    simp [sq, sr, lr, v1, t1, f6, ln, el, ev, lo, v2, il, sl, k3, ns, ir, f7, t7, v3, f8, ng]
end
end K34

set_option Elab.async false
set_option linter.all false
set_option maxRecDepth 100000
set_option autoImplicit false
namespace K34
open PySem PySem.Spec PyProof.Rows L2 DL
@[simp] theorem szI_8 {α : Type} {a b c d e f g i : D} {x : R α} : szI [a, b, c, d, e, f, g, i] x = x := szI_le (by simp)
section
variable {w : List Int} {n m : Nat} {d dm : D} {h : List D} {S : Slot} {s2 s3 s4 : Option Slot}
def bT : G := (gSeq (gSet 3 (fCallM 2 m__law_built 1 (fCons (fCallM 1 m__law_count 1 fNil) fNil)))
    (gSeq (gSet 4 (f2 addD (fC (.int 1)) (fCallM 2 m__law_take 1 (fCons (fIf (t2 eqD (fVar 2) (fC (.int 0))) (fC (.int 24)) (fC (.int 8))) fNil))))
    (gIf (fNot (fTru (fCall 2 m__law_right [] (fCons (fVar 3) (fCons (fVar 4) fNil))))) (gRet (fC (.bl false))) gNx)))
theorem turn_ok (hh : HandOk h) (k : Int) : ∃ n w m h', IsW w n ∧ 1 ≤ n ∧ n ≤ 24 ∧ 1 ≤ m ∧ m ≤ 24 ∧ HandOk h' ∧ bT [some S, some (.own h), some (.dat (.int k)), s3, s4, none, none, none, none, none] = .nx [some S, some (.own h'), some (.dat (.int k)), some (.dat (ti w)), some (.dat (.int (m : Nat))), none, none, none, none, none] := by
  obtain ⟨n, h1, n1, n2, hh1, e1⟩ := count_ok hh
  obtain ⟨w, h2, hw, hh2, e2⟩ := built_ok hh1 n1 n2
  by_cases c : k = 0
  · obtain ⟨r, h3, a3, b3, hh3, e3⟩ := take_ok (m := 24) hh2 (by decide) (by simp)
    obtain ⟨m, hm⟩ : ∃ m : Nat, 1 + r = (m : Int) := ⟨(1 + r).toNat, by omega⟩
    have ri := right_ok hw n1 n2 (m := m) (by omega) (by omega)
    refine ⟨n, w, m, h3, hw, n1, n2, by omega, by omega, hh3, ?_⟩
    unfold bT
    generalize ti w = X at *
    simp [e1, e2, c, e3, hm, ri]
  · obtain ⟨r, h3, a3, b3, hh3, e3⟩ := take_ok (m := 8) hh2 (by decide) (by simp)
    obtain ⟨m, hm⟩ : ∃ m : Nat, 1 + r = (m : Int) := ⟨(1 + r).toNat, by omega⟩
    have ri := right_ok hw n1 n2 (m := m) (by omega) (by omega)
    refine ⟨n, w, m, h3, hw, n1, n2, by omega, by omega, hh3, ?_⟩
    unfold bT
    generalize ti w = X at *
    simp [e1, e2, c, e3, hm, ri]
theorem turns_ok : ∀ (ks : List Int) (k : Int) (h : List D) (s2 s3 s4 : Option Slot), HandOk h → ∃ n w m h' t2, IsW w n ∧ 1 ≤ n ∧ n ≤ 24 ∧ 1 ≤ m ∧ m ≤ 24 ∧ HandOk h' ∧ forL (tgName 2) bT ((k :: ks).map D.int) [some S, some (.own h), s2, s3, s4, none, none, none, none, none] = .nx [some S, some (.own h'), t2, some (.dat (ti w)), some (.dat (.int (m : Nat))), none, none, none, none, none]
  | [], k, h, s2, s3, s4, hh => by
    obtain ⟨n, w, m, h1, hw, a, b, c, d, hh1, e⟩ := turn_ok (S := S) (s3 := s3) (s4 := s4) hh k
    refine ⟨n, w, m, h1, some (.dat (.int k)), hw, a, b, c, d, hh1, ?_⟩
    have c1 : forL (tgName 2) bT ([k].map D.int) [some S, some (.own h), s2, s3, s4, none, none, none, none, none] = (bT [some S, some (.own h), some (.dat (.int k)), s3, s4, none, none, none, none, none]).loop (forL (tgName 2) bT []) := forL_cons rfl
    rw [c1, e, lo_nx]
    rfl
  | k2 :: ks, k, h, s2, s3, s4, hh => by
    obtain ⟨n, w, m, h1, hw, a, b, c, d, hh1, e⟩ := turn_ok (S := S) (s3 := s3) (s4 := s4) hh k
    obtain ⟨n', w', m', h2, t2, r⟩ := turns_ok ks k2 h1 (some (.dat (.int k))) (some (.dat (ti w))) (some (.dat (.int (m : Nat)))) hh1
    refine ⟨n', w', m', h2, t2, r.1, r.2.1, r.2.2.1, r.2.2.2.1, r.2.2.2.2.1, r.2.2.2.2.2.1, ?_⟩
    have c1 : forL (tgName 2) bT ((k :: k2 :: ks).map D.int) [some S, some (.own h), s2, s3, s4, none, none, none, none, none] = (bT [some S, some (.own h), some (.dat (.int k)), s3, s4, none, none, none, none, none]).loop (forL (tgName 2) bT ((k2 :: ks).map D.int)) := forL_cons rfl
    rw [c1, e, lo_nx]
    exact r.2.2.2.2.2.2
theorem p9 : powI (.int 10) (.int 9) = some (.int 1000000000) := by rfl
theorem strange_ok {p a b : Int} (p0 : 0 ≤ p) (p1 : p < 8) (a0 : 0 ≤ a) (b0 : 0 ≤ b) : ∃ d, ixD (.lst [.int 0, .int 25, .bl true, .non, .str "3", .tup [.int 3, .int 1], .int (-1 - a), .int (26 + b)]) (.int p) = some d ∧ m_is_whole [.dat d, .dat (.int 1), .dat (.int 24)] = .ok (.bl false) none := by
  obtain ⟨d, hd, ix⟩ := pick_ok (xs := [.int 0, .int 25, .bl true, .non, .str "3", .tup [.int 3, .int 1], .int (-1 - a), .int (26 + b)]) p0 p1
  refine ⟨d, ix, ?_⟩
  have w := fun i : Int => is_whole_3 (i := i) (lo := 1) (hi := 24)
  simp only [List.mem_cons, List.not_mem_nil, or_false] at hd
  rcases hd with e | e | e | e | e | e | e | e <;> subst e
  · rw [w]; rfl
  · rw [w]; rfl
  · exact is_whole_no rfl
  · exact is_whole_no rfl
  · exact is_whole_no rfl
  · exact is_whole_no rfl
  · rw [w, decide_eq_false (p := (1 : Int) ≤ -1 - a) (by omega), Bool.false_and]
  · rw [w, decide_eq_false (p := (26 : Int) + b ≤ 24) (by omega), Bool.and_false]
theorem law_true : ∀ ns : List Int, ns.length ≤ 63 → (∀ z ∈ ns, Builtin.Int.intBits z ≤ 1048576) → m_law [.dat (.slst (ns.map D.int))] = .ok (.bl true) none := by
  intro ns hl hb
  obtain ⟨h0, hh0, e1⟩ := hand_ok hl
  generalize hS : Slot.dat (.slst (ns.map D.int)) = S
  have e1' : ∀ rest : En, gOwn 1 (fCallN 1 m__law_hand [] (fCons (fVar 0) fNil)) [some S, none, none, none, none, none, none, none, none, none] = .nx [some S, some (.own h0), none, none, none, none, none, none, none, none] := fun _ => by
    rw [← hS]
    simp [e1]
  have s1 := e1' []
  obtain ⟨n, w, m, h1, u2, hw, n1, n2, m1, m2, hh1, e2⟩ := turns_ok (S := S) [1, 2] 0 h0 none none none hh0
  have rg : ∀ ρ : En, range1 (.int 3) ρ = .ok (([0, 1, 2] : List Int).map D.int) ρ := fun ρ => by
    have e : (List.range 3).map (fun j => D.int ((j : Nat) : Int)) = ([0, 1, 2] : List Int).map D.int := rfl
    rw [← e]
    exact range1_nat (n := 3) (by omega)
  obtain ⟨r1, h2, a1, b1, hh2, e3⟩ := take_ok (m := 8) hh1 (by decide) (by simp)
  obtain ⟨r2, h3, a2, b2, hh3, e4⟩ := take_ok (m := 9) hh2 (by decide) (by simp)
  obtain ⟨r3, h4, a3, b3, hh4, e5⟩ := take_ok (m := 1000000000) hh3 (by decide) (by simp)
  obtain ⟨u, iu, wu⟩ := strange_ok (p := r1) (a := r2) (b := r3) a1 b1 a2 a3
  obtain ⟨o, i, s, h5, ow, hh5, e6⟩ := odd_word_ok hw n1 n2 hh4
  have q1 := lref_count (d := ti w) (dm := u) rfl hw n1 n2 wu
  have q2 := lref_word (dm := u) ow.1
  have q3 := lref_word (dm := .int (m : Nat)) ow.1
  have q4 := rref_word ow.1
  have q5 := lref_no (d := ti w) (m := 24) rfl hw n1 n2 (by omega) (by omega)
  have q6 := lref_no (d := .lst (w.map D.int)) (m := 1) rfl hw n1 n2 (by omega) (by omega)
  have q7 := rref_no (d := ti w) rfl hw n1 n2
  have sq : seqOf (ti w) = some (w.map D.int) := rfl
  have g1 : PyData.strOk "word" = true := by decide +kernel
  have g2 : PyData.strOk "count" = true := by decide +kernel
  have v1 : eqvD (.tup [.str "count"]) (.tup [.str "count"]) = some true := eqv_self (by simpa using g2)
  have v2 : eqvD (.tup [.str "word", .int i, .str s]) (.tup [.str "word", .int i, .str s]) = some true := eqv_self (by simp [g1, ow.2])
  have v3 : eqvD (.tup [.int i, .str s]) (.tup [.int i, .str s]) = some true := eqv_self (by simp [ow.2])
  have g : g_law = (gSeq (gOwn 1 (fCallN 1 m__law_hand [] (fCons (fVar 0) fNil)))
    (gSeq (gFor (fRange1 (fCons (fC (.int 3)) fNil)) (tgName 2) bT)
    (gSeq (gSet 5 (fCallM 2 m__law_take 1 (fCons (fC (.int 8)) fNil)))
    (gSeq (gSet 6 (f2 ixD (fLst (fCons (fC (.int 0)) (fCons (fC (.int 25)) (fCons (fC (.bl true)) (fCons (fC .non) (fCons (fC (.str "3")) (fCons (fTup (fCons (fC (.int 3)) (fCons (fC (.int 1)) fNil))) (fCons (f2 subI (f1 negI (fC (.int 1))) (fCallM 2 m__law_take 1 (fCons (fC (.int 9)) fNil))) (fCons (f2 addD (fC (.int 26)) (fCallM 2 m__law_take 1 (fCons (f2 powI (fC (.int 10)) (fC (.int 9))) fNil))) fNil))))))))) (fVar 5)))
    (gSeq (gAsg (tgTup 3 (tgCons (tgName 7) (tgCons (tgName 8) (tgCons (tgName 9) tgNil)))) (fCallM 2 m__law_odd_word 1 (fCons (fVar 3) fNil)))
    (gSeq (gIf (fOr (t2 neD (fCall 2 m__law_refused [] (fCons (fVar 3) (fCons (fVar 6) fNil))) (fTup (fCons (fC (.str "count")) fNil))) (t2 neD (fCall 2 m__law_refused [] (fCons (fVar 7) (fCons (fVar 6) fNil))) (fTup (fCons (fC (.str "word")) (fCons (fVar 8) (fCons (fVar 9) fNil)))))) (gRet (fC (.bl false))) gNx)
    (gSeq (gIf (fOr (t2 neD (fCall 2 m__law_refused [] (fCons (fVar 7) (fCons (fVar 4) fNil))) (fTup (fCons (fC (.str "word")) (fCons (fVar 8) (fCons (fVar 9) fNil))))) (t2 neD (fCall 1 m__law_rows_refused [] (fCons (fVar 7) fNil)) (fTup (fCons (fVar 8) (fCons (fVar 9) fNil))))) (gRet (fC (.bl false))) gNx)
    (gRet (vAnd (f2 isN (fCall 2 m__law_refused [] (fCons (fVar 3) (fCons (fC (.int 24)) fNil))) (fC .non)) (vAnd (f2 isN (fCall 2 m__law_refused [] (fCons (fOfL (fListOf (fVar 3))) (fCons (fC (.int 1)) fNil))) (fC .non)) (f2 isN (fCall 1 m__law_rows_refused [] (fCons (fVar 3) fNil)) (fC .non)))))))))))) := rfl
  have i0 : isN .non .non = some (.bl true) := rfl
  have key : ∃ ρ', g_law [some S, none, none, none, none, none, none, none, none, none] = .rt (.bl true) ρ' := by
    refine ⟨[some S, some (.own h5), u2, some (.dat (ti w)), some (.dat (.int (m : Nat))), some (.dat (.int r1)), some (.dat u), some (.dat o), some (.dat (.int i)), some (.dat (.str s))], ?_⟩
    rw [g, s_Seq, s1, sq_nx]
    clear s1 e1' g
    generalize bT = BT at *
    generalize hK : (([0, 1, 2] : List Int).map D.int) = KS at *
    have e2 : forL (tgName 2) BT KS [some S, some (.own h0), none, none, none, none, none, none, none, none] = _ := e2
    generalize w.map D.int = WL at *
    generalize ti w = X at *
    have q5 : m__law_refused [.dat X, .dat (.int 24)] = .ok .non none := q5
    have q6 : m__law_refused [.dat (.lst WL), .dat (.int 1)] = .ok .non none := q6
    simp [s_For, rg, e2, e3, e4, p9, e5, iu, e6, q1, v1, q2, v2, q3, q4, v3, q5, sq, q6, q7]
  obtain ⟨ρ', key⟩ := key
  unfold m_law
  rw [mk_out]
  have k2 : g_law ([S].map some ++ List.replicate (N_law.length - P_law.length) none) = _ := key
  rw [k2, ← hS]
  rfl
end
end K34

namespace K34
open PySem PySem.Spec PyProof.Rows L2 DL
def hC_BadCount (K : PySem.W.Frag) : Addr := He.ga K "BadCount"
def hC_BadWord (K : PySem.W.Frag) : Addr := He.ga K "BadWord"
def hf__law_hand (K : PySem.W.Frag) : Addr := He.ga K "_law_hand"
def hf__law_mixed (K : PySem.W.Frag) : Addr := He.ga K "_law_mixed"
def hf__law_take (K : PySem.W.Frag) : Addr := He.ga K "_law_take"
def hf__law_odd_word (K : PySem.W.Frag) : Addr := He.ga K "_law_odd_word"
def hf__law_word (K : PySem.W.Frag) : Addr := He.ga K "_law_word"
def hf__law_built (K : PySem.W.Frag) : Addr := He.ga K "_law_built"
def hf__law_count (K : PySem.W.Frag) : Addr := He.ga K "_law_count"
def hf__check_first (K : PySem.W.Frag) : Addr := He.ga K "_check_first"
def hf_is_row (K : PySem.W.Frag) : Addr := He.ga K "is_row"
def hf_is_whole (K : PySem.W.Frag) : Addr := He.ga K "is_whole"
def hf__check_sign_row (K : PySem.W.Frag) : Addr := He.ga K "_check_sign_row"
def hf_check_signs (K : PySem.W.Frag) : Addr := He.ga K "check_signs"
def hf__running_sums (K : PySem.W.Frag) : Addr := He.ga K "_running_sums"
def hf_sum_rows (K : PySem.W.Frag) : Addr := He.ga K "sum_rows"
def hf__law_rows (K : PySem.W.Frag) : Addr := He.ga K "_law_rows"
def hf_binomial_sums (K : PySem.W.Frag) : Addr := He.ga K "binomial_sums"
def hf_binomial_noises (K : PySem.W.Frag) : Addr := He.ga K "binomial_noises"
def hf__law_gcd (K : PySem.W.Frag) : Addr := He.ga K "_law_gcd"
def hf__law_ratio (K : PySem.W.Frag) : Addr := He.ga K "_law_ratio"
def hf__law_plus (K : PySem.W.Frag) : Addr := He.ga K "_law_plus"
def hf__law_times (K : PySem.W.Frag) : Addr := He.ga K "_law_times"
def hf__law_noise (K : PySem.W.Frag) : Addr := He.ga K "_law_noise"
def hf__law_power (K : PySem.W.Frag) : Addr := He.ga K "_law_power"
def hf__law_mark_hum (K : PySem.W.Frag) : Addr := He.ga K "_law_mark_hum"
def hf__law_order (K : PySem.W.Frag) : Addr := He.ga K "_law_order"
def hf__law_line_order (K : PySem.W.Frag) : Addr := He.ga K "_law_line_order"
def hf__law_is_ratio (K : PySem.W.Frag) : Addr := He.ga K "_law_is_ratio"
def hf__law_is_row (K : PySem.W.Frag) : Addr := He.ga K "_law_is_row"
def hf__law_even (K : PySem.W.Frag) : Addr := He.ga K "_law_even"
def hf__law_is_whole (K : PySem.W.Frag) : Addr := He.ga K "_law_is_whole"
def hf__law_all_whole (K : PySem.W.Frag) : Addr := He.ga K "_law_all_whole"
def hf__law_chosen (K : PySem.W.Frag) : Addr := He.ga K "_law_chosen"
def hf__law_binomials (K : PySem.W.Frag) : Addr := He.ga K "_law_binomials"
def hf__law_right (K : PySem.W.Frag) : Addr := He.ga K "_law_right"
def hf__law_refused (K : PySem.W.Frag) : Addr := He.ga K "_law_refused"
def hf__law_rows_refused (K : PySem.W.Frag) : Addr := He.ga K "_law_rows_refused"
def hf_law (K : PySem.W.Frag) : Addr := He.ga K "law"
def hi_BadWord (K : PySem.W.Frag) : Addr := He.ma K (hC_BadWord K) "__init__"
abbrev hd__law_hand : Hh.DefH := ⟨hf__law_hand, "_law_hand", "_law_hand", defArgs s__law_hand, defBody s__law_hand, defScope s__law_hand, []⟩
abbrev hd__law_mixed : Hh.DefH := ⟨hf__law_mixed, "_law_mixed", "_law_mixed", defArgs s__law_mixed, defBody s__law_mixed, defScope s__law_mixed, []⟩
abbrev hd__law_take : Hh.DefH := ⟨hf__law_take, "_law_take", "_law_take", defArgs s__law_take, defBody s__law_take, defScope s__law_take, []⟩
abbrev hd__law_odd_word : Hh.DefH := ⟨hf__law_odd_word, "_law_odd_word", "_law_odd_word", defArgs s__law_odd_word, defBody s__law_odd_word, defScope s__law_odd_word, []⟩
abbrev hd__law_word : Hh.DefH := ⟨hf__law_word, "_law_word", "_law_word", defArgs s__law_word, defBody s__law_word, defScope s__law_word, []⟩
abbrev hd__law_built : Hh.DefH := ⟨hf__law_built, "_law_built", "_law_built", defArgs s__law_built, defBody s__law_built, defScope s__law_built, []⟩
abbrev hd__law_count : Hh.DefH := ⟨hf__law_count, "_law_count", "_law_count", defArgs s__law_count, defBody s__law_count, defScope s__law_count, []⟩
abbrev hd__check_first : Hh.DefH := ⟨hf__check_first, "_check_first", "_check_first", defArgs s__check_first, defBody s__check_first, defScope s__check_first, []⟩
abbrev hd_is_row : Hh.DefH := ⟨hf_is_row, "is_row", "is_row", defArgs s_is_row, defBody s_is_row, defScope s_is_row, []⟩
abbrev hd_is_whole : Hh.DefH := ⟨hf_is_whole, "is_whole", "is_whole", defArgs s_is_whole, defBody s_is_whole, defScope s_is_whole, [.non, .non]⟩
abbrev hd__check_sign_row : Hh.DefH := ⟨hf__check_sign_row, "_check_sign_row", "_check_sign_row", defArgs s__check_sign_row, defBody s__check_sign_row, defScope s__check_sign_row, []⟩
abbrev hd_check_signs : Hh.DefH := ⟨hf_check_signs, "check_signs", "check_signs", defArgs s_check_signs, defBody s_check_signs, defScope s_check_signs, []⟩
abbrev hd__running_sums : Hh.DefH := ⟨hf__running_sums, "_running_sums", "_running_sums", defArgs s__running_sums, defBody s__running_sums, defScope s__running_sums, []⟩
abbrev hd_sum_rows : Hh.DefH := ⟨hf_sum_rows, "sum_rows", "sum_rows", defArgs s_sum_rows, defBody s_sum_rows, defScope s_sum_rows, []⟩
abbrev hd__law_rows : Hh.DefH := ⟨hf__law_rows, "_law_rows", "_law_rows", defArgs s__law_rows, defBody s__law_rows, defScope s__law_rows, []⟩
abbrev hd_binomial_sums : Hh.DefH := ⟨hf_binomial_sums, "binomial_sums", "binomial_sums", defArgs s_binomial_sums, defBody s_binomial_sums, defScope s_binomial_sums, []⟩
abbrev hd_binomial_noises : Hh.DefH := ⟨hf_binomial_noises, "binomial_noises", "binomial_noises", defArgs s_binomial_noises, defBody s_binomial_noises, defScope s_binomial_noises, []⟩
abbrev hd__law_gcd : Hh.DefH := ⟨hf__law_gcd, "_law_gcd", "_law_gcd", defArgs s__law_gcd, defBody s__law_gcd, defScope s__law_gcd, []⟩
abbrev hd__law_ratio : Hh.DefH := ⟨hf__law_ratio, "_law_ratio", "_law_ratio", defArgs s__law_ratio, defBody s__law_ratio, defScope s__law_ratio, []⟩
abbrev hd__law_plus : Hh.DefH := ⟨hf__law_plus, "_law_plus", "_law_plus", defArgs s__law_plus, defBody s__law_plus, defScope s__law_plus, []⟩
abbrev hd__law_times : Hh.DefH := ⟨hf__law_times, "_law_times", "_law_times", defArgs s__law_times, defBody s__law_times, defScope s__law_times, []⟩
abbrev hd__law_noise : Hh.DefH := ⟨hf__law_noise, "_law_noise", "_law_noise", defArgs s__law_noise, defBody s__law_noise, defScope s__law_noise, []⟩
abbrev hd__law_power : Hh.DefH := ⟨hf__law_power, "_law_power", "_law_power", defArgs s__law_power, defBody s__law_power, defScope s__law_power, []⟩
abbrev hd__law_mark_hum : Hh.DefH := ⟨hf__law_mark_hum, "_law_mark_hum", "_law_mark_hum", defArgs s__law_mark_hum, defBody s__law_mark_hum, defScope s__law_mark_hum, []⟩
abbrev hd__law_order : Hh.DefH := ⟨hf__law_order, "_law_order", "_law_order", defArgs s__law_order, defBody s__law_order, defScope s__law_order, []⟩
abbrev hd__law_line_order : Hh.DefH := ⟨hf__law_line_order, "_law_line_order", "_law_line_order", defArgs s__law_line_order, defBody s__law_line_order, defScope s__law_line_order, []⟩
abbrev hd__law_is_ratio : Hh.DefH := ⟨hf__law_is_ratio, "_law_is_ratio", "_law_is_ratio", defArgs s__law_is_ratio, defBody s__law_is_ratio, defScope s__law_is_ratio, []⟩
abbrev hd__law_is_row : Hh.DefH := ⟨hf__law_is_row, "_law_is_row", "_law_is_row", defArgs s__law_is_row, defBody s__law_is_row, defScope s__law_is_row, []⟩
abbrev hd__law_even : Hh.DefH := ⟨hf__law_even, "_law_even", "_law_even", defArgs s__law_even, defBody s__law_even, defScope s__law_even, []⟩
abbrev hd__law_is_whole : Hh.DefH := ⟨hf__law_is_whole, "_law_is_whole", "_law_is_whole", defArgs s__law_is_whole, defBody s__law_is_whole, defScope s__law_is_whole, []⟩
abbrev hd__law_all_whole : Hh.DefH := ⟨hf__law_all_whole, "_law_all_whole", "_law_all_whole", defArgs s__law_all_whole, defBody s__law_all_whole, defScope s__law_all_whole, []⟩
abbrev hd__law_chosen : Hh.DefH := ⟨hf__law_chosen, "_law_chosen", "_law_chosen", defArgs s__law_chosen, defBody s__law_chosen, defScope s__law_chosen, []⟩
abbrev hd__law_binomials : Hh.DefH := ⟨hf__law_binomials, "_law_binomials", "_law_binomials", defArgs s__law_binomials, defBody s__law_binomials, defScope s__law_binomials, []⟩
abbrev hd__law_right : Hh.DefH := ⟨hf__law_right, "_law_right", "_law_right", defArgs s__law_right, defBody s__law_right, defScope s__law_right, []⟩
abbrev hd__law_refused : Hh.DefH := ⟨hf__law_refused, "_law_refused", "_law_refused", defArgs s__law_refused, defBody s__law_refused, defScope s__law_refused, []⟩
abbrev hd__law_rows_refused : Hh.DefH := ⟨hf__law_rows_refused, "_law_rows_refused", "_law_rows_refused", defArgs s__law_rows_refused, defBody s__law_rows_refused, defScope s__law_rows_refused, []⟩
abbrev hd_law : Hh.DefH := ⟨hf_law, "law", "law", defArgs s_law, defBody s_law, defScope s_law, []⟩
abbrev hdi_BadWord : Hh.DefH := ⟨hi_BadWord, "__init__", "BadWord.__init__", defArgs si_BadWord, defBody si_BadWord, defScope si_BadWord, []⟩
def hDefs_0 : List Hh.DefH := [hd__law_hand, hd__law_mixed, hd__law_take, hd__law_odd_word, hd__law_word, hd__law_built, hd__law_count, hd__check_first, hd_is_row, hd_is_whole, hd__check_sign_row, hd_check_signs, hd__running_sums, hd_sum_rows, hd__law_rows, hd_binomial_sums]
def hDefs_1 : List Hh.DefH := [hd_binomial_noises, hd__law_gcd, hd__law_ratio, hd__law_plus, hd__law_times, hd__law_noise, hd__law_power, hd__law_mark_hum, hd__law_order, hd__law_line_order, hd__law_is_ratio, hd__law_is_row, hd__law_even, hd__law_is_whole, hd__law_all_whole, hd__law_chosen]
def hDefs_2 : List Hh.DefH := [hd__law_binomials, hd__law_right, hd__law_refused, hd__law_rows_refused, hd_law, hdi_BadWord]
def hDefs : List Hh.DefH := hDefs_0 ++ (hDefs_1 ++ (hDefs_2))
def hck_0 (K : PySem.W.Frag) : Bool := decide (PySem.W.nsIn K mainGlobals "_law_hand" = some (some (.ref (hf__law_hand K)))) && (decide (PySem.W.keepIn K (.ref (hf__law_hand K)) = true) && (decide (PySem.W.nsIn K mainGlobals "_law_mixed" = some (some (.ref (hf__law_mixed K)))) && (decide (PySem.W.keepIn K (.ref (hf__law_mixed K)) = true) && (decide (PySem.W.nsIn K mainGlobals "_law_take" = some (some (.ref (hf__law_take K)))) && (decide (PySem.W.keepIn K (.ref (hf__law_take K)) = true) && (decide (PySem.W.nsIn K mainGlobals "_law_odd_word" = some (some (.ref (hf__law_odd_word K)))) && (decide (PySem.W.keepIn K (.ref (hf__law_odd_word K)) = true) && (decide (PySem.W.nsIn K mainGlobals "_law_word" = some (some (.ref (hf__law_word K)))) && (decide (PySem.W.keepIn K (.ref (hf__law_word K)) = true) && (decide (PySem.W.nsIn K mainGlobals "_law_built" = some (some (.ref (hf__law_built K)))) && (decide (PySem.W.keepIn K (.ref (hf__law_built K)) = true))))))))))))
def hck_1 (K : PySem.W.Frag) : Bool := decide (PySem.W.nsIn K mainGlobals "_law_count" = some (some (.ref (hf__law_count K)))) && (decide (PySem.W.keepIn K (.ref (hf__law_count K)) = true) && (decide (PySem.W.nsIn K mainGlobals "_check_first" = some (some (.ref (hf__check_first K)))) && (decide (PySem.W.keepIn K (.ref (hf__check_first K)) = true) && (decide (PySem.W.nsIn K mainGlobals "is_row" = some (some (.ref (hf_is_row K)))) && (decide (PySem.W.keepIn K (.ref (hf_is_row K)) = true) && (decide (PySem.W.nsIn K mainGlobals "is_whole" = some (some (.ref (hf_is_whole K)))) && (decide (PySem.W.keepIn K (.ref (hf_is_whole K)) = true) && (decide (PySem.W.nsIn K mainGlobals "_check_sign_row" = some (some (.ref (hf__check_sign_row K)))) && (decide (PySem.W.keepIn K (.ref (hf__check_sign_row K)) = true) && (decide (PySem.W.nsIn K mainGlobals "check_signs" = some (some (.ref (hf_check_signs K)))) && (decide (PySem.W.keepIn K (.ref (hf_check_signs K)) = true))))))))))))
def hck_2 (K : PySem.W.Frag) : Bool := decide (PySem.W.nsIn K mainGlobals "_running_sums" = some (some (.ref (hf__running_sums K)))) && (decide (PySem.W.keepIn K (.ref (hf__running_sums K)) = true) && (decide (PySem.W.nsIn K mainGlobals "sum_rows" = some (some (.ref (hf_sum_rows K)))) && (decide (PySem.W.keepIn K (.ref (hf_sum_rows K)) = true) && (decide (PySem.W.nsIn K mainGlobals "_law_rows" = some (some (.ref (hf__law_rows K)))) && (decide (PySem.W.keepIn K (.ref (hf__law_rows K)) = true) && (decide (PySem.W.nsIn K mainGlobals "binomial_sums" = some (some (.ref (hf_binomial_sums K)))) && (decide (PySem.W.keepIn K (.ref (hf_binomial_sums K)) = true) && (decide (PySem.W.nsIn K mainGlobals "binomial_noises" = some (some (.ref (hf_binomial_noises K)))) && (decide (PySem.W.keepIn K (.ref (hf_binomial_noises K)) = true) && (decide (PySem.W.nsIn K mainGlobals "_law_gcd" = some (some (.ref (hf__law_gcd K)))) && (decide (PySem.W.keepIn K (.ref (hf__law_gcd K)) = true))))))))))))
def hck_3 (K : PySem.W.Frag) : Bool := decide (PySem.W.nsIn K mainGlobals "_law_ratio" = some (some (.ref (hf__law_ratio K)))) && (decide (PySem.W.keepIn K (.ref (hf__law_ratio K)) = true) && (decide (PySem.W.nsIn K mainGlobals "_law_plus" = some (some (.ref (hf__law_plus K)))) && (decide (PySem.W.keepIn K (.ref (hf__law_plus K)) = true) && (decide (PySem.W.nsIn K mainGlobals "_law_times" = some (some (.ref (hf__law_times K)))) && (decide (PySem.W.keepIn K (.ref (hf__law_times K)) = true) && (decide (PySem.W.nsIn K mainGlobals "_law_noise" = some (some (.ref (hf__law_noise K)))) && (decide (PySem.W.keepIn K (.ref (hf__law_noise K)) = true) && (decide (PySem.W.nsIn K mainGlobals "_law_power" = some (some (.ref (hf__law_power K)))) && (decide (PySem.W.keepIn K (.ref (hf__law_power K)) = true) && (decide (PySem.W.nsIn K mainGlobals "_law_mark_hum" = some (some (.ref (hf__law_mark_hum K)))) && (decide (PySem.W.keepIn K (.ref (hf__law_mark_hum K)) = true))))))))))))
def hck_4 (K : PySem.W.Frag) : Bool := decide (PySem.W.nsIn K mainGlobals "_law_order" = some (some (.ref (hf__law_order K)))) && (decide (PySem.W.keepIn K (.ref (hf__law_order K)) = true) && (decide (PySem.W.nsIn K mainGlobals "_law_line_order" = some (some (.ref (hf__law_line_order K)))) && (decide (PySem.W.keepIn K (.ref (hf__law_line_order K)) = true) && (decide (PySem.W.nsIn K mainGlobals "_law_is_ratio" = some (some (.ref (hf__law_is_ratio K)))) && (decide (PySem.W.keepIn K (.ref (hf__law_is_ratio K)) = true) && (decide (PySem.W.nsIn K mainGlobals "_law_is_row" = some (some (.ref (hf__law_is_row K)))) && (decide (PySem.W.keepIn K (.ref (hf__law_is_row K)) = true) && (decide (PySem.W.nsIn K mainGlobals "_law_even" = some (some (.ref (hf__law_even K)))) && (decide (PySem.W.keepIn K (.ref (hf__law_even K)) = true) && (decide (PySem.W.nsIn K mainGlobals "_law_is_whole" = some (some (.ref (hf__law_is_whole K)))) && (decide (PySem.W.keepIn K (.ref (hf__law_is_whole K)) = true))))))))))))
def hck_5 (K : PySem.W.Frag) : Bool := decide (PySem.W.nsIn K mainGlobals "_law_all_whole" = some (some (.ref (hf__law_all_whole K)))) && (decide (PySem.W.keepIn K (.ref (hf__law_all_whole K)) = true) && (decide (PySem.W.nsIn K mainGlobals "_law_chosen" = some (some (.ref (hf__law_chosen K)))) && (decide (PySem.W.keepIn K (.ref (hf__law_chosen K)) = true) && (decide (PySem.W.nsIn K mainGlobals "_law_binomials" = some (some (.ref (hf__law_binomials K)))) && (decide (PySem.W.keepIn K (.ref (hf__law_binomials K)) = true) && (decide (PySem.W.nsIn K mainGlobals "_law_right" = some (some (.ref (hf__law_right K)))) && (decide (PySem.W.keepIn K (.ref (hf__law_right K)) = true) && (decide (PySem.W.nsIn K mainGlobals "_law_refused" = some (some (.ref (hf__law_refused K)))) && (decide (PySem.W.keepIn K (.ref (hf__law_refused K)) = true) && (decide (PySem.W.nsIn K mainGlobals "_law_rows_refused" = some (some (.ref (hf__law_rows_refused K)))) && (decide (PySem.W.keepIn K (.ref (hf__law_rows_refused K)) = true))))))))))))
def hck_6 (K : PySem.W.Frag) : Bool := decide (PySem.W.nsIn K mainGlobals "law" = some (some (.ref (hf_law K)))) && (decide (PySem.W.keepIn K (.ref (hf_law K)) = true) && (decide (PySem.W.nsIn K mainGlobals "BadCount" = some (some (.ref (hC_BadCount K)))) && (decide (PySem.W.keepIn K (.ref (hC_BadCount K)) = true) && (decide (PySem.W.excIn K (hC_BadCount K) [.type "ValueError", .type "Exception", .type "BaseException", .type "object"] "ValueError.__new__" = true) && (decide (PySem.W.subIn K (.ref (hC_BadCount K)) (.type "BaseException") = some true) && (decide (PySem.W.typeIn K (.ref (hC_BadCount K)) = some (.type "type")) && (decide (PySem.W.nsIn K mainGlobals "comb" = some (some (.builtin "math.comb"))) && (decide (PySem.W.nsIn K mainGlobals "BadWord" = some (some (.ref (hC_BadWord K)))) && (decide (PySem.W.findIn K (.ref (hC_BadWord K)) "__setattr__" = some (some (.builtin "object.__setattr__"))) && (decide (PySem.W.findIn K (.ref (hC_BadWord K)) "__getattribute__" = some (some (.builtin "BaseException.__getattribute__"))) && (decide (PySem.W.findIn K (.ref (hC_BadWord K)) "__getattr__" = some none))))))))))))
def hck_7 (K : PySem.W.Frag) : Bool := decide (PySem.W.subIn K (.ref (hC_BadWord K)) (.type "BaseException") = some true) && (decide (PySem.W.typeIn K (.ref (hC_BadWord K)) = some (.type "type")) && (decide (PySem.W.keepIn K (.ref (hC_BadWord K)) = true) && (decide (PySem.W.hasDictIn K (hC_BadWord K) = true) && (decide (PySem.W.findIn K (.ref (hC_BadWord K)) "index" = some none) && (decide (PySem.W.findIn K (.ref (hC_BadWord K)) "what" = some none) && (decide (PySem.W.findIn K (.ref (hC_BadWord K)) "__init__" = some (some (.ref (hi_BadWord K)))) && (decide (PySem.W.typeIn K (.ref (hi_BadWord K)) = some (.type "function")) && (decide (PySem.W.keepIn K (.ref (hi_BadWord K)) = true) && (decide (PySem.W.subIn K (.ref (hC_BadCount K)) (.ref (hC_BadCount K)) = some true) && (decide (PySem.W.subIn K (.ref (hC_BadWord K)) (.ref (hC_BadCount K)) = some false) && (decide (PySem.W.isClsIn K (hC_BadCount K) = true))))))))))))
def hck_8 (K : PySem.W.Frag) : Bool := decide (PySem.W.subIn K (.ref (hC_BadCount K)) (.ref (hC_BadWord K)) = some false) && (decide (PySem.W.subIn K (.ref (hC_BadWord K)) (.ref (hC_BadWord K)) = some true) && (decide (PySem.W.isClsIn K (hC_BadWord K) = true) && (decide (PySem.W.nsIn K mainGlobals "abs" = some none) && (decide (PySem.W.nsIn K mainGlobals "bool" = some none) && (decide (PySem.W.nsIn K mainGlobals "enumerate" = some none) && (decide (PySem.W.nsIn K mainGlobals "int" = some none) && (decide (PySem.W.nsIn K mainGlobals "isinstance" = some none) && (decide (PySem.W.nsIn K mainGlobals "len" = some none) && (decide (PySem.W.nsIn K mainGlobals "list" = some none) && (decide (PySem.W.nsIn K mainGlobals "range" = some none) && (decide (PySem.W.nsIn K mainGlobals "sum" = some none))))))))))))
def hck_9 (K : PySem.W.Frag) : Bool := decide (PySem.W.nsIn K mainGlobals "tuple" = some none) && (Hh.xlB K (hC_BadWord K) && (Hh.intB K "MOST_SECTIONS" 24))
theorem hck_0_ok {K : PySem.W.Frag} (h : hck_0 K = true) : (PySem.W.nsIn K mainGlobals "_law_hand" = some (some (.ref (hf__law_hand K)))) ∧ (PySem.W.keepIn K (.ref (hf__law_hand K)) = true) ∧ (PySem.W.nsIn K mainGlobals "_law_mixed" = some (some (.ref (hf__law_mixed K)))) ∧ (PySem.W.keepIn K (.ref (hf__law_mixed K)) = true) ∧ (PySem.W.nsIn K mainGlobals "_law_take" = some (some (.ref (hf__law_take K)))) ∧ (PySem.W.keepIn K (.ref (hf__law_take K)) = true) ∧ (PySem.W.nsIn K mainGlobals "_law_odd_word" = some (some (.ref (hf__law_odd_word K)))) ∧ (PySem.W.keepIn K (.ref (hf__law_odd_word K)) = true) ∧ (PySem.W.nsIn K mainGlobals "_law_word" = some (some (.ref (hf__law_word K)))) ∧ (PySem.W.keepIn K (.ref (hf__law_word K)) = true) ∧ (PySem.W.nsIn K mainGlobals "_law_built" = some (some (.ref (hf__law_built K)))) ∧ (PySem.W.keepIn K (.ref (hf__law_built K)) = true) := by
  unfold hck_0 at h
  obtain ⟨h0, h⟩ := He.ba h
  obtain ⟨h1, h⟩ := He.ba h
  obtain ⟨h2, h⟩ := He.ba h
  obtain ⟨h3, h⟩ := He.ba h
  obtain ⟨h4, h⟩ := He.ba h
  obtain ⟨h5, h⟩ := He.ba h
  obtain ⟨h6, h⟩ := He.ba h
  obtain ⟨h7, h⟩ := He.ba h
  obtain ⟨h8, h⟩ := He.ba h
  obtain ⟨h9, h⟩ := He.ba h
  obtain ⟨h10, h⟩ := He.ba h
  have h11 := h
  exact ⟨of_decide_eq_true h0, of_decide_eq_true h1, of_decide_eq_true h2, of_decide_eq_true h3, of_decide_eq_true h4, of_decide_eq_true h5, of_decide_eq_true h6, of_decide_eq_true h7, of_decide_eq_true h8, of_decide_eq_true h9, of_decide_eq_true h10, of_decide_eq_true h11⟩
theorem hck_1_ok {K : PySem.W.Frag} (h : hck_1 K = true) : (PySem.W.nsIn K mainGlobals "_law_count" = some (some (.ref (hf__law_count K)))) ∧ (PySem.W.keepIn K (.ref (hf__law_count K)) = true) ∧ (PySem.W.nsIn K mainGlobals "_check_first" = some (some (.ref (hf__check_first K)))) ∧ (PySem.W.keepIn K (.ref (hf__check_first K)) = true) ∧ (PySem.W.nsIn K mainGlobals "is_row" = some (some (.ref (hf_is_row K)))) ∧ (PySem.W.keepIn K (.ref (hf_is_row K)) = true) ∧ (PySem.W.nsIn K mainGlobals "is_whole" = some (some (.ref (hf_is_whole K)))) ∧ (PySem.W.keepIn K (.ref (hf_is_whole K)) = true) ∧ (PySem.W.nsIn K mainGlobals "_check_sign_row" = some (some (.ref (hf__check_sign_row K)))) ∧ (PySem.W.keepIn K (.ref (hf__check_sign_row K)) = true) ∧ (PySem.W.nsIn K mainGlobals "check_signs" = some (some (.ref (hf_check_signs K)))) ∧ (PySem.W.keepIn K (.ref (hf_check_signs K)) = true) := by
  unfold hck_1 at h
  obtain ⟨h0, h⟩ := He.ba h
  obtain ⟨h1, h⟩ := He.ba h
  obtain ⟨h2, h⟩ := He.ba h
  obtain ⟨h3, h⟩ := He.ba h
  obtain ⟨h4, h⟩ := He.ba h
  obtain ⟨h5, h⟩ := He.ba h
  obtain ⟨h6, h⟩ := He.ba h
  obtain ⟨h7, h⟩ := He.ba h
  obtain ⟨h8, h⟩ := He.ba h
  obtain ⟨h9, h⟩ := He.ba h
  obtain ⟨h10, h⟩ := He.ba h
  have h11 := h
  exact ⟨of_decide_eq_true h0, of_decide_eq_true h1, of_decide_eq_true h2, of_decide_eq_true h3, of_decide_eq_true h4, of_decide_eq_true h5, of_decide_eq_true h6, of_decide_eq_true h7, of_decide_eq_true h8, of_decide_eq_true h9, of_decide_eq_true h10, of_decide_eq_true h11⟩
theorem hck_2_ok {K : PySem.W.Frag} (h : hck_2 K = true) : (PySem.W.nsIn K mainGlobals "_running_sums" = some (some (.ref (hf__running_sums K)))) ∧ (PySem.W.keepIn K (.ref (hf__running_sums K)) = true) ∧ (PySem.W.nsIn K mainGlobals "sum_rows" = some (some (.ref (hf_sum_rows K)))) ∧ (PySem.W.keepIn K (.ref (hf_sum_rows K)) = true) ∧ (PySem.W.nsIn K mainGlobals "_law_rows" = some (some (.ref (hf__law_rows K)))) ∧ (PySem.W.keepIn K (.ref (hf__law_rows K)) = true) ∧ (PySem.W.nsIn K mainGlobals "binomial_sums" = some (some (.ref (hf_binomial_sums K)))) ∧ (PySem.W.keepIn K (.ref (hf_binomial_sums K)) = true) ∧ (PySem.W.nsIn K mainGlobals "binomial_noises" = some (some (.ref (hf_binomial_noises K)))) ∧ (PySem.W.keepIn K (.ref (hf_binomial_noises K)) = true) ∧ (PySem.W.nsIn K mainGlobals "_law_gcd" = some (some (.ref (hf__law_gcd K)))) ∧ (PySem.W.keepIn K (.ref (hf__law_gcd K)) = true) := by
  unfold hck_2 at h
  obtain ⟨h0, h⟩ := He.ba h
  obtain ⟨h1, h⟩ := He.ba h
  obtain ⟨h2, h⟩ := He.ba h
  obtain ⟨h3, h⟩ := He.ba h
  obtain ⟨h4, h⟩ := He.ba h
  obtain ⟨h5, h⟩ := He.ba h
  obtain ⟨h6, h⟩ := He.ba h
  obtain ⟨h7, h⟩ := He.ba h
  obtain ⟨h8, h⟩ := He.ba h
  obtain ⟨h9, h⟩ := He.ba h
  obtain ⟨h10, h⟩ := He.ba h
  have h11 := h
  exact ⟨of_decide_eq_true h0, of_decide_eq_true h1, of_decide_eq_true h2, of_decide_eq_true h3, of_decide_eq_true h4, of_decide_eq_true h5, of_decide_eq_true h6, of_decide_eq_true h7, of_decide_eq_true h8, of_decide_eq_true h9, of_decide_eq_true h10, of_decide_eq_true h11⟩
theorem hck_3_ok {K : PySem.W.Frag} (h : hck_3 K = true) : (PySem.W.nsIn K mainGlobals "_law_ratio" = some (some (.ref (hf__law_ratio K)))) ∧ (PySem.W.keepIn K (.ref (hf__law_ratio K)) = true) ∧ (PySem.W.nsIn K mainGlobals "_law_plus" = some (some (.ref (hf__law_plus K)))) ∧ (PySem.W.keepIn K (.ref (hf__law_plus K)) = true) ∧ (PySem.W.nsIn K mainGlobals "_law_times" = some (some (.ref (hf__law_times K)))) ∧ (PySem.W.keepIn K (.ref (hf__law_times K)) = true) ∧ (PySem.W.nsIn K mainGlobals "_law_noise" = some (some (.ref (hf__law_noise K)))) ∧ (PySem.W.keepIn K (.ref (hf__law_noise K)) = true) ∧ (PySem.W.nsIn K mainGlobals "_law_power" = some (some (.ref (hf__law_power K)))) ∧ (PySem.W.keepIn K (.ref (hf__law_power K)) = true) ∧ (PySem.W.nsIn K mainGlobals "_law_mark_hum" = some (some (.ref (hf__law_mark_hum K)))) ∧ (PySem.W.keepIn K (.ref (hf__law_mark_hum K)) = true) := by
  unfold hck_3 at h
  obtain ⟨h0, h⟩ := He.ba h
  obtain ⟨h1, h⟩ := He.ba h
  obtain ⟨h2, h⟩ := He.ba h
  obtain ⟨h3, h⟩ := He.ba h
  obtain ⟨h4, h⟩ := He.ba h
  obtain ⟨h5, h⟩ := He.ba h
  obtain ⟨h6, h⟩ := He.ba h
  obtain ⟨h7, h⟩ := He.ba h
  obtain ⟨h8, h⟩ := He.ba h
  obtain ⟨h9, h⟩ := He.ba h
  obtain ⟨h10, h⟩ := He.ba h
  have h11 := h
  exact ⟨of_decide_eq_true h0, of_decide_eq_true h1, of_decide_eq_true h2, of_decide_eq_true h3, of_decide_eq_true h4, of_decide_eq_true h5, of_decide_eq_true h6, of_decide_eq_true h7, of_decide_eq_true h8, of_decide_eq_true h9, of_decide_eq_true h10, of_decide_eq_true h11⟩
theorem hck_4_ok {K : PySem.W.Frag} (h : hck_4 K = true) : (PySem.W.nsIn K mainGlobals "_law_order" = some (some (.ref (hf__law_order K)))) ∧ (PySem.W.keepIn K (.ref (hf__law_order K)) = true) ∧ (PySem.W.nsIn K mainGlobals "_law_line_order" = some (some (.ref (hf__law_line_order K)))) ∧ (PySem.W.keepIn K (.ref (hf__law_line_order K)) = true) ∧ (PySem.W.nsIn K mainGlobals "_law_is_ratio" = some (some (.ref (hf__law_is_ratio K)))) ∧ (PySem.W.keepIn K (.ref (hf__law_is_ratio K)) = true) ∧ (PySem.W.nsIn K mainGlobals "_law_is_row" = some (some (.ref (hf__law_is_row K)))) ∧ (PySem.W.keepIn K (.ref (hf__law_is_row K)) = true) ∧ (PySem.W.nsIn K mainGlobals "_law_even" = some (some (.ref (hf__law_even K)))) ∧ (PySem.W.keepIn K (.ref (hf__law_even K)) = true) ∧ (PySem.W.nsIn K mainGlobals "_law_is_whole" = some (some (.ref (hf__law_is_whole K)))) ∧ (PySem.W.keepIn K (.ref (hf__law_is_whole K)) = true) := by
  unfold hck_4 at h
  obtain ⟨h0, h⟩ := He.ba h
  obtain ⟨h1, h⟩ := He.ba h
  obtain ⟨h2, h⟩ := He.ba h
  obtain ⟨h3, h⟩ := He.ba h
  obtain ⟨h4, h⟩ := He.ba h
  obtain ⟨h5, h⟩ := He.ba h
  obtain ⟨h6, h⟩ := He.ba h
  obtain ⟨h7, h⟩ := He.ba h
  obtain ⟨h8, h⟩ := He.ba h
  obtain ⟨h9, h⟩ := He.ba h
  obtain ⟨h10, h⟩ := He.ba h
  have h11 := h
  exact ⟨of_decide_eq_true h0, of_decide_eq_true h1, of_decide_eq_true h2, of_decide_eq_true h3, of_decide_eq_true h4, of_decide_eq_true h5, of_decide_eq_true h6, of_decide_eq_true h7, of_decide_eq_true h8, of_decide_eq_true h9, of_decide_eq_true h10, of_decide_eq_true h11⟩
theorem hck_5_ok {K : PySem.W.Frag} (h : hck_5 K = true) : (PySem.W.nsIn K mainGlobals "_law_all_whole" = some (some (.ref (hf__law_all_whole K)))) ∧ (PySem.W.keepIn K (.ref (hf__law_all_whole K)) = true) ∧ (PySem.W.nsIn K mainGlobals "_law_chosen" = some (some (.ref (hf__law_chosen K)))) ∧ (PySem.W.keepIn K (.ref (hf__law_chosen K)) = true) ∧ (PySem.W.nsIn K mainGlobals "_law_binomials" = some (some (.ref (hf__law_binomials K)))) ∧ (PySem.W.keepIn K (.ref (hf__law_binomials K)) = true) ∧ (PySem.W.nsIn K mainGlobals "_law_right" = some (some (.ref (hf__law_right K)))) ∧ (PySem.W.keepIn K (.ref (hf__law_right K)) = true) ∧ (PySem.W.nsIn K mainGlobals "_law_refused" = some (some (.ref (hf__law_refused K)))) ∧ (PySem.W.keepIn K (.ref (hf__law_refused K)) = true) ∧ (PySem.W.nsIn K mainGlobals "_law_rows_refused" = some (some (.ref (hf__law_rows_refused K)))) ∧ (PySem.W.keepIn K (.ref (hf__law_rows_refused K)) = true) := by
  unfold hck_5 at h
  obtain ⟨h0, h⟩ := He.ba h
  obtain ⟨h1, h⟩ := He.ba h
  obtain ⟨h2, h⟩ := He.ba h
  obtain ⟨h3, h⟩ := He.ba h
  obtain ⟨h4, h⟩ := He.ba h
  obtain ⟨h5, h⟩ := He.ba h
  obtain ⟨h6, h⟩ := He.ba h
  obtain ⟨h7, h⟩ := He.ba h
  obtain ⟨h8, h⟩ := He.ba h
  obtain ⟨h9, h⟩ := He.ba h
  obtain ⟨h10, h⟩ := He.ba h
  have h11 := h
  exact ⟨of_decide_eq_true h0, of_decide_eq_true h1, of_decide_eq_true h2, of_decide_eq_true h3, of_decide_eq_true h4, of_decide_eq_true h5, of_decide_eq_true h6, of_decide_eq_true h7, of_decide_eq_true h8, of_decide_eq_true h9, of_decide_eq_true h10, of_decide_eq_true h11⟩
theorem hck_6_ok {K : PySem.W.Frag} (h : hck_6 K = true) : (PySem.W.nsIn K mainGlobals "law" = some (some (.ref (hf_law K)))) ∧ (PySem.W.keepIn K (.ref (hf_law K)) = true) ∧ (PySem.W.nsIn K mainGlobals "BadCount" = some (some (.ref (hC_BadCount K)))) ∧ (PySem.W.keepIn K (.ref (hC_BadCount K)) = true) ∧ (PySem.W.excIn K (hC_BadCount K) [.type "ValueError", .type "Exception", .type "BaseException", .type "object"] "ValueError.__new__" = true) ∧ (PySem.W.subIn K (.ref (hC_BadCount K)) (.type "BaseException") = some true) ∧ (PySem.W.typeIn K (.ref (hC_BadCount K)) = some (.type "type")) ∧ (PySem.W.nsIn K mainGlobals "comb" = some (some (.builtin "math.comb"))) ∧ (PySem.W.nsIn K mainGlobals "BadWord" = some (some (.ref (hC_BadWord K)))) ∧ (PySem.W.findIn K (.ref (hC_BadWord K)) "__setattr__" = some (some (.builtin "object.__setattr__"))) ∧ (PySem.W.findIn K (.ref (hC_BadWord K)) "__getattribute__" = some (some (.builtin "BaseException.__getattribute__"))) ∧ (PySem.W.findIn K (.ref (hC_BadWord K)) "__getattr__" = some none) := by
  unfold hck_6 at h
  obtain ⟨h0, h⟩ := He.ba h
  obtain ⟨h1, h⟩ := He.ba h
  obtain ⟨h2, h⟩ := He.ba h
  obtain ⟨h3, h⟩ := He.ba h
  obtain ⟨h4, h⟩ := He.ba h
  obtain ⟨h5, h⟩ := He.ba h
  obtain ⟨h6, h⟩ := He.ba h
  obtain ⟨h7, h⟩ := He.ba h
  obtain ⟨h8, h⟩ := He.ba h
  obtain ⟨h9, h⟩ := He.ba h
  obtain ⟨h10, h⟩ := He.ba h
  have h11 := h
  exact ⟨of_decide_eq_true h0, of_decide_eq_true h1, of_decide_eq_true h2, of_decide_eq_true h3, of_decide_eq_true h4, of_decide_eq_true h5, of_decide_eq_true h6, of_decide_eq_true h7, of_decide_eq_true h8, of_decide_eq_true h9, of_decide_eq_true h10, of_decide_eq_true h11⟩
theorem hck_7_ok {K : PySem.W.Frag} (h : hck_7 K = true) : (PySem.W.subIn K (.ref (hC_BadWord K)) (.type "BaseException") = some true) ∧ (PySem.W.typeIn K (.ref (hC_BadWord K)) = some (.type "type")) ∧ (PySem.W.keepIn K (.ref (hC_BadWord K)) = true) ∧ (PySem.W.hasDictIn K (hC_BadWord K) = true) ∧ (PySem.W.findIn K (.ref (hC_BadWord K)) "index" = some none) ∧ (PySem.W.findIn K (.ref (hC_BadWord K)) "what" = some none) ∧ (PySem.W.findIn K (.ref (hC_BadWord K)) "__init__" = some (some (.ref (hi_BadWord K)))) ∧ (PySem.W.typeIn K (.ref (hi_BadWord K)) = some (.type "function")) ∧ (PySem.W.keepIn K (.ref (hi_BadWord K)) = true) ∧ (PySem.W.subIn K (.ref (hC_BadCount K)) (.ref (hC_BadCount K)) = some true) ∧ (PySem.W.subIn K (.ref (hC_BadWord K)) (.ref (hC_BadCount K)) = some false) ∧ (PySem.W.isClsIn K (hC_BadCount K) = true) := by
  unfold hck_7 at h
  obtain ⟨h0, h⟩ := He.ba h
  obtain ⟨h1, h⟩ := He.ba h
  obtain ⟨h2, h⟩ := He.ba h
  obtain ⟨h3, h⟩ := He.ba h
  obtain ⟨h4, h⟩ := He.ba h
  obtain ⟨h5, h⟩ := He.ba h
  obtain ⟨h6, h⟩ := He.ba h
  obtain ⟨h7, h⟩ := He.ba h
  obtain ⟨h8, h⟩ := He.ba h
  obtain ⟨h9, h⟩ := He.ba h
  obtain ⟨h10, h⟩ := He.ba h
  have h11 := h
  exact ⟨of_decide_eq_true h0, of_decide_eq_true h1, of_decide_eq_true h2, of_decide_eq_true h3, of_decide_eq_true h4, of_decide_eq_true h5, of_decide_eq_true h6, of_decide_eq_true h7, of_decide_eq_true h8, of_decide_eq_true h9, of_decide_eq_true h10, of_decide_eq_true h11⟩
theorem hck_8_ok {K : PySem.W.Frag} (h : hck_8 K = true) : (PySem.W.subIn K (.ref (hC_BadCount K)) (.ref (hC_BadWord K)) = some false) ∧ (PySem.W.subIn K (.ref (hC_BadWord K)) (.ref (hC_BadWord K)) = some true) ∧ (PySem.W.isClsIn K (hC_BadWord K) = true) ∧ (PySem.W.nsIn K mainGlobals "abs" = some none) ∧ (PySem.W.nsIn K mainGlobals "bool" = some none) ∧ (PySem.W.nsIn K mainGlobals "enumerate" = some none) ∧ (PySem.W.nsIn K mainGlobals "int" = some none) ∧ (PySem.W.nsIn K mainGlobals "isinstance" = some none) ∧ (PySem.W.nsIn K mainGlobals "len" = some none) ∧ (PySem.W.nsIn K mainGlobals "list" = some none) ∧ (PySem.W.nsIn K mainGlobals "range" = some none) ∧ (PySem.W.nsIn K mainGlobals "sum" = some none) := by
  unfold hck_8 at h
  obtain ⟨h0, h⟩ := He.ba h
  obtain ⟨h1, h⟩ := He.ba h
  obtain ⟨h2, h⟩ := He.ba h
  obtain ⟨h3, h⟩ := He.ba h
  obtain ⟨h4, h⟩ := He.ba h
  obtain ⟨h5, h⟩ := He.ba h
  obtain ⟨h6, h⟩ := He.ba h
  obtain ⟨h7, h⟩ := He.ba h
  obtain ⟨h8, h⟩ := He.ba h
  obtain ⟨h9, h⟩ := He.ba h
  obtain ⟨h10, h⟩ := He.ba h
  have h11 := h
  exact ⟨of_decide_eq_true h0, of_decide_eq_true h1, of_decide_eq_true h2, of_decide_eq_true h3, of_decide_eq_true h4, of_decide_eq_true h5, of_decide_eq_true h6, of_decide_eq_true h7, of_decide_eq_true h8, of_decide_eq_true h9, of_decide_eq_true h10, of_decide_eq_true h11⟩
theorem hck_9_ok {K : PySem.W.Frag} (h : hck_9 K = true) : (PySem.W.nsIn K mainGlobals "tuple" = some none) ∧ (Hh.xlB K (hC_BadWord K) = true) ∧ (Hh.intB K "MOST_SECTIONS" 24 = true) := by
  unfold hck_9 at h
  obtain ⟨h0, h⟩ := He.ba h
  obtain ⟨h1, h⟩ := He.ba h
  have h2 := h
  exact ⟨of_decide_eq_true h0, h1, h2⟩
def hNames_0 : List PySem.Str := ["WireError", "BadWord", "BadCount", "is_whole", "is_row", "MOST_SECTIONS", "_check_sign_row", "_check_first", "check_signs", "sum_rows", "_running_sums", "binomial_noises", "binomial_sums", "_law_hand", "_law_mixed", "_law_take"]
def hNames_1 : List PySem.Str := ["_law_gcd", "_law_ratio", "_law_plus", "_law_times", "_law_power", "_law_noise", "_law_mark_hum", "_law_order", "_law_even", "_law_word", "_law_built", "_law_is_ratio", "_law_is_row", "_law_count", "_law_is_whole", "_law_all_whole"]
def hNames_2 : List PySem.Str := ["_law_rows", "_law_chosen", "_law_binomials", "_law_odd_word", "_law_line_order", "_law_refused", "_law_rows_refused", "_law_right"]
def hNames : List PySem.Str := hNames_0 ++ (hNames_1 ++ (hNames_2))
abbrev hR : PySem.W.OpenRow := PySem.W.OpenLaw.row PySem.Challenge.rw_hushedwires_k34_whole_sums_of_running_su
abbrev hV : Program := PySem.W.view hR.prog [0, 46]
def hq_0 (K : PySem.W.Frag) : Bool := hck_0 K && (hck_3 K && (hck_6 K && (hck_9 K)))
def hq_1 (K : PySem.W.Frag) : Bool := hck_1 K && (hck_4 K && (hck_7 K))
def hq_2 (K : PySem.W.Frag) : Bool := hck_2 K && (hck_5 K && (hck_8 K))
def hck (K : PySem.W.Frag) : Bool := hq_0 K && (hq_1 K && (hq_2 K))
def hHook : PySem.W.Hook := Hh.hookH 5 hDefs hck
def hOb (s : PySem.W.SharedT) : He.AlD := Hh.obsH 5 hDefs hck (HandSHeadRun.getT s)
theorem hOb_eq (s : PySem.W.SharedT) : hOb s = hHook.obs s.abs := Hh.obsH_eq (HandSHeadRun.getT_eq s)
set_option maxHeartbeats 0 in
theorem hRunD (w : World) : Hh.Part hR hV 9000 hNames w (fun s => Hh.obsK hDefs (fun _ => true) (Hh.KS 5 s)) (Hh.valH hDefs) := by
  unfold Hh.Part
  kernel_rfl
set_option maxHeartbeats 0 in
theorem hRun0 (w : World) : Hh.Part hR hV 9000 hNames w (fun s => hq_0 (Hh.KS 5 s)) true := by
  unfold Hh.Part
  kernel_rfl
set_option maxHeartbeats 0 in
theorem hRun1 (w : World) : Hh.Part hR hV 9000 hNames w (fun s => hq_1 (Hh.KS 5 s)) true := by
  unfold Hh.Part
  kernel_rfl
set_option maxHeartbeats 0 in
theorem hRun2 (w : World) : Hh.Part hR hV 9000 hNames w (fun s => hq_2 (Hh.KS 5 s)) true := by
  unfold Hh.Part
  kernel_rfl
theorem hRun (w : World) : HandSHeadRun.RunEqI hR hV hHook hOb 9000 hNames w :=
  ((((hRunD w).join (hRun0 w)).join (hRun1 w)).join (hRun2 w)).to (fun z => ((z.1.1.2 && (z.1.2 && (z.2))) && z.1.1.1.1, z.1.1.1.2))
set_option maxHeartbeats 0 in
theorem hFacts {w : World} {K : PySem.W.Frag} {h : Heap} {mg : Str → Option Value} {fa : Addr} (X : K.In h) (G : h.Ns mainGlobals mg) (hfa : mg "law" = some (.ref fa)) (c : Hh.SaysH hDefs hck K) :
    ∃ fd : FuncData, (∀ (s : Shared) (v : Value), BindsTo s fd ⟨[v], []⟩ [("_law_script", v)]) ∧ ∀ base : Heap, K.In base → base.Ns mainGlobals mg → DL.FnOk (PySem.Challenge.rw_hushedwires_k34_whole_sums_of_running_su).prog w K mg base (L2.CX (PySem.Challenge.rw_hushedwires_k34_whole_sums_of_running_su).prog w) 8 fa fd ["_law_script"] (spLaw K) := by
  have hk := c.ck
  unfold hck at hk
  obtain ⟨g0, hk⟩ := He.ba hk
  obtain ⟨g1, hk⟩ := He.ba hk
  have g2 := hk
  unfold hq_0 at g0
  obtain ⟨k0, g0⟩ := He.ba g0
  obtain ⟨k3, g0⟩ := He.ba g0
  obtain ⟨k6, g0⟩ := He.ba g0
  have k9 := g0
  unfold hq_1 at g1
  obtain ⟨k1, g1⟩ := He.ba g1
  obtain ⟨k4, g1⟩ := He.ba g1
  have k7 := g1
  unfold hq_2 at g2
  obtain ⟨k2, g2⟩ := He.ba g2
  obtain ⟨k5, g2⟩ := He.ba g2
  have k8 := g2
  obtain ⟨h_a__law_hand, h_k__law_hand, h_a__law_mixed, h_k__law_mixed, h_a__law_take, h_k__law_take, h_a__law_odd_word, h_k__law_odd_word, h_a__law_word, h_k__law_word, h_a__law_built, h_k__law_built⟩ := hck_0_ok k0
  obtain ⟨h_a__law_count, h_k__law_count, h_a__check_first, h_k__check_first, h_a_is_row, h_k_is_row, h_a_is_whole, h_k_is_whole, h_a__check_sign_row, h_k__check_sign_row, h_a_check_signs, h_k_check_signs⟩ := hck_1_ok k1
  obtain ⟨h_a__running_sums, h_k__running_sums, h_a_sum_rows, h_k_sum_rows, h_a__law_rows, h_k__law_rows, h_a_binomial_sums, h_k_binomial_sums, h_a_binomial_noises, h_k_binomial_noises, h_a__law_gcd, h_k__law_gcd⟩ := hck_2_ok k2
  obtain ⟨h_a__law_ratio, h_k__law_ratio, h_a__law_plus, h_k__law_plus, h_a__law_times, h_k__law_times, h_a__law_noise, h_k__law_noise, h_a__law_power, h_k__law_power, h_a__law_mark_hum, h_k__law_mark_hum⟩ := hck_3_ok k3
  obtain ⟨h_a__law_order, h_k__law_order, h_a__law_line_order, h_k__law_line_order, h_a__law_is_ratio, h_k__law_is_ratio, h_a__law_is_row, h_k__law_is_row, h_a__law_even, h_k__law_even, h_a__law_is_whole, h_k__law_is_whole⟩ := hck_4_ok k4
  obtain ⟨h_a__law_all_whole, h_k__law_all_whole, h_a__law_chosen, h_k__law_chosen, h_a__law_binomials, h_k__law_binomials, h_a__law_right, h_k__law_right, h_a__law_refused, h_k__law_refused, h_a__law_rows_refused, h_k__law_rows_refused⟩ := hck_5_ok k5
  obtain ⟨h_a_law, h_k_law, h_aC_BadCount, h_kC_BadCount, h_ve_BadCount, h_ex_BadCount, h_ty_BadCount, h_bf_comb, h_aC_BadWord, h_sa_BadWord, h_ga_BadWord, h_gg_BadWord⟩ := hck_6_ok k6
  obtain ⟨h_ex_BadWord, h_ty_BadWord, h_kC_BadWord, h_hd_BadWord, h_no_BadWord_index, h_no_BadWord_what, h_ai_BadWord, h_ti_BadWord, h_ki_BadWord, h_te_BadCount_BadCount, h_te_BadWord_BadCount, h_ic_BadCount⟩ := hck_7_ok k7
  obtain ⟨h_te_BadCount_BadWord, h_te_BadWord_BadWord, h_ic_BadWord, h_z_abs, h_z_bool, h_z_enumerate, h_z_int, h_z_isinstance, h_z_len, h_z_list, h_z_range, h_z_sum⟩ := hck_8_ok k8
  obtain ⟨h_z_tuple, h_xL_BadWord, h_w_MOST_SECTIONS⟩ := hck_9_ok k9
  have d_ := c.at 0 (d := hd__law_hand) rfl
  obtain ⟨_, _, _, _, _, _, _, _, _, h_l__law_hand, h_c__law_hand⟩ := Hh.DefH.plain d_.1 d_.2 rfl
  have d_ := c.at 1 (d := hd__law_mixed) rfl
  obtain ⟨_, _, _, _, _, _, _, _, _, h_l__law_mixed, h_c__law_mixed⟩ := Hh.DefH.plain d_.1 d_.2 rfl
  have d_ := c.at 2 (d := hd__law_take) rfl
  obtain ⟨_, _, _, _, _, _, _, _, _, h_l__law_take, h_c__law_take⟩ := Hh.DefH.plain d_.1 d_.2 rfl
  have d_ := c.at 3 (d := hd__law_odd_word) rfl
  obtain ⟨_, _, _, _, _, _, _, _, _, h_l__law_odd_word, h_c__law_odd_word⟩ := Hh.DefH.plain d_.1 d_.2 rfl
  have d_ := c.at 4 (d := hd__law_word) rfl
  obtain ⟨_, _, _, _, _, _, _, _, _, h_l__law_word, h_c__law_word⟩ := Hh.DefH.plain d_.1 d_.2 rfl
  have d_ := c.at 5 (d := hd__law_built) rfl
  obtain ⟨_, _, _, _, _, _, _, _, _, h_l__law_built, h_c__law_built⟩ := Hh.DefH.plain d_.1 d_.2 rfl
  have d_ := c.at 6 (d := hd__law_count) rfl
  obtain ⟨_, _, _, _, _, _, _, _, _, h_l__law_count, h_c__law_count⟩ := Hh.DefH.plain d_.1 d_.2 rfl
  have d_ := c.at 7 (d := hd__check_first) rfl
  obtain ⟨_, _, _, _, _, _, _, _, _, h_l__check_first, h_c__check_first⟩ := Hh.DefH.plain d_.1 d_.2 rfl
  have d_ := c.at 8 (d := hd_is_row) rfl
  obtain ⟨_, _, _, _, _, _, _, _, _, h_l_is_row, h_c_is_row⟩ := Hh.DefH.plain d_.1 d_.2 rfl
  have d_ := c.at 9 (d := hd_is_whole) rfl
  obtain ⟨_, _, _, _, _, _, _, _, _, _, h_l_is_whole, h_c_is_whole, _, _, its, _, _, h_t_is_whole, hv⟩ := Hh.DefH.dfls d_.1 d_.2 rfl
  obtain ⟨u0, r0, e0, q0, y0⟩ := Hh.vals_c hv
  obtain ⟨u1, r1, e1, q1, y1⟩ := Hh.vals_c y0
  have eN := Hh.vals_n y1
  subst eN
  subst e1
  subst e0
  have z0 := Hh.rel_non q0
  subst z0
  have z1 := Hh.rel_non q1
  subst z1
  have d_ := c.at 10 (d := hd__check_sign_row) rfl
  obtain ⟨_, _, _, _, _, _, _, _, _, h_l__check_sign_row, h_c__check_sign_row⟩ := Hh.DefH.plain d_.1 d_.2 rfl
  have d_ := c.at 11 (d := hd_check_signs) rfl
  obtain ⟨_, _, _, _, _, _, _, _, _, h_l_check_signs, h_c_check_signs⟩ := Hh.DefH.plain d_.1 d_.2 rfl
  have d_ := c.at 12 (d := hd__running_sums) rfl
  obtain ⟨_, _, _, _, _, _, _, _, _, h_l__running_sums, h_c__running_sums⟩ := Hh.DefH.plain d_.1 d_.2 rfl
  have d_ := c.at 13 (d := hd_sum_rows) rfl
  obtain ⟨_, _, _, _, _, _, _, _, _, h_l_sum_rows, h_c_sum_rows⟩ := Hh.DefH.plain d_.1 d_.2 rfl
  have d_ := c.at 14 (d := hd__law_rows) rfl
  obtain ⟨_, _, _, _, _, _, _, _, _, h_l__law_rows, h_c__law_rows⟩ := Hh.DefH.plain d_.1 d_.2 rfl
  have d_ := c.at 15 (d := hd_binomial_sums) rfl
  obtain ⟨_, _, _, _, _, _, _, _, _, h_l_binomial_sums, h_c_binomial_sums⟩ := Hh.DefH.plain d_.1 d_.2 rfl
  have d_ := c.at 16 (d := hd_binomial_noises) rfl
  obtain ⟨_, _, _, _, _, _, _, _, _, h_l_binomial_noises, h_c_binomial_noises⟩ := Hh.DefH.plain d_.1 d_.2 rfl
  have d_ := c.at 17 (d := hd__law_gcd) rfl
  obtain ⟨_, _, _, _, _, _, _, _, _, h_l__law_gcd, h_c__law_gcd⟩ := Hh.DefH.plain d_.1 d_.2 rfl
  have d_ := c.at 18 (d := hd__law_ratio) rfl
  obtain ⟨_, _, _, _, _, _, _, _, _, h_l__law_ratio, h_c__law_ratio⟩ := Hh.DefH.plain d_.1 d_.2 rfl
  have d_ := c.at 19 (d := hd__law_plus) rfl
  obtain ⟨_, _, _, _, _, _, _, _, _, h_l__law_plus, h_c__law_plus⟩ := Hh.DefH.plain d_.1 d_.2 rfl
  have d_ := c.at 20 (d := hd__law_times) rfl
  obtain ⟨_, _, _, _, _, _, _, _, _, h_l__law_times, h_c__law_times⟩ := Hh.DefH.plain d_.1 d_.2 rfl
  have d_ := c.at 21 (d := hd__law_noise) rfl
  obtain ⟨_, _, _, _, _, _, _, _, _, h_l__law_noise, h_c__law_noise⟩ := Hh.DefH.plain d_.1 d_.2 rfl
  have d_ := c.at 22 (d := hd__law_power) rfl
  obtain ⟨_, _, _, _, _, _, _, _, _, h_l__law_power, h_c__law_power⟩ := Hh.DefH.plain d_.1 d_.2 rfl
  have d_ := c.at 23 (d := hd__law_mark_hum) rfl
  obtain ⟨_, _, _, _, _, _, _, _, _, h_l__law_mark_hum, h_c__law_mark_hum⟩ := Hh.DefH.plain d_.1 d_.2 rfl
  have d_ := c.at 24 (d := hd__law_order) rfl
  obtain ⟨_, _, _, _, _, _, _, _, _, h_l__law_order, h_c__law_order⟩ := Hh.DefH.plain d_.1 d_.2 rfl
  have d_ := c.at 25 (d := hd__law_line_order) rfl
  obtain ⟨_, _, _, _, _, _, _, _, _, h_l__law_line_order, h_c__law_line_order⟩ := Hh.DefH.plain d_.1 d_.2 rfl
  have d_ := c.at 26 (d := hd__law_is_ratio) rfl
  obtain ⟨_, _, _, _, _, _, _, _, _, h_l__law_is_ratio, h_c__law_is_ratio⟩ := Hh.DefH.plain d_.1 d_.2 rfl
  have d_ := c.at 27 (d := hd__law_is_row) rfl
  obtain ⟨_, _, _, _, _, _, _, _, _, h_l__law_is_row, h_c__law_is_row⟩ := Hh.DefH.plain d_.1 d_.2 rfl
  have d_ := c.at 28 (d := hd__law_even) rfl
  obtain ⟨_, _, _, _, _, _, _, _, _, h_l__law_even, h_c__law_even⟩ := Hh.DefH.plain d_.1 d_.2 rfl
  have d_ := c.at 29 (d := hd__law_is_whole) rfl
  obtain ⟨_, _, _, _, _, _, _, _, _, h_l__law_is_whole, h_c__law_is_whole⟩ := Hh.DefH.plain d_.1 d_.2 rfl
  have d_ := c.at 30 (d := hd__law_all_whole) rfl
  obtain ⟨_, _, _, _, _, _, _, _, _, h_l__law_all_whole, h_c__law_all_whole⟩ := Hh.DefH.plain d_.1 d_.2 rfl
  have d_ := c.at 31 (d := hd__law_chosen) rfl
  obtain ⟨_, _, _, _, _, _, _, _, _, h_l__law_chosen, h_c__law_chosen⟩ := Hh.DefH.plain d_.1 d_.2 rfl
  have d_ := c.at 32 (d := hd__law_binomials) rfl
  obtain ⟨_, _, _, _, _, _, _, _, _, h_l__law_binomials, h_c__law_binomials⟩ := Hh.DefH.plain d_.1 d_.2 rfl
  have d_ := c.at 33 (d := hd__law_right) rfl
  obtain ⟨_, _, _, _, _, _, _, _, _, h_l__law_right, h_c__law_right⟩ := Hh.DefH.plain d_.1 d_.2 rfl
  have d_ := c.at 34 (d := hd__law_refused) rfl
  obtain ⟨_, _, _, _, _, _, _, _, _, h_l__law_refused, h_c__law_refused⟩ := Hh.DefH.plain d_.1 d_.2 rfl
  have d_ := c.at 35 (d := hd__law_rows_refused) rfl
  obtain ⟨_, _, _, _, _, _, _, _, _, h_l__law_rows_refused, h_c__law_rows_refused⟩ := Hh.DefH.plain d_.1 d_.2 rfl
  have d_ := c.at 36 (d := hd_law) rfl
  obtain ⟨_, _, _, _, _, _, _, _, _, h_l_law, h_c_law⟩ := Hh.DefH.plain d_.1 d_.2 rfl
  have d_ := c.at 37 (d := hdi_BadWord) rfl
  obtain ⟨_, _, _, _, _, _, _, _, _, h_li_BadWord, h_ci_BadWord⟩ := Hh.DefH.plain d_.1 d_.2 rfl
  obtain ⟨_, _, _, _, _, _, _, _, _, _, _, _, _, _, _, h_xL_BadWord, h_ve_BadWord⟩ := Hh.xl_at h_xL_BadWord
  obtain ⟨_, h_w_MOST_SECTIONS⟩ := Hh.int_at h_w_MOST_SECTIONS
  exact all_mk (l := PySem.Challenge.rw_hushedwires_k34_whole_sums_of_running_su) (w := w) X G hfa h_a__law_hand h_l__law_hand h_c__law_hand h_k__law_hand h_a__law_mixed h_l__law_mixed h_c__law_mixed h_k__law_mixed h_a__law_take h_l__law_take h_c__law_take h_k__law_take h_a__law_odd_word h_l__law_odd_word h_c__law_odd_word h_k__law_odd_word h_a__law_word h_l__law_word h_c__law_word h_k__law_word h_a__law_built h_l__law_built h_c__law_built h_k__law_built h_a__law_count h_l__law_count h_c__law_count h_k__law_count h_a__check_first h_l__check_first h_c__check_first h_k__check_first h_a_is_row h_l_is_row h_c_is_row h_k_is_row h_a_is_whole h_l_is_whole h_c_is_whole h_k_is_whole h_t_is_whole h_a__check_sign_row h_l__check_sign_row h_c__check_sign_row h_k__check_sign_row h_a_check_signs h_l_check_signs h_c_check_signs h_k_check_signs h_a__running_sums h_l__running_sums h_c__running_sums h_k__running_sums h_a_sum_rows h_l_sum_rows h_c_sum_rows h_k_sum_rows h_a__law_rows h_l__law_rows h_c__law_rows h_k__law_rows h_a_binomial_sums h_l_binomial_sums h_c_binomial_sums h_k_binomial_sums h_a_binomial_noises h_l_binomial_noises h_c_binomial_noises h_k_binomial_noises h_a__law_gcd h_l__law_gcd h_c__law_gcd h_k__law_gcd h_a__law_ratio h_l__law_ratio h_c__law_ratio h_k__law_ratio h_a__law_plus h_l__law_plus h_c__law_plus h_k__law_plus h_a__law_times h_l__law_times h_c__law_times h_k__law_times h_a__law_noise h_l__law_noise h_c__law_noise h_k__law_noise h_a__law_power h_l__law_power h_c__law_power h_k__law_power h_a__law_mark_hum h_l__law_mark_hum h_c__law_mark_hum h_k__law_mark_hum h_a__law_order h_l__law_order h_c__law_order h_k__law_order h_a__law_line_order h_l__law_line_order h_c__law_line_order h_k__law_line_order h_a__law_is_ratio h_l__law_is_ratio h_c__law_is_ratio h_k__law_is_ratio h_a__law_is_row h_l__law_is_row h_c__law_is_row h_k__law_is_row h_a__law_even h_l__law_even h_c__law_even h_k__law_even h_a__law_is_whole h_l__law_is_whole h_c__law_is_whole h_k__law_is_whole h_a__law_all_whole h_l__law_all_whole h_c__law_all_whole h_k__law_all_whole h_a__law_chosen h_l__law_chosen h_c__law_chosen h_k__law_chosen h_a__law_binomials h_l__law_binomials h_c__law_binomials h_k__law_binomials h_a__law_right h_l__law_right h_c__law_right h_k__law_right h_a__law_refused h_l__law_refused h_c__law_refused h_k__law_refused h_a__law_rows_refused h_l__law_rows_refused h_c__law_rows_refused h_k__law_rows_refused h_a_law h_l_law h_c_law h_k_law h_aC_BadCount h_kC_BadCount h_ve_BadCount h_ex_BadCount h_ty_BadCount h_bf_comb h_aC_BadWord h_xL_BadWord h_ve_BadWord h_sa_BadWord h_ga_BadWord h_gg_BadWord h_ex_BadWord h_ty_BadWord h_kC_BadWord h_hd_BadWord h_no_BadWord_index h_no_BadWord_what h_ai_BadWord h_ti_BadWord h_li_BadWord h_ci_BadWord h_ki_BadWord h_te_BadCount_BadCount h_te_BadWord_BadCount h_ic_BadCount h_te_BadCount_BadWord h_te_BadWord_BadWord h_ic_BadWord h_z_abs h_z_bool h_z_enumerate h_z_int h_z_isinstance h_z_len h_z_list h_z_range h_z_sum h_z_tuple h_w_MOST_SECTIONS law_true
end K34

open PySem PySem.W PySem.Calls PyProof.Rows
set_option maxRecDepth 100000 in
set_option maxHeartbeats 0 in
theorem PySem.Challenge.cw_hushedwires_k34_whole_sums_of_running_su_holds : PySem.Challenge.rw_hushedwires_k34_whole_sums_of_running_su.Holds := by
  w_on; o_law
  refine HandSHeadRun.head_imp (r := OpenLaw.row PySem.Challenge.rw_hushedwires_k34_whole_sums_of_running_su) (q := K34.hV) (H := K34.hHook) (ob := K34.hOb) (M := 9000) (loose := K34.hNames) (d := HandSHeadRun.topDef (OpenLaw.row PySem.Challenge.rw_hushedwires_k34_whole_sums_of_running_su).prog 46) (kwd := []) K34.hOb_eq K34.hRun (by kernel_rfl) (by kernel_rfl) (by kernel_rfl) (by rfl) (by first | assumption | decide +kernel) (by decide +kernel) ⟨rfl, rfl, rfl, rfl, rfl, by decide +kernel⟩ ?hw ?hc
  case hw => w_witness2
  case hc =>
    refine L2.law_told (l := PySem.Challenge.rw_hushedwires_k34_whole_sums_of_running_su) (n := 63) (k := 8) (x := "_law_script") (CX := fun w => L2.CX PySem.Challenge.rw_hushedwires_k34_whole_sums_of_running_su.prog w) rfl (by decide) (by kernel_rfl) (DL.room_caller ⟨rfl, by decide, by decide⟩) ?F (fun _ _ _ _ _ h => DL.cx_none h)
    intro w mg fa h Y G hmg0
    obtain ⟨K, KX, c⟩ := Y
    have e : (HandSHeadRun.topDef (OpenLaw.row PySem.Challenge.rw_hushedwires_k34_whole_sums_of_running_su).prog 46).name = ("law" : PySem.Str) := by kernel_rfl
    rw [e] at hmg0
    obtain ⟨fd, hb, hF⟩ := K34.hFacts (w := w) KX G hmg0 c
    exact ⟨K, fd, DL.spLaw K, KX, hb, hF, fun H a ns hl hb hO hS => ⟨a, ns, rfl, hl, hb, hO, hS, fun _ => rfl⟩⟩
