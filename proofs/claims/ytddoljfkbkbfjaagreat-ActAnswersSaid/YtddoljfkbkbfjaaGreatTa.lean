/- Heaps as plain data; how rows of structs, threads and heaps are read. -/
import Derived.Test.YtddoljfkbkbfjaaGreatGb
namespace Go.Proofs.YtddoljfkbkbfjaaGreat.T
open G
open Go.Joins Go.ChangeShapes Go.WideShapes Go.ChangeAt Go.RowKit Go.Deep Go.Shelf Go.Maps
set_option linter.unusedVariables false
set_option linter.unusedSimpArgs false

abbrev Op := G.Op
/-- An entry: the object, the field. -/
abbrev Ent := Int × Int
def wdc (x : Int) : List Value := [.int .u64 x]
def inc (x : Int) : List Value := [.int .i64 x]
def enc (x : Ent) : List Value := [.int .u64 x.1, .int .i64 x.2]
def opc (o : Op) : List Value := [.int .i64 o.kd, .int .i64 o.h, .int .i64 o.i, .int .i64 o.k, .int .u64 o.v, .int .i64 o.t, .int .i64 o.l, .int .u64 o.m]
def anc (a : An) : List Value := [.int .i64 a.1, .int .u64 a.2.1, .bool a.2.2]
/-- A thread's cells. -/
structure Tv where
  st : Value
  ba : Int
  be : Int
  lg : Value
  lf : Value
  pd : Value
  wt : Bool
  dn : Value
def tvc (u : Tv) : List Value := [u.st, .int .i64 u.ba, .int .i64 u.be, u.lg, u.lf, u.pd, .bool u.wt, u.dn]
abbrev oz : Op := ⟨0, 0, 0, 0, 0, 0, 0, 0⟩
abbrev az : An := (0, 0, false)
abbrev ez : Ent := (0, 0)
abbrev tz : Tv := ⟨.slice none 0 0, 0, 0, .slice none 0 0, .slice none 0 0, .slice none 0 0, false, .slice none 0 0⟩
/-- A thread. -/
structure Th where
  st : List Int
  ba : Int
  be : Int
  lg : List Ent
  lf : List Op
  pd : List Ent
  wt : Bool
  dn : List An
/-- A heap. -/
structure Hp where
  m : Me
  fs : Int
  fa : Int
  fl : Int
  ts : Int
  ta : Int
  tl : Int
  sz : Int
  lg : Int
  th : List Th
  ph : Int
  sc : Int
  fp : Int
  od : List Int
  bk : Int

section
variable {α : Type} {cv : α → List Value} {k : Nat}
theorem fm_len (h : ∀ x, (cv x).length = k) (xs : List α) : (xs.flatMap cv).length = xs.length * k := by
  induction xs with
  | nil => simp
  | cons x r ih => rw [List.flatMap_cons, List.length_append, h, ih, List.length_cons, Nat.add_mul]; omega
theorem fm_at (h : ∀ x, (cv x).length = k) : ∀ (xs : List α) (j i : Nat) (x : α), xs[j]? = some x → i < k → (xs.flatMap cv)[j * k + i]? = (cv x)[i]?
  | [], j, i, x, hj, _ => by simp at hj
  | y :: r, 0, i, x, hj, hi => by
    simp at hj
    subst hj
    rw [List.flatMap_cons, Nat.zero_mul, Nat.zero_add, List.getElem?_append_left (by rw [h]; exact hi)]
  | y :: r, j + 1, i, x, hj, hi => by
    rw [List.flatMap_cons, List.getElem?_append_right (by rw [h, Nat.add_mul]; omega), h, show (j + 1) * k + i - k = j * k + i from by rw [Nat.add_mul]; omega]
    exact fm_at h r j i x (by simpa using hj) hi
theorem fm_one {xs : List α} (h : ∀ x ∈ xs, ∀ u ∈ cv x, u.oneCell' = true) : ∀ u ∈ xs.flatMap cv, u.oneCell' = true := fun u hu => by
  obtain ⟨x, hx, h2⟩ := List.mem_flatMap.1 hu
  exact h x hx u h2
end

/-- A slice is read as a row of structs. -/
def Rc {α : Type} (cv : α → List Value) (w : World) (v : Value) (xs : List α) : Prop := ∃ A c, v = .slice A xs.length c ∧ xs.length ≤ c ∧ c ≤ maxLen ∧ (A = none → c = 0) ∧ RV w A (xs.flatMap cv)
section
variable {α : Type} {cv : α → List Value} {w w' : World} {v : Value} {xs : List α}
theorem Rc.up (h : Rc cv w v xs) (k : Up w w') : Rc cv w' v xs := by
  obtain ⟨A, c, e, h1, h2, h3, h4⟩ := h
  exact ⟨A, c, e, h1, h2, h3, h4.up k⟩
theorem Rc.slice (h : Rc cv w v xs) : ∃ A c, v = .slice A xs.length c := by
  obtain ⟨A, c, e, _⟩ := h
  exact ⟨A, c, e⟩
theorem Rc.max (h : Rc cv w v xs) : xs.length ≤ maxLen := by
  obtain ⟨A, c, e, h1, h2, _⟩ := h
  omega
theorem Rc.rv {A : Option Addr} {n c : Nat} (h : Rc cv w (.slice A n c) xs) : xs.length = n ∧ n ≤ c ∧ c ≤ maxLen ∧ (A = none → c = 0) ∧ RV w A (xs.flatMap cv) := by
  obtain ⟨A', c', e, h1, h2, h3, h4⟩ := h
  cases e
  exact ⟨rfl, h1, h2, h3, h4⟩
theorem Rc.nil (cv : α → List Value) (w : World) : Rc cv w (.slice none 0 0) [] := ⟨none, 0, rfl, Nat.le_refl _, Nat.zero_le _, fun _ => rfl, RV.nil _ _⟩
theorem Rc.at_ {k : Nat} {A : Option Addr} {n c j : Nat} {x : α} (h : Rc cv w (.slice A n c) xs) (hk : ∀ x, (cv x).length = k) (k0 : 0 < k) (hj : xs[j]? = some x) :
    ∃ p, A = some p ∧ p.block < w.heap.size ∧ ∀ i u, (cv x)[i]? = some u → w.cell? (p.add (j * k + i)) = some u := by
  obtain ⟨e, -, -, -, hr⟩ := h.rv
  have hl := fm_len hk xs
  have hjl : j < xs.length := by
    rcases Nat.lt_or_ge j xs.length with q | q
    · exact q
    · rw [List.getElem?_eq_none q] at hj; cases hj
  obtain ⟨p, e2, hp, hc⟩ := hr (fun q => by rw [q] at hl; have := Nat.mul_pos (Nat.lt_of_le_of_lt (Nat.zero_le _) hjl) k0; simp at hl; omega)
  refine ⟨p, e2, hp, fun i u hu => hc _ u ?_⟩
  rw [fm_at hk xs j i x hj]
  · exact hu
  · rw [← hk x]
    rcases Nat.lt_or_ge i (cv x).length with q | q
    · exact q
    · rw [List.getElem?_eq_none q] at hu; cases hu
/-- A slice lies in none of the blocks. -/
def Ap (S : List Nat) (v : Value) : Prop := ∀ p n c, v = .slice (some p) n c → n ≠ 0 → p.block ∉ S
theorem Rc.kp {S : List Nat} (h : Rc cv w v xs) (hS : Ap S v) (k : Kp S w w') : Rc cv w' v xs := by
  obtain ⟨A, c, e, h1, h2, h3, h4⟩ := h
  refine ⟨A, c, e, h1, h2, h3, h4.kp k fun p q hne => hS p _ _ (by rw [e, q]) fun q2 => hne ?_⟩
  rw [List.eq_nil_of_length_eq_zero q2]
  rfl
end
theorem Ap.mono {S T : List Nat} {v : Value} (h : Ap T v) (k : ∀ x ∈ S, x ∈ T) : Ap S v := fun p n c e hn q => h p n c e hn (k _ q)
theorem fm_wd : ∀ xs : List Int, xs.flatMap wdc = xs.map (Value.int .u64)
  | [] => rfl
  | x :: r => by rw [List.flatMap_cons, fm_wd r]; rfl
theorem fm_in : ∀ xs : List Int, xs.flatMap inc = xs.map (Value.int .i64)
  | [] => rfl
  | x :: r => by rw [List.flatMap_cons, fm_in r]; rfl
theorem rc_of_sl {w : World} {v : Value} {xs : List Int} (h : K.Sl w v xs) : Rc wdc w v xs := by
  obtain ⟨A, c, e, h1, h2, h3, h4⟩ := h
  refine ⟨A, c, e, h1, h2, h3, fun q => ?_⟩
  have hx : 0 < xs.length := by
    rcases xs with _ | ⟨x, r⟩
    · exact absurd rfl q
    · simp
  obtain ⟨p, e2, hr⟩ := h4.2 hx
  refine ⟨p, e2, hr.1, fun j u hj => ?_⟩
  rw [fm_wd, List.getElem?_map] at hj
  cases hxj : xs[j]? with
  | none => rw [hxj] at hj; cases hj
  | some x => rw [hxj] at hj; cases hj; exact hr.2 j x hxj
theorem sl_of_rc {w : World} {v : Value} {xs : List Int} (h : Rc wdc w v xs) : K.Sl w v xs := by
  obtain ⟨A, c, e, h1, h2, h3, h4⟩ := h
  rw [fm_wd] at h4
  refine ⟨A, c, e, h1, h2, h3, rfl, fun hx => ?_⟩
  obtain ⟨p, e2, hp, hc⟩ := h4 (fun q => by have := congrArg List.length q; rw [List.length_map] at this; simp only [List.length_nil] at this; omega)
  exact ⟨p, e2, hp, fun j x hj => hc j _ (by rw [List.getElem?_map, hj]; rfl)⟩

/-- The rows of a thread's cells. -/
structure ThR (w : World) (u : Tv) (t : Th) : Prop where
  st : Rc wdc w u.st t.st
  ba : u.ba = t.ba
  be : u.be = t.be
  lg : Rc enc w u.lg t.lg
  lf : Rc opc w u.lf t.lf
  pd : Rc enc w u.pd t.pd
  wt : u.wt = t.wt
  dn : Rc anc w u.dn t.dn
theorem ThR.up {w w' : World} {u : Tv} {t : Th} (h : ThR w u t) (k : Up w w') : ThR w' u t := ⟨h.st.up k, h.ba, h.be, h.lg.up k, h.lf.up k, h.pd.up k, h.wt, h.dn.up k⟩
def ThsR (w : World) (us : List Tv) (ts : List Th) : Prop := us.length = ts.length ∧ ∀ (j : Nat) (u : Tv) (t : Th), us[j]? = some u → ts[j]? = some t → ThR w u t
theorem ThsR.up {w w' : World} {us : List Tv} {ts : List Th} (h : ThsR w us ts) (k : Up w w') : ThsR w' us ts := ⟨h.1, fun j u t h1 h2 => (h.2 j u t h1 h2).up k⟩
theorem ThsR.at_ {w : World} {us : List Tv} {ts : List Th} (h : ThsR w us ts) {j : Nat} {t : Th} (ht : ts[j]? = some t) : ∃ u, us[j]? = some u ∧ ThR w u t := by
  have h1 : j < ts.length := by
    rcases Nat.lt_or_ge j ts.length with q | q
    · exact q
    · rw [List.getElem?_eq_none q] at ht; cases ht
  have h2 : j < us.length := by rw [h.1]; exact h1
  exact ⟨_, List.getElem?_eq_getElem h2, h.2 j _ t (List.getElem?_eq_getElem h2) ht⟩
/-- The cells of a heap. -/
def hpc (h : Hp) (P Q : Addr) (c d : Nat) (vt vo : Value) : Array Value :=
  #[.int .i64 h.m.n, .slice (some P) h.m.n c, .slice (some Q) h.m.n d, .int .i64 h.fs, .int .i64 h.fa, .int .i64 h.fl, .int .i64 h.ts, .int .i64 h.ta, .int .i64 h.tl, .int .i64 h.sz, .int .i64 h.lg, vt, .int .i64 h.ph, .int .i64 h.sc, .int .i64 h.fp, vo, .int .i64 h.bk]
/-- A value is a heap. -/
def HpR (w : World) (v : Value) (h : Hp) : Prop := ∃ P Q c d vt vo us, v = .agg (hpc h P Q c d vt vo) ∧ Sits w h.m P Q c d ∧ Rc tvc w vt us ∧ ThsR w us h.th ∧ Rc inc w vo h.od
theorem HpR.up {w w' : World} {v : Value} {h : Hp} (k : HpR w v h) (u : Up w w') : HpR w' v h := by
  obtain ⟨P, Q, c, d, vt, vo, us, e, h1, h2, h3, h4⟩ := k
  exact ⟨P, Q, c, d, vt, vo, us, e, h1.up u, h2.up u, h3.up u, h4.up u⟩
end Go.Proofs.YtddoljfkbkbfjaaGreat.T
