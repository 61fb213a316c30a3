/- A step's own state: what its block and the threads' block hold, and what lies apart from them. -/
import Derived.Test.YtddoljfkbkbfjaaGreatTb
namespace Go.Proofs.YtddoljfkbkbfjaaGreat.T
open G
open Go.Joins Go.ChangeShapes Go.WideShapes Go.ChangeAt Go.RowKit Go.Deep Go.Shelf Go.Maps
set_option linter.unusedVariables false
set_option linter.unusedSimpArgs false

/-- What a step knows: the handles H and K, the field, whether it is a pointer, the answer. -/
structure Ks where
  h : Int
  k : Int
  v : Int
  p : Bool
  e : Int
  w : Int
  y : Bool
abbrev ks0 : Ks := ⟨0, 0, 0, false, 0, 0, false⟩
def stc (h : Hp) (P Q : Addr) (c d : Nat) (vt vo : Value) (j : Nat) (q : Addr) (o : Op) (s : Ks) : Array Value :=
  #[.int .i64 h.m.n, .slice (some P) h.m.n c, .slice (some Q) h.m.n d, .int .i64 h.fs, .int .i64 h.fa, .int .i64 h.fl, .int .i64 h.ts, .int .i64 h.ta, .int .i64 h.tl, .int .i64 h.sz, .int .i64 h.lg, vt, .int .i64 h.ph, .int .i64 h.sc, .int .i64 h.fp, vo, .int .i64 h.bk, .int .i64 j, .pointer (some q), .int .i64 o.kd, .int .i64 o.h, .int .i64 o.i, .int .i64 o.k, .int .u64 o.v, .int .i64 o.t, .int .i64 o.l, .int .u64 o.m, .int .u64 s.h, .int .u64 s.k, .int .u64 s.v, .bool s.p, .int .i64 s.e, .int .u64 s.w, .bool s.y]

/-- No five cells side by side are words. -/
def Odd (cs : Array Value) : Prop := ∀ i, ∃ j, j < 5 ∧ ∀ x, cs[i + j]? ≠ some (.int .u64 x)
theorem row_odd {w : World} {p : Addr} {xs : List Int} {g : Nat} {t : TypeId} {cs : Array Value} (h : Row w p xs) (hx : 6 ≤ xs.length) (hb : Blk w g t cs) (ho : Odd cs) : p.block ≠ g := by
  intro e
  obtain ⟨j, hj, hn⟩ := ho (p.off + 1)
  have hc := h.2 (1 + j) xs[1 + j] (List.getElem?_eq_getElem (by omega))
  have hp : p.add (1 + j) = ⟨p.block, p.off + (1 + j), none⟩ := by unfold Addr.add; rw [if_neg (by omega)]
  rw [hp, e, hb.cell, ← Nat.add_assoc] at hc
  exact hn _ hc
theorem odd_fm {α : Type} {cv : α → List Value} {k j0 : Nat} (hk : ∀ x, (cv x).length = k) (hj : j0 < k) (k5 : k ≤ 5) (h : ∀ x y, (cv x)[j0]? ≠ some (.int .u64 y)) (xs : List α) : Odd (xs.flatMap cv).toArray := fun i => by
  have k0 : 0 < k := by omega
  have hl := fm_len hk xs
  refine ⟨(j0 + (k - i % k)) % k, Nat.lt_of_lt_of_le (Nat.mod_lt _ k0) k5, fun y => ?_⟩
  have hm : i % k < k := Nat.mod_lt _ k0
  have hdm := Nat.div_add_mod i k
  rw [Nat.mul_comm] at hdm
  obtain ⟨q, hq⟩ : ∃ q, i + (j0 + (k - i % k)) % k = q * k + j0 := by
    by_cases c : j0 + (k - i % k) < k
    · refine ⟨i / k + 1, ?_⟩
      rw [Nat.mod_eq_of_lt c, Nat.add_mul]
      omega
    · refine ⟨i / k, ?_⟩
      rw [Nat.mod_eq_sub_mod (by omega), Nat.mod_eq_of_lt (by omega)]
      omega
  rw [hq, List.getElem?_toArray]
  by_cases hlt : q < xs.length
  · rw [fm_at hk xs q j0 _ (List.getElem?_eq_getElem hlt) hj]
    exact h _ y
  · have := Nat.mul_le_mul_right k (Nat.le_of_not_lt hlt)
    rw [List.getElem?_eq_none (by omega)]
    exact fun q => by cases q
theorem odd_no {cs : List Value} (h : ∀ v ∈ cs, ∀ y, v ≠ .int .u64 y) : Odd cs.toArray := fun i => ⟨0, by omega, fun y q => by
  rw [List.getElem?_toArray] at q
  exact h _ (List.mem_of_getElem? q) y rfl⟩
theorem odd_stc (h : Hp) (P Q : Addr) (c d : Nat) (A B : Option Addr) (n m e f : Nat) (j : Nat) (q : Addr) (o : Op) (s : Ks) : Odd (stc h P Q c d (.slice A n e) (.slice B m f) j q o s) := by
  have key : ∀ i : Nat, i < 34 → ∃ j0, j0 < 5 ∧ ∀ x, (stc h P Q c d (.slice A n e) (.slice B m f) j q o s)[i + j0]? ≠ some (.int .u64 x) := by
    intro i hi
    by_cases c1 : i < 23
    · refine ⟨0, by omega, fun x => ?_⟩
      unfold stc
      have : i = 0 ∨ i = 1 ∨ i = 2 ∨ i = 3 ∨ i = 4 ∨ i = 5 ∨ i = 6 ∨ i = 7 ∨ i = 8 ∨ i = 9 ∨ i = 10 ∨ i = 11 ∨ i = 12 ∨ i = 13 ∨ i = 14 ∨ i = 15 ∨ i = 16 ∨ i = 17 ∨ i = 18 ∨ i = 19 ∨ i = 20 ∨ i = 21 ∨ i = 22 := by omega
      rcases this with rfl | rfl | rfl | rfl | rfl | rfl | rfl | rfl | rfl | rfl | rfl | rfl | rfl | rfl | rfl | rfl | rfl | rfl | rfl | rfl | rfl | rfl | rfl <;> simp
    · have : i = 23 ∨ i = 24 ∨ i = 25 ∨ i = 26 ∨ i = 27 ∨ i = 28 ∨ i = 29 ∨ i = 30 ∨ i = 31 ∨ i = 32 ∨ i = 33 := by omega
      rcases this with rfl | rfl | rfl | rfl | rfl | rfl | rfl | rfl | rfl | rfl | rfl
      · exact ⟨1, by omega, fun x => by simp [stc]⟩
      · exact ⟨0, by omega, fun x => by simp [stc]⟩
      · exact ⟨0, by omega, fun x => by simp [stc]⟩
      · exact ⟨4, by omega, fun x => by simp [stc]⟩
      · exact ⟨3, by omega, fun x => by simp [stc]⟩
      · exact ⟨2, by omega, fun x => by simp [stc]⟩
      · exact ⟨1, by omega, fun x => by simp [stc]⟩
      · exact ⟨0, by omega, fun x => by simp [stc]⟩
      · exact ⟨0, by omega, fun x => by simp [stc]⟩
      · exact ⟨1, by omega, fun x => by simp [stc]⟩
      · exact ⟨0, by omega, fun x => by simp [stc]⟩
  intro i
  by_cases hi : i < 34
  · exact key i hi
  · refine ⟨0, by omega, fun x => ?_⟩
    rw [Array.getElem?_eq_none (by simp [stc]; omega)]
    exact fun q => by cases q

/-- A row once more, in one of the blocks. -/
def Cs {α : Type} (base : Nat) (S : List Nat) (e : TypeId) (cv : α → List Value) (z : α) (w : World) (v : Value) (xs : List α) : Prop :=
  (xs = [] ∧ ∃ A, v = .slice A 0 0) ∨ (xs ≠ [] ∧ ∃ g cap, v = .slice (some ⟨g, 0, none⟩) xs.length cap ∧ base ≤ g ∧ g ∈ S ∧ xs.length ≤ cap ∧ cap ≤ maxLen ∧ Blk w g e ((xs ++ List.replicate (cap - xs.length) z).flatMap cv).toArray)
section
variable {α : Type} {base : Nat} {S : List Nat} {e : TypeId} {cv : α → List Value} {z : α} {w w' : World} {v : Value} {xs : List α}
theorem Cs.cl (h : Cs base S e cv z w v xs) : Cl base w.heap.size e cv z w v xs := h.imp id fun ⟨h0, g, cap, e1, h1, h2, h3, h4, h5⟩ => ⟨h0, g, cap, e1, h1, h5.lt, h3, h4, h5⟩
theorem Cs.rc (h : Cs base S e cv z w v xs) : Rc cv w v xs := h.cl.rc
theorem Cs.slice (h : Cs base S e cv z w v xs) : ∃ A c, v = .slice A xs.length c := h.cl.slice
theorem Cs.keep (h : Cs base S e cv z w v xs) (k : ∀ g cs, Blk w g e cs → g ∈ S → Blk w' g e cs) : Cs base S e cv z w' v xs := h.imp id fun ⟨h0, g, cap, e1, h1, h2, h3, h4, h5⟩ => ⟨h0, g, cap, e1, h1, h2, h3, h4, k g _ h5 h2⟩
end

/-- The rows of another thread, apart from the blocks. -/
structure ThS (X : List Nat) (w : World) (u : Tv) (t : Th) : Prop where
  r : ThR w u t
  st : Ap X u.st
  lg : Ap X u.lg
  lf : Ap X u.lf
  pd : Ap X u.pd
  dn : Ap X u.dn
theorem ThS.kp {X S : List Nat} {w w' : World} {u : Tv} {t : Th} (h : ThS X w u t) (k : Kp S w w') (hS : ∀ g ∈ S, g ∈ X) : ThS X w' u t :=
  ⟨⟨h.r.st.kp (h.st.mono hS) k, h.r.ba, h.r.be, h.r.lg.kp (h.lg.mono hS) k, h.r.lf.kp (h.lf.mono hS) k, h.r.pd.kp (h.pd.mono hS) k, h.r.wt, h.r.dn.kp (h.dn.mono hS) k⟩, h.st, h.lg, h.lf, h.pd, h.dn⟩
/-- The thread's own rows. -/
structure OwT (base : Nat) (X S3 : List Nat) (w : World) (u : Tv) (t : Th) : Prop where
  st : Rc wdc w u.st t.st
  sta : Ap X u.st
  ba : u.ba = t.ba
  be : u.be = t.be
  lg : Cs base S3 66 enc ez w u.lg t.lg
  lf : Rc opc w u.lf t.lf
  lfa : Ap X u.lf
  pd : Rc enc w u.pd t.pd
  pda : Ap X u.pd
  wt : u.wt = t.wt
  dn : Cs base S3 56 anc az w u.dn t.dn
/-- What lies apart from the step's block and the threads'. -/
structure Rs (base D T : Nat) (S3 : List Nat) (h : Hp) (j : Nat) (us : List Tv) (P Q : Addr) (c d : Nat) (vo : Value) (w : World) : Prop where
  sits : Sits w h.m P Q c d
  pa : P.block ∉ D :: T :: S3
  qa : Q.block ∉ D :: T :: S3
  len : us.length = h.th.length
  lt : j < us.length
  oth : ∀ i u t, i ≠ j → us[i]? = some u → h.th[i]? = some t → ThS (D :: T :: S3) w u t
  own : ∀ u t, us[j]? = some u → h.th[j]? = some t → OwT base (D :: T :: S3) S3 w u t
  ord : Cs base S3 3 inc 0 w vo h.od
  s3 : ∀ g ∈ S3, base ≤ g ∧ ∃ t cs, Blk w g t cs ∧ Odd cs
  nD : D ∉ S3
  nT : T ∉ S3
theorem OwT.kp {base : Nat} {S S3 : List Nat} {w w' : World} {u : Tv} {t : Th} {X : List Nat} (h : OwT base X S3 w u t) (k : Kp S w w') (hS : ∀ g ∈ S, g ∈ X) (hn : ∀ g ∈ S, g ∉ S3) : OwT base X S3 w' u t :=
  ⟨h.st.kp (h.sta.mono hS) k, h.sta, h.ba, h.be, h.lg.keep fun g cs hb hg => hb.kp k fun q => hn g q hg, h.lf.kp (h.lfa.mono hS) k, h.lfa, h.pd.kp (h.pda.mono hS) k, h.pda, h.wt, h.dn.keep fun g cs hb hg => hb.kp k fun q => hn g q hg⟩
theorem Sits.kpA {S : List Nat} {w w' : World} {m : Me} {p q : Addr} {c d : Nat} (h : Sits w m p q c d) (k : Kp S w w') (hp : p.block ∉ S) (hq : q.block ∉ S) : Sits w' m p q c d :=
  ⟨h.1, h.2.1, h.2.2.1, h.2.2.2.1, h.2.2.2.2.1, h.2.2.2.2.2.1.kp k hp, h.2.2.2.2.2.2.kp k hq⟩
section
variable {base D T : Nat} {S3 : List Nat} {h h' : Hp} {j : Nat} {us : List Tv} {P Q : Addr} {c d : Nat} {vo : Value} {w w' : World}
theorem Rs.kp (r : Rs base D T S3 h j us P Q c d vo w) (k : Kp [D, T] w w') : Rs base D T S3 h j us P Q c d vo w' :=
  have hS : ∀ g ∈ [D, T], g ∈ D :: T :: S3 := fun g hg => by
    simp only [List.mem_cons, List.not_mem_nil, or_false] at hg ⊢
    rcases hg with hg | hg
    · exact .inl hg
    · exact .inr (.inl hg)
  have hn : ∀ g ∈ [D, T], g ∉ S3 := fun g hg => by
    simp only [List.mem_cons, List.not_mem_nil, or_false] at hg
    rcases hg with rfl | rfl
    · exact r.nD
    · exact r.nT
  ⟨Sits.kpA r.sits k (fun q => r.pa (hS _ q)) (fun q => r.qa (hS _ q)), r.pa, r.qa, r.len, r.lt, fun i u t h1 h2 h3 => (r.oth i u t h1 h2 h3).kp k hS, fun u t h1 h2 => (r.own u t h1 h2).kp k hS hn, r.ord.keep fun g cs hb hg => hb.kp k fun q => hn g q hg, fun g hg => by
    obtain ⟨h1, t, cs, h2, h3⟩ := r.s3 g hg
    exact ⟨h1, t, cs, h2.kp k fun q => hn g q hg, h3⟩, r.nD, r.nT⟩
theorem Rs.up (r : Rs base D T S3 h j us P Q c d vo w) (k : Up w w') : Rs base D T S3 h j us P Q c d vo w' := r.kp (.of_up k)
/-- The heap may be another one, whose rows are the same. -/
theorem Rs.same (r : Rs base D T S3 h j us P Q c d vo w) (h1 : h'.m = h.m) (h2 : h'.th = h.th) (h3 : h'.od = h.od) : Rs base D T S3 h' j us P Q c d vo w :=
  ⟨by rw [h1]; exact r.sits, r.pa, r.qa, by rw [h2]; exact r.len, r.lt, by rw [h2]; exact r.oth, by rw [h2]; exact r.own, by rw [h3]; exact r.ord, r.s3, r.nD, r.nT⟩
/-- The thread is another one. -/
theorem Rs.set_ {u u' : Tv} {t t' : Th} (r : Rs base D T S3 h j us P Q c d vo w) (hu : us[j]? = some u) (ht : h.th[j]? = some t) (ho : OwT base (D :: T :: S3) S3 w u' t') : Rs base D T S3 { h with th := h.th.set j t' } j (us.set j u') P Q c d vo w :=
  ⟨r.sits, r.pa, r.qa, by simp [r.len], by simp [r.lt], fun i a b hi ha hb => r.oth i a b hi (by rwa [List.getElem?_set_ne (fun q => hi q.symm)] at ha) (by simp only at hb; rwa [List.getElem?_set_ne (fun q => hi q.symm)] at hb), fun a b ha hb => by
    rw [List.getElem?_set_self r.lt] at ha
    simp only at hb
    rw [List.getElem?_set_self (by rw [← r.len]; exact r.lt)] at hb
    cases ha
    cases hb
    exact ho, r.ord, r.s3, r.nD, r.nT⟩
/-- Memory is another one. -/
theorem Rs.mem {m : Me} {P' Q' : Addr} {c' d' : Nat} (r : Rs base D T S3 h j us P Q c d vo w) (hm : Sits w m P' Q' c' d') (hp : P'.block ∉ D :: T :: S3) (hq : Q'.block ∉ D :: T :: S3) : Rs base D T S3 { h with m := m } j us P' Q' c' d' vo w :=
  ⟨hm, hp, hq, r.len, r.lt, r.oth, r.own, r.ord, r.s3, r.nD, r.nT⟩
end
/-- A step on its way. -/
def St (base D T : Nat) (S3 : List Nat) (h : Hp) (j : Nat) (o : Op) (s : Ks) (w : World) : Prop := ∃ us P Q c d A co cT,
  Blk w D 78 (stc h P Q c d (.slice (some ⟨T, 0, none⟩) us.length cT) (.slice A h.od.length co) j ⟨T, j * 8, none⟩ o s) ∧
  Blk w T 44 ((us ++ List.replicate (cT - us.length) tz).flatMap tvc).toArray ∧ us.length ≤ cT ∧ cT ≤ maxLen ∧ base ≤ D ∧ base ≤ T ∧ Rs base D T S3 h j us P Q c d (.slice A h.od.length co) w
theorem St.up {base D T : Nat} {S3 : List Nat} {h : Hp} {j : Nat} {o : Op} {s : Ks} {w w' : World} (k : St base D T S3 h j o s w) (u : Up w w') : St base D T S3 h j o s w' := by
  obtain ⟨us, P, Q, c, d, A, co, cT, h1, h2, h3, h4, h5, h6, h7⟩ := k
  exact ⟨us, P, Q, c, d, A, co, cT, h1.up u, h2.up u, h3, h4, h5, h6, h7.up u⟩
theorem fm_set {α : Type} {cv : α → List Value} {k : Nat} (h : ∀ x, (cv x).length = k) : ∀ (xs : List α) (j i : Nat) (x y : α) (v : Value), xs[j]? = some x → i < k → cv y = (cv x).set i v → (xs.flatMap cv).set (j * k + i) v = (xs.set j y).flatMap cv
  | [], j, i, x, y, v, hj, _, _ => by simp at hj
  | a :: r, 0, i, x, y, v, hj, hi, he => by
    simp at hj
    subst hj
    rw [List.flatMap_cons, Nat.zero_mul, Nat.zero_add, List.set_append_left _ _ (by rw [h]; exact hi), List.set_cons_zero, List.flatMap_cons, he]
  | a :: r, j + 1, i, x, y, v, hj, hi, he => by
    rw [List.flatMap_cons, List.set_append_right _ _ (by rw [h, Nat.add_mul]; omega), h, show (j + 1) * k + i - k = j * k + i from by rw [Nat.add_mul]; omega, fm_set h r j i x y v (by simpa using hj) hi he, List.set_cons_succ, List.flatMap_cons]
section
variable {w : World} {T j : Nat} {us zs : List Tv} {u : Tv}
theorem us_app (hu : us[j]? = some u) : (us ++ zs)[j]? = some u := by
  have h1 : j < us.length := by
    rcases Nat.lt_or_ge j us.length with q | q
    · exact q
    · rw [List.getElem?_eq_none q] at hu; cases hu
  rw [List.getElem?_append_left h1]
  exact hu
/-- A thread's cells in the threads' block. -/
theorem tcell (hT : Blk w T 44 ((us ++ zs).flatMap tvc).toArray) (hu : us[j]? = some u) (i : Nat) (hi : i < 8) : w.cell? ⟨T, j * 8 + i, none⟩ = (tvc u)[i]? := by
  rw [hT.cell, List.getElem?_toArray, fm_at (k := 8) (fun _ => rfl) _ _ _ _ (us_app hu) hi]
theorem tset {u' : Tv} {v : Value} (hT : Blk w T 44 ((us ++ zs).flatMap tvc).toArray) (hu : us[j]? = some u) (i : Nat) (hi : i < 8) (he : tvc u' = (tvc u).set i v) : Blk (w.setCell ⟨T, j * 8 + i, none⟩ v) T 44 ((us.set j u' ++ zs).flatMap tvc).toArray := by
  have h1 : j < us.length := by
    rcases Nat.lt_or_ge j us.length with q | q
    · exact q
    · rw [List.getElem?_eq_none q] at hu; cases hu
  have hb := hT.set_ (j * 8 + i) v
  have e : ((us ++ zs).flatMap tvc).toArray.setIfInBounds (j * 8 + i) v = ((us.set j u' ++ zs).flatMap tvc).toArray := by
    rw [List.setIfInBounds_toArray, fm_set (k := 8) (fun _ => rfl) _ _ _ _ _ _ (us_app hu) hi he, List.set_append_left _ _ h1]
  rw [e] at hb
  exact hb
end
end Go.Proofs.YtddoljfkbkbfjaaGreat.T
