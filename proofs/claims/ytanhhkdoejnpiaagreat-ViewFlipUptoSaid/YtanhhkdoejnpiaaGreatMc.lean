import Derived.Test.YtanhhkdoejnpiaaGreatMb
import Derived.Test.YtanhhkdoejnpiaaGreatOa
import Derived.Deep.Upon
/-! The document's All, Finish, Turn, Whole, Copy. -/
/- The document's One at the end, and All (dovecoteref12.All): contracts. -/
namespace Go.Proofs.YtanhhkdoejnpiaaGreat.G
open Go.Joins Go.ChangeShapes Go.WideShapes Go.ChangeAt Go.RowKit Go.Deep Go.Shelf Go.Maps
set_option linter.unusedVariables false
set_option linter.unusedSimpArgs false

set_option maxRecDepth 100000 in
set_option maxHeartbeats 4000000 in
theorem rone12_end (W : Nat) (s : Int) (m : Me) (a x y : Int) (P Q : Addr) (c d : Nat) (w : World) (hm : Sits w m P Q c d) (ha : 0 ≤ a) :
    Calls Tryz.prog 149 #[YtanhhkdoejnpiaaGreat.rov W (sl P W c) (sl Q W d) (1 - s) a W x y, .int .i64 a] w (fun e w' => e = .returned (.tuple #[YtanhhkdoejnpiaaGreat.rov W (sl P W c) (sl Q W d) (1 - s) a W x y, .int .i64 a, .int .i64 9]) ∧ Sits w' m P Q c d ∧ Up w w') := by
  have hd1 : decide (a < 0) = false := decide_eq_false (by omega)
  have hd2 : decide (a > a) = false := decide_eq_false (by omega)
  have HM := Lib.hid (fun V (k : Up w V) => hm.up k)
  have hst := Lib.hid (Up.refl w)
  clear hm
  go_enter Tryz.func149, Tryz.ntmps149
  go_wp2
  refine bodyPost_ret (ret_room3 rfl _ _ _ W (1 - s) a W x y (sl P W c) (sl Q W d) _ _ rfl (Blk.new' _ (by simp) _ _) rfl rfl) rfl ?_
  exact ⟨rfl, HM.out _ (((Up.refl w).alloc _).alloc _), ((Up.refl w).alloc _).alloc _⟩

def AlR (g : Gr) (W : Nat) (s : Int) (o0 : List Int) (x y : Int) (w : World) (i : Value) (wr : World) : Prop :=
  ∃ (k : Nat) (m : Me) (a : Int) (o : List Int) (P Q : Addr) (c d : Nat), k ≤ o.length ∧ i = .int .i64 (ofs (nsO g o) k : Nat) ∧ Fi g W s m a o k 0 ∧ o0 <+: o ∧
    Blk wr w.heap.size 58 (rc8 W P c Q d (1 - s) a W x y) ∧ Blk wr (w.heap.size + 1) 58 rz8 ∧ Sits wr m P Q c d ∧ Up w wr
def AlPst (g : Gr) (W : Nat) (s : Int) (o0 : List Int) (x y : Int) (w : World) (e : Ending) (w' : World) : Prop :=
  ∃ (m : Me) (a : Int) (o : List Int) (P Q : Addr) (c d : Nat), e = .returned (.tuple #[YtanhhkdoejnpiaaGreat.rov W (sl P W c) (sl Q W d) (1 - s) a W x y, .int .i64 a, .int .i64 0]) ∧ Fi g W s m a o o.length 0 ∧ o0 <+: o ∧ Sits w' m P Q c d ∧ Up w w'
set_option maxRecDepth 100000 in
set_option maxHeartbeats 8000000 in
theorem rall12_any {g : Gr} {W : Nat} {s : Int} (X : Cx g W s) (m0 : Me) (a0 : Int) (o0 : List Int) (k : Nat) (F : Fi g W s m0 a0 o0 k 0) (hk : k ≤ o0.length) (x y : Int) (P Q : Addr) (c d : Nat) (w : World) (hm : Sits w m0 P Q c d) :
    Calls Tryz.prog 135 #[YtanhhkdoejnpiaaGreat.rov W (sl P W c) (sl Q W d) (1 - s) a0 W x y, .int .i64 (ofs (nsO g o0) k : Nat)] w (AlPst g W s o0 x y w) := by
  have HST : Hid (AlR g W s o0 x y w (.int .i64 (ofs (nsO g o0) k : Nat)) ((w.alloc (.cells (rc8 W P c Q d (1 - s) a0 W x y) 58)).alloc (.cells rz8 58))) := Lib.hid (by
    have k2 : Up w ((w.alloc (.cells (rc8 W P c Q d (1 - s) a0 W x y) 58)).alloc (.cells rz8 58)) := ((Up.refl w).alloc _).alloc _
    exact ⟨k, m0, a0, o0, P, Q, c, d, hk, rfl, F, List.prefix_refl _, (Blk.new w _ _).alloc _, Blk.new' _ (by simp) _ _, hm.up k2, k2⟩)
  have HX := Lib.hid X
  clear F hm hk
  generalize ((ofs (nsO g o0) k : Nat) : Int) = at0 at *
  go_enter Tryz.func135, Tryz.ntmps135
  go_wp2_with (fail)
  go_loopw [1] (fun i wr => AlR g W s o0 x y w i wr) (fun i _ => 8192 - (intOf i).toNat)
  case atStart => exact HST.out
  case round =>
    rename World => wr
    obtain ⟨k, m, a, o, P, Q, c, d, hk, rfl, FF, hpre, bX, bZ, hs, U⟩ := hrel
    by_cases hlt : k < o.length
    · have HON := Lib.hid (fun V (u : Up wr V) => rone12_any X m a o k FF hlt x y P Q c d V (hs.up u))
      have HBX := Lib.hid bX
      have HBZ := Lib.hid bZ
      have HU := Lib.hid U
      have HPR := Lib.hid hpre
      have hms : ofs (nsO g o) k + 2 ≤ ofs (nsO g o) (k + 1) := by
        have := ofs_step (ns := nsO g o) (k := k) (by rw [nsO_len]; exact hlt)
        omega
      have hb : ofs (nsO g o) k ≤ 4096 := by
        have h1 := ofs_tot (ns := nsO g o) (k := k) (by rw [nsO_len]; omega)
        have h2 := FF.fit X
        have h3 := X.hW
        omega
      have HOF := Lib.hid (fun o' (h : o <+: o') => (pre_ofs (g := g) h (k := k + 1) hlt))
      have HLT := Lib.hid hlt
      have HMS := Lib.hid hms
      generalize ofs (nsO g o) k = pk at *
      have qX := bX.cell
      have lX := bX.lt
      clear hk FF hpre bX bZ hs U hms hlt X
      go_wp2_with (fail)
      refine (HON.out _ (Up.refl wr)).mono ?_
      rintro e w5 ⟨m5, a5, o5, P5, Q5, c5, d5, rfl, F5, h5, s5, k5⟩
      have hof := Lib.hid (HOF.out o5 h5)
      have hk5 : k + 1 ≤ o5.length := Nat.le_trans HLT.out h5.length_le
      have hb5 : ofs (nsO g o5) (k + 1) ≤ 4096 := by
        have h1 := ofs_tot (ns := nsO g o5) (k := k + 1) (by rw [nsO_len]; omega)
        have h2 := F5.fit HX.out
        have h3 := HX.out.hW
        omega
      clear qX lX
      go_upto_region 2 with fail
      obtain ⟨w6, hw6⟩ : ∃ w6, w6 = w5.alloc (.cells #[.int .i64 W, .slice (some P5) W c5, .slice (some Q5) W d5, .int .i64 (1 - s), .int .i64 a5, .int .i64 W, .int .i64 x, .int .i64 y] 58) := ⟨_, rfl⟩
      have bY := Blk.new w5 58 #[.int .i64 W, .slice (some P5) W c5, .slice (some Q5) W d5, .int .i64 (1 - s), .int .i64 a5, .int .i64 W, .int .i64 x, .int .i64 y]
      rw [← hw6] at bY ⊢
      have k6 : Up wr w6 := by rw [hw6]; exact k5.alloc _
      have s6 : Sits w6 m5 P5 Q5 c5 d5 := by rw [hw6]; exact s5.up ((Up.refl w5).alloc _)
      have bX6 := HBX.out.up k6
      have bZ6 := HBZ.out.up k6
      have HFN : Hid (∀ q : Nat, ofs (nsO g o5) (k + 1) = q → AlR g W s o0 x y w (.int .i64 (q : Int)) ((((((((w6.setCell ⟨w.heap.size, 0, none⟩ (.int .i64 W)).setCell ⟨w.heap.size, 1, none⟩ (.slice (some P5) W c5)).setCell ⟨w.heap.size, 2, none⟩ (.slice (some Q5) W d5)).setCell ⟨w.heap.size, 3, none⟩ (.int .i64 (1 - s))).setCell ⟨w.heap.size, 4, none⟩ (.int .i64 a5)).setCell ⟨w.heap.size, 5, none⟩ (.int .i64 W)).setCell ⟨w.heap.size, 6, none⟩ (.int .i64 x)).setCell ⟨w.heap.size, 7, none⟩ (.int .i64 y))) := Lib.hid (fun q hq => ⟨k + 1, m5, a5, o5, P5, Q5, c5, d5, hk5, by rw [hq], F5, HPR.out.trans h5, bX6.set8 (.int .i64 W) (.slice (some P5) W c5) (.slice (some Q5) W d5) (.int .i64 (1 - s)) (.int .i64 a5) (.int .i64 W) (.int .i64 x) (.int .i64 y), blk_far8 bZ6 (by omega : w.heap.size + 1 ≠ w.heap.size) (.int .i64 W) (.slice (some P5) W c5) (.slice (some Q5) W d5) (.int .i64 (1 - s)) (.int .i64 a5) (.int .i64 W) (.int .i64 x) (.int .i64 y), s6.far8 bX6 (.int .i64 W) (.slice (some P5) W c5) (.slice (some Q5) W d5) (.int .i64 (1 - s)) (.int .i64 a5) (.int .i64 W) (.int .i64 x) (.int .i64 y), (HU.out.trans k6).set8 (Nat.le_refl _) (.int .i64 W) (.slice (some P5) W c5) (.slice (some Q5) W d5) (.int .i64 (1 - s)) (.int .i64 a5) (.int .i64 W) (.int .i64 x) (.int .i64 y)⟩)
      have HMS5 : Hid (pk + 2 ≤ ofs (nsO g o5) (k + 1)) := Lib.hid (by rw [hof.out]; exact HMS.out)
      generalize hq : ofs (nsO g o5) (k + 1) = q at *
      have qX := bX6.cell
      have fX := bX6.frozen
      have lX := bX6.lt
      have qY := bY.cell
      have lY := bY.lt
      generalize w5.heap.size = BY at *
      clear hw6 k6 s6 bX6 bZ6 bY s5 k5 F5 h5 hk5 hof
      go_wp2_with (fail)
      exact ⟨HFN.out q rfl, by have := HMS5.out; simp only [intOf]; omega⟩
    · obtain rfl : k = o.length := by omega
      have hae : (ofs (nsO g o) o.length : Nat) = a := by rw [FF.at_, ← nsO_len g o, ofs_all]
      rw [hae] at *
      have HON := Lib.hid (fun V (u : Up wr V) => rone12_end W s m a x y P Q c d V (hs.up u) (by rw [FF.at_]; omega))
      have HBX := Lib.hid bX
      have HBZ := Lib.hid bZ
      have HU := Lib.hid U
      have HFF := Lib.hid (And.intro FF hpre)
      have qX := bX.cell
      have lX := bX.lt
      clear hk FF hpre bX bZ hs U hlt X
      go_wp2_with (fail)
      refine (HON.out _ (Up.refl wr)).mono ?_
      rintro e w5 ⟨rfl, s5, k5⟩
      clear qX lX
      go_upto_region 2 with fail
      obtain ⟨w6, hw6⟩ : ∃ w6, w6 = w5.alloc (.cells #[.int .i64 W, .slice (some P) W c, .slice (some Q) W d, .int .i64 (1 - s), .int .i64 a, .int .i64 W, .int .i64 x, .int .i64 y] 58) := ⟨_, rfl⟩
      have bY := Blk.new w5 58 #[.int .i64 W, .slice (some P) W c, .slice (some Q) W d, .int .i64 (1 - s), .int .i64 a, .int .i64 W, .int .i64 x, .int .i64 y]
      rw [← hw6] at bY ⊢
      have k6 : Up wr w6 := by rw [hw6]; exact k5.alloc _
      have s6 : Sits w6 m P Q c d := by rw [hw6]; exact s5.up ((Up.refl w5).alloc _)
      have bX6 := HBX.out.up k6
      have bZ6 := HBZ.out.up k6
      have qX := bX6.cell
      have fX := bX6.frozen
      have lX := bX6.lt
      have qY := bY.cell
      have lY := bY.lt
      generalize w5.heap.size = BY at *
      have bX7 := bX6.set8 (.int .i64 W) (.slice (some P) W c) (.slice (some Q) W d) (.int .i64 (1 - s)) (.int .i64 a) (.int .i64 W) (.int .i64 x) (.int .i64 y)
      have bZ7 := blk_far8 bZ6 (by omega : w.heap.size + 1 ≠ w.heap.size) (.int .i64 W) (.slice (some P) W c) (.slice (some Q) W d) (.int .i64 (1 - s)) (.int .i64 a) (.int .i64 W) (.int .i64 x) (.int .i64 y)
      have s7 := s6.far8 bX6 (.int .i64 W) (.slice (some P) W c) (.slice (some Q) W d) (.int .i64 (1 - s)) (.int .i64 a) (.int .i64 W) (.int .i64 x) (.int .i64 y)
      have U7 := (HU.out.trans k6).set8 (Nat.le_refl _) (.int .i64 W) (.slice (some P) W c) (.slice (some Q) W d) (.int .i64 (1 - s)) (.int .i64 a) (.int .i64 W) (.int .i64 x) (.int .i64 y)
      clear hw6 k6 s6 bX6 bZ6 bY s5 k5
      go_upto_region 4 with fail
      generalize hW7 : ((((((((w6.setCell ⟨w.heap.size, 0, none⟩ (.int .i64 W)).setCell ⟨w.heap.size, 1, none⟩ (.slice (some P) W c)).setCell ⟨w.heap.size, 2, none⟩ (.slice (some Q) W d)).setCell ⟨w.heap.size, 3, none⟩ (.int .i64 (1 - s))).setCell ⟨w.heap.size, 4, none⟩ (.int .i64 a)).setCell ⟨w.heap.size, 5, none⟩ (.int .i64 W)).setCell ⟨w.heap.size, 6, none⟩ (.int .i64 x)).setCell ⟨w.heap.size, 7, none⟩ (.int .i64 y)) = W7 at *
      clear qX fX lX qY lY
      have qX := bX7.cell
      have lX := bX7.lt
      have qZ := bZ7.cell
      have fZ := bZ7.frozen
      have lZ := bZ7.lt
      have HS8 := Lib.hid (s7.far8 bZ7 (.int .i64 W) (.slice (some P) W c) (.slice (some Q) W d) (.int .i64 (1 - s)) (.int .i64 a) (.int .i64 W) (.int .i64 x) (.int .i64 y))
      have HZ8 := Lib.hid (bZ7.set8 (.int .i64 W) (.slice (some P) W c) (.slice (some Q) W d) (.int .i64 (1 - s)) (.int .i64 a) (.int .i64 W) (.int .i64 x) (.int .i64 y))
      have HU8 := Lib.hid (U7.set8 (by omega : w.heap.size ≤ w.heap.size + 1) (.int .i64 W) (.slice (some P) W c) (.slice (some Q) W d) (.int .i64 (1 - s)) (.int .i64 a) (.int .i64 W) (.int .i64 x) (.int .i64 y))
      clear s7 bX7 bZ7 U7
      go_wp2
      refine bodyPost_ret (ret_room3 rfl _ _ _ W (1 - s) a W x y (sl P W c) (sl Q W d) _ _ rfl HZ8.out rfl rfl) rfl ?_
      exact ⟨m, a, o, P, Q, c, d, rfl, HFF.out.1, HFF.out.2, HS8.out, HU8.out⟩
end Go.Proofs.YtanhhkdoejnpiaaGreat.G
/- Copy's parts: rows of addresses turned, plainly; no logs. -/
namespace Go.Proofs.YtanhhkdoejnpiaaGreat.G
open Go.Joins Go.ChangeShapes Go.WideShapes Go.ChangeAt Go.RowKit Go.Deep Go.Shelf Go.Maps
set_option linter.unusedVariables false
set_option linter.unusedSimpArgs false

theorem k_of_sl {w : World} {v : Value} {xs : List Int} (h : Sl .u64 w v xs) : K.Sl w v xs := by
  obtain ⟨A, c, rfl⟩ := h.slice
  have hr := rd_sl h
  obtain ⟨A', c', e, h1, h2, h3, -⟩ := h
  cases e
  exact ⟨A, c, rfl, h1, h2, h3, hr⟩
theorem k_of_rw {w : World} {v : Value} {L : List (List Int)} (h : Rw .u64 w v L) : K.Rw w v L := by
  obtain ⟨A, c, rfl, -⟩ := h.slice
  have hat := fun j (hj : j < L.length) => h.at_ hj
  obtain ⟨us, A', c', e, h1, h2, h3, h4, h5⟩ := h
  cases e
  refine ⟨A, c, rfl, h1, h2, h3, fun q => ?_⟩
  obtain ⟨p, u, e1, hc, _⟩ := hat 0 q
  have hl := lt_of_cell hc
  rw [block_of_add] at hl
  refine ⟨p, e1, hl, fun j xs hj => ?_⟩
  have hjl : j < L.length := (List.getElem?_eq_some_iff.1 hj).1
  obtain ⟨p', u', e2, hc2, hs2⟩ := hat j hjl
  rw [e1] at e2
  cases e2
  refine ⟨u', hc2, ?_⟩
  have hx : L.getD j [] = xs := by simp [List.getD, hj]
  rw [hx] at hs2
  exact k_of_sl hs2
theorem unq_nd (l : List Int) : (K.unq l).Nodup ∧ (0 : Int) ∉ K.unq l := by
  obtain ⟨r, rfl⟩ : ∃ r : List Int, l = r.reverse := ⟨l.reverse, by simp⟩
  induction r with
  | nil => exact ⟨List.nodup_nil, by simp [K.unq]⟩
  | cons a r ih =>
    rw [List.reverse_cons, K.unq_snoc]
    by_cases h : a ∈ 0 :: K.unq r.reverse
    · rw [if_pos h]; exact ih
    · rw [if_neg h]
      simp only [List.mem_cons, not_or] at h
      refine ⟨List.nodup_append.2 ⟨ih.1, by simp, fun x hx y hy => ?_⟩, ?_⟩
      · rw [List.mem_singleton] at hy
        subst hy
        intro e
        subst e
        exact h.2 hx
      · simp only [List.mem_append, List.mem_singleton, not_or]
        exact ⟨ih.2, fun e => h.1 e.symm⟩
theorem unq_all (l : List Int) : ∀ a ∈ l, a = 0 ∨ a ∈ K.unq l := by
  obtain ⟨r, rfl⟩ : ∃ r : List Int, l = r.reverse := ⟨l.reverse, by simp⟩
  induction r with
  | nil => simp
  | cons a r ih =>
    rw [List.reverse_cons, K.unq_snoc]
    intro b hb
    rw [List.mem_append, List.mem_singleton] at hb
    by_cases h : a ∈ 0 :: K.unq r.reverse
    · rw [if_pos h]
      rcases hb with hb | rfl
      · exact ih b hb
      · simpa using h
    · rw [if_neg h]
      rcases hb with hb | rfl
      · rcases ih b hb with q | q
        · exact .inl q
        · exact .inr (List.mem_append_left _ q)
      · exact .inr (by simp)
theorem ones {α : Type} : ∀ l : List α, (l.map fun _ => 1).sum = l.length
  | [] => rfl
  | a :: l => by rw [List.map_cons, List.sum_cons, ones l, List.length_cons]; omega
theorem nodup_le : ∀ (n : Nat) (o : List Int), o.Nodup → (∀ h ∈ o, 1 ≤ h ∧ h ≤ n) → o.length ≤ n := fun n o h1 h2 => by
  have h := sum_le (fun _ => 1) n o h1 h2
  rw [ones, ones, List.length_range] at h
  exact h
theorem map_nodup {A : Int → Int} : ∀ {vs : List Int}, (vs.map A).Nodup → vs.Nodup
  | [], _ => List.nodup_nil
  | v :: vs, h => by
    rw [List.map_cons, List.nodup_cons] at h
    exact List.nodup_cons.2 ⟨fun q => h.1 (List.mem_map_of_mem q), map_nodup h.2⟩
theorem pre_of {A : Int → Int} {hs : List Int} : ∀ us : List Int, (∀ u ∈ us, u ∈ hs.map A) → ∃ vs : List Int, us = vs.map A ∧ ∀ v ∈ vs, v ∈ hs
  | [], _ => ⟨[], rfl, by simp⟩
  | u :: us, h => by
    obtain ⟨v, hv, rfl⟩ := List.mem_map.1 (h u (by simp))
    obtain ⟨vs, rfl, k⟩ := pre_of us (fun x hx => h x (by simp [hx]))
    exact ⟨v :: vs, rfl, fun x hx => by
      rcases List.mem_cons.1 hx with rfl | q
      · exact hv
      · exact k x q⟩
variable {g : Gr} {W : Nat} {s : Int} {m : Me} {a : Int} {o : List Int} {k i : Nat}
theorem putR_flat (g : Gr) (s : Int) : (putR g s).flatten = g.2.flatten.map (Adr s g.1) := by
  unfold putR
  rw [← List.map_flatten]
theorem Cx.or0 (X : Cx g W s) {v : Int} (hv : v ∈ g.2.flatten) : v = 0 ∨ v ∈ ord g := by
  obtain ⟨row, hr, hv'⟩ := List.mem_flatten.1 hv
  have h := X.rg.hn row hr v hv'
  by_cases h0 : v = 0
  · exact .inl h0
  · exact .inr ((ord_more X.hn).hs v hv ⟨by omega, h.2⟩)
theorem Cx.inj (X : Cx g W s) {a b : Int} (ha : a = 0 ∨ inN g a) (hb : b = 0 ∨ inN g b) (e : Adr s g.1 a = Adr s g.1 b) : a = b :=
  (put_hold X.rg X.h16 X.hW X.hs X.hT).inj' ha hb e
theorem Cx.vs (X : Cx g W s) : ∃ vs : List Int, K.unq (putR g s).flatten = vs.map (Adr s g.1) ∧ (∀ v ∈ vs, v = 0 ∨ v ∈ ord g) ∧ (∀ v ∈ g.2.flatten, v = 0 ∨ v ∈ vs) ∧ (vs.map (Adr s g.1)).Nodup ∧ (0 : Int) ∉ vs.map (Adr s g.1) ∧ vs.length ≤ 1000 := by
  obtain ⟨vs, e, hvs⟩ := pre_of (A := Adr s g.1) (hs := g.2.flatten) (K.unq (putR g s).flatten) (fun u hu => by rw [← putR_flat]; exact unq_mem hu)
  have hnd := unq_nd (putR g s).flatten
  rw [e] at hnd
  have hin : ∀ v ∈ vs, inN g v := fun v hv => by
    rcases X.or0 (hvs v hv) with rfl | q
    · exact absurd (by rw [← Adr_0 g s]; exact List.mem_map_of_mem hv) hnd.2
    · exact (ord_more X.hn).td.inn v q
  refine ⟨vs, e, fun v hv => X.or0 (hvs v hv), fun v hv => ?_, hnd.1, hnd.2, ?_⟩
  · by_cases h0 : v = 0
    · exact .inl h0
    · right
      have hiv : inN g v := (ord_more X.hn).td.inn v ((X.or0 hv).resolve_left h0)
      have h := unq_all (putR g s).flatten (Adr s g.1 v) (by rw [putR_flat]; exact List.mem_map_of_mem hv)
      rw [e] at h
      rcases h with h | h
      · exact absurd (X.inj (.inr hiv) (.inl rfl) (by rw [h, Adr_0])) h0
      · obtain ⟨v', hv', e'⟩ := List.mem_map.1 h
        rw [← X.inj (.inr (hin v' hv')) (.inr hiv) e']
        exact hv'
  · exact Nat.le_trans (nodup_le g.1.length vs (map_nodup hnd.1) (fun v hv => hin v hv)) X.hn
theorem tof_at (X : Cx g W s) {N : Int → Int} (hN : N 0 = 0) {vs : List Int} (hv : ∀ v ∈ vs, v = 0 ∨ v ∈ ord g) (hn0 : (0 : Int) ∉ vs.map (Adr s g.1)) {h : Int} (hh : h = 0 ∨ h ∈ vs) : K.tof (vs.map (Adr s g.1)) (vs.map N) (Adr s g.1 h) = N h := by
  have hin : ∀ v ∈ vs, inN g v := fun v q => by
    rcases hv v q with rfl | q'
    · exact absurd (by rw [← Adr_0 g s]; exact List.mem_map_of_mem q) hn0
    · exact (ord_more X.hn).td.inn v q'
  unfold K.tof
  rw [List.length_map, List.length_map, Nat.min_self, List.take_of_length_le (by rw [List.length_map]; omega)]
  rcases hh with rfl | hh
  · rw [Adr_0, if_neg hn0, hN]
  · have hm : Adr s g.1 h ∈ vs.map (Adr s g.1) := List.mem_map_of_mem hh
    rw [if_pos hm]
    have hl := List.idxOf_lt_length_of_mem hm
    have hg := idx_get hm
    rw [List.length_map] at hl
    have e1 : (vs.map (Adr s g.1)).getD ((vs.map (Adr s g.1)).idxOf (Adr s g.1 h)) 0 = Adr s g.1 (vs.getD ((vs.map (Adr s g.1)).idxOf (Adr s g.1 h)) 0) := by
      simp [List.getD, List.getElem?_eq_getElem hl]
    rw [e1] at hg
    have e2 := X.inj (.inr (hin _ (getD_mem 0 hl))) (.inr (hin h hh)) hg
    have e3 : (vs.map N).getD ((vs.map (Adr s g.1)).idxOf (Adr s g.1 h)) 0 = N (vs.getD ((vs.map (Adr s g.1)).idxOf (Adr s g.1 h)) 0) := by
      simp [List.getD, List.getElem?_eq_getElem hl]
    rw [e3, e2]
theorem turned_at (X : Cx g W s) {N : Int → Int} (hN : N 0 = 0) {vs : List Int} (hv : ∀ v ∈ vs, v = 0 ∨ v ∈ ord g) (hn0 : (0 : Int) ∉ vs.map (Adr s g.1)) (ha : ∀ v ∈ g.2.flatten, v = 0 ∨ v ∈ vs) : K.turned (vs.map (Adr s g.1)) (vs.map N) (putR g s) = g.2.map fun row => row.map N := by
  unfold K.turned putR
  rw [List.map_map]
  refine List.map_congr_left fun row hr => ?_
  simp only [Function.comp, List.map_map]
  exact List.map_congr_left fun h hh => tof_at X hN hv hn0 (ha h (List.mem_flatten.2 ⟨row, hr, hh⟩))

set_option maxHeartbeats 2000000 in
theorem rnext_0 (A : Option Addr) (c : Nat) (w : World) : Calls Tryz.prog 145 #[.slice A 0 c] w fun e w' => e = .returned (.tuple #[.int .i64 0, .bool false]) ∧ Up w w' := by
  have hst := Lib.hid (Up.refl w)
  go_enter Tryz.func145, Tryz.ntmps145
  go_wp2_with (fail)
  go_loopw [4] (fun i wr => i = .int .i64 0 ∧ Up w wr) (fun _ _ => 0)
  case atStart => exact ⟨rfl, hst.out⟩
  case round =>
    rename World => wr
    obtain ⟨rfl, U⟩ := hrel
    have HU := Lib.hid U
    clear U
    go_wp2
    go_ret2
    exact ⟨rfl, HU.out⟩
end Go.Proofs.YtanhhkdoejnpiaaGreat.G
/- The document's Logs of none, and Finish: contracts. -/
namespace Go.Proofs.YtanhhkdoejnpiaaGreat.G
open Go.Joins Go.ChangeShapes Go.WideShapes Go.ChangeAt Go.RowKit Go.Deep Go.Shelf Go.Maps
set_option linter.unusedVariables false
set_option linter.unusedSimpArgs false

theorem run_append_00 (p : Addr) (w : World) : (Builtin.append_ #[141, 141] 141 #[.slice (some p) 0 0, .slice none 0 0]).run Tryz.prog w = .ok (.slice (some p) 0 0) w := by
  obtain ⟨i0, hi, hz0, hz1, hz2⟩ := info_parts (P := Tryz.prog) (e := 196) (z := .slice none 0 0) (size := 1) (bytes := 24) (by kernel_rfl)
  exact run_append_nothing w _ _ _ _ i0 Tryz.underlying141 hi (some p) 0 0 (Nat.le_refl _) _ (Src.ofNil _ Tryz.underlying141 0)
set_option maxRecDepth 100000 in
set_option maxHeartbeats 4000000 in
theorem rlogs_nil (W : Nat) (s : Int) (a x y : Int) (P Q : Addr) (c d : Nat) (w : World) :
    Calls Tryz.prog 133 #[YtanhhkdoejnpiaaGreat.rov W (sl P W c) (sl Q W d) (1 - s) a W x y, .slice none 0 0] w (fun e w' => ∃ A k, e = .returned (.tuple #[YtanhhkdoejnpiaaGreat.rov W (sl P W c) (sl Q W d) (1 - s) a W x y, .slice A 0 k, .int .i64 0]) ∧ Up w w') := by
  have hrun := run_append_00
  have HX0 := Lib.hid ((((Blk.new w 58 (rc8 W P c Q d (1 - s) a W x y)).alloc (.cells rz8 58)).alloc (.cells #[] 196)))
  have HZ0 := Lib.hid ((Blk.new' (w.alloc (.cells (rc8 W P c Q d (1 - s) a W x y) 58)) (g := w.heap.size + 1) (by simp) 58 rz8).alloc (.cells #[] 196))
  have HU0 := Lib.hid ((((Up.refl w).alloc (.cells (rc8 W P c Q d (1 - s) a W x y) 58)).alloc (.cells rz8 58)).alloc (.cells #[] 196))
  go_enter Tryz.func133, Tryz.ntmps133
  go_wp2_with (at_builtin; refine Lib.wpList_append_run _ rfl _ _ _ _ rfl _ _ rfl rfl _ _ (hrun _ _) ?_)
  go_loopw [8] (fun u wr => Blk wr w.heap.size 58 (rc8 W P c Q d (1 - s) a W x y) ∧ Blk wr (w.heap.size + 1) 58 rz8 ∧ Up w wr) (fun _ _ => 0)
  case atStart => exact ⟨HX0.out, HZ0.out, HU0.out⟩
  case round =>
    rename World => wr
    obtain ⟨bX, bZ, U⟩ := hrel
    have HNX := Lib.hid (fun p V => rnext_0 (some p) 0 V)
    have HBX := Lib.hid bX
    have HBZ := Lib.hid bZ
    have HU := Lib.hid U
    clear bX bZ U hrun
    go_wp2_with (fail)
    refine (HNX.out _ _).mono ?_
    rintro e w5 ⟨rfl, k5⟩
    have bX5 := HBX.out.up k5
    have bZ5 := HBZ.out.up k5
    have HZ8 := Lib.hid (bZ5.set8 (.int .i64 W) (.slice (some P) W c) (.slice (some Q) W d) (.int .i64 (1 - s)) (.int .i64 a) (.int .i64 W) (.int .i64 x) (.int .i64 y))
    have HU8 := Lib.hid ((HU.out.trans k5).set8 (by omega : w.heap.size ≤ w.heap.size + 1) (.int .i64 W) (.slice (some P) W c) (.slice (some Q) W d) (.int .i64 (1 - s)) (.int .i64 a) (.int .i64 W) (.int .i64 x) (.int .i64 y))
    have qX := bX5.cell
    have lX := bX5.lt
    have qZ := bZ5.cell
    have fZ := bZ5.frozen
    have lZ := bZ5.lt
    clear bX5 bZ5 k5
    go_wp2
    refine bodyPost_ret (ret_room3 rfl _ _ _ W (1 - s) a W x y (sl P W c) (sl Q W d) _ _ rfl HZ8.out rfl rfl) rfl ?_
    exact ⟨_, _, rfl, HU8.out⟩

/-- What Finish leaves. -/
def FnPst (g : Gr) (W : Nat) (s : Int) (vs : List Int) (x y : Int) (w : World) (e : Ending) (w' : World) : Prop :=
  ∃ (m : Me) (a : Int) (o : List Int) (P Q : Addr) (c d : Nat) (A : Option Addr) (n k : Nat), e = .returned (.tuple #[YtanhhkdoejnpiaaGreat.rov W (sl P W c) (sl Q W d) (1 - s) a W x y, .slice A n k, .int .i64 0]) ∧ Fi g W s m a o o.length 0 ∧ (∀ v ∈ vs, v = 0 ∨ v ∈ o) ∧ Sits w' m P Q c d ∧ Up w w'
theorem rall_let9 (v : Value) (L : List (List Int)) (w : World) (hL : K.Rw w v L) (hN : L.flatten.length ≤ 1048576) :
    Calls Tryz.prog 26 #[v] w fun e w' => ∃ A c, e = .returned (.slice A (K.unq L.flatten).length c) ∧ Sl .u64 w' (.slice A (K.unq L.flatten).length c) (K.unq L.flatten) ∧ Up w w' :=
  (K.rall_any v L w hL (by omega)).mono fun e w' h => by
    obtain ⟨u, rfl, hlo, k⟩ := h
    have hs := sl_lo hlo
    obtain ⟨A, c, rfl⟩ := hs.slice
    exact ⟨A, c, rfl, hs, k⟩
set_option maxRecDepth 100000 in
set_option maxHeartbeats 8000000 in
theorem rfinish_any {g : Gr} {W : Nat} {s : Int} (X : Cx g W s) (m0 : Me) (a : Int) (F : Fi g W s m0 a [] 0 0) (x y : Int) (P Q : Addr) (c d : Nat) (v : Value) (vs : List Int) (w : World) (hm : Sits w m0 P Q c d) (hL : K.Rw w v (putR g s)) (hN : (putR g s).flatten.length ≤ 1048576) (hu : K.unq (putR g s).flatten = vs.map (Adr s g.1)) (hv : ∀ v ∈ vs, v = 0 ∨ v ∈ ord g) (hvl : vs.length ≤ 1000) :
    Calls Tryz.prog 100 #[YtanhhkdoejnpiaaGreat.rov W (sl P W c) (sl Q W d) (1 - s) a W x y, .int .i64 0, v, .slice none 0 0] w (FnPst g W s vs x y w) := by
  obtain ⟨t1, t2, o1, t3, t4, t5, t6, t7⟩ := F.each X vs m0 a [] (Nat.le_refl _) hv
  have hAR := Lib.hid F.at_
  have hfit := F.fit X
  have hat := F.at_
  have hWW := X.hW
  have hrg : rgt (1 - s) a W := ⟨X.s', by omega, by omega, by omega⟩
  have HLG := Lib.hid (fun V => rlogs_nil W s a x y P Q c d V)
  have HAL := Lib.hid (fun V (k : Up w V) => by
    have h := rall_let9 v (putR g s) V (hL.up k) hN
    rw [hu, List.length_map] at h
    exact h)
  have HEA := Lib.hid (fun V (k : Up w V) u (hS : Sl .u64 V u (vs.map (Adr s g.1))) => by
    have h := reach_any11 m0 W (1 - s) a W x y P Q c d u (vs.map (Adr s g.1)) V (hm.up k) F.n F.wf hrg rfl hS (fun A hA => by
      obtain ⟨q, hq, rfl⟩ := List.mem_map.1 hA
      exact X.adr_u (hv q hq)) (by rw [List.length_map]; omega) t1 t2
    unfold EaPst at h
    rw [t4.n] at h
    exact h)
  have HA12 := Lib.hid (fun V P' Q' c' d' (hS : Sits V (eac (1 - s) W (vs.map (Adr s g.1)) m0 a).m P' Q' c' d') => show Calls Tryz.prog 135 #[YtanhhkdoejnpiaaGreat.rov W (sl P' W c') (sl Q' W d') (1 - s) (eac (1 - s) W (vs.map (Adr s g.1)) m0 a).a W x y, .int .i64 0] V (AlPst g W s o1 x y V) from by
    have h := rall12_any X _ _ o1 0 t4 (Nat.zero_le _) x y P' Q' c' d' V hS
    rw [ofs_0] at h
    exact h)
  have HT5 := Lib.hid t5
  clear t1 t2 t3 t4 t5 t6 t7 hm hL hN hu hv hvl hrg F hat hfit hWW hAR X
  generalize (eac (1 - s) W (vs.map (Adr s g.1)) m0 a).ts = ts at *
  generalize (eac (1 - s) W (vs.map (Adr s g.1)) m0 a).a = a5 at *
  generalize (eac (1 - s) W (vs.map (Adr s g.1)) m0 a).m = m5 at *
  generalize vs.length = nv at *
  go_enter Tryz.func100, Tryz.ntmps100
  go_wp2_with (fail)
  obtain ⟨w1, hw1⟩ : ∃ w1, w1 = (w.alloc (.cells #[.int .i64 W, .slice (some P) W c, .slice (some Q) W d, .int .i64 (1 - s), .int .i64 a, .int .i64 W, .int .i64 x, .int .i64 y] 58)).alloc (.cells #[.int .i64 0, .slice none 0 0, .slice none 0 0, .int .i64 0, .int .i64 0, .int .i64 0, .int .i64 0, .int .i64 0] 58) := ⟨_, rfl⟩
  have U1 : Up w w1 := by rw [hw1]; exact ((Up.refl w).alloc _).alloc _
  have bX1 : Blk w1 w.heap.size 58 (rc8 W P c Q d (1 - s) a W x y) := by rw [hw1]; exact (Blk.new w _ _).alloc _
  have bZ1 : Blk w1 (w.heap.size + 1) 58 rz8 := by rw [hw1]; exact Blk.new' _ (by simp) _ _
  rw [← hw1]
  clear hw1
  refine (HLG.out _).mono ?_
  rintro e w2 ⟨A2, k2, rfl, u2⟩
  go_upto_region 4 with fail
  obtain ⟨w3, hw3⟩ : ∃ w3, w3 = w2.alloc (.cells #[.int .i64 W, .slice (some P) W c, .slice (some Q) W d, .int .i64 (1 - s), .int .i64 a, .int .i64 W, .int .i64 x, .int .i64 y] 58) := ⟨_, rfl⟩
  have bA : Blk w3 w2.heap.size 58 #[.int .i64 W, .slice (some P) W c, .slice (some Q) W d, .int .i64 (1 - s), .int .i64 a, .int .i64 W, .int .i64 x, .int .i64 y] := by rw [hw3]; exact Blk.new w2 _ _
  have u3 : Up w1 w3 := by rw [hw3]; exact u2.alloc _
  rw [← hw3]
  have U3 := U1.trans u3
  have bZ3 := bZ1.up u3
  obtain ⟨GA, hGA⟩ : ∃ GA, w2.heap.size = GA := ⟨_, rfl⟩
  rw [hGA] at bA ⊢
  clear hw3 hGA u3 u2 bX1 bZ1 U1
  have HK3 := Lib.hid (fun V (u : Up w3 V) => (fun zi => (bA.up u).cell zi : (∀ zi, V.cell? ⟨GA, zi, none⟩ = (#[.int .i64 W, .slice (some P) W c, .slice (some Q) W d, .int .i64 (1 - s), .int .i64 a, .int .i64 W, .int .i64 x, .int .i64 y] : Array Value)[zi]?)))
  have HKA := Lib.hid (fun V (u : Up w3 V) => HK3.out (V.alloc (.cells #[.int .i64 0, .slice none 0 0, .slice none 0 0, .int .i64 0, .int .i64 0, .int .i64 0, .int .i64 0, .int .i64 0] 58)) (u.alloc _))
  have HAL3 := Lib.hid (fun V (u : Up w3 V) => HAL.out V (U3.trans u))
  have HEA3 := Lib.hid (fun V u (k : Up w3 V) (h : Sl .u64 V u (vs.map (Adr s g.1))) => HEA.out V (U3.trans k) u h)
  have HZ3 := Lib.hid bZ3
  have HU3 := Lib.hid U3
  have V0 : Up w3 w3.drew := (Up.refl w3).drew
  have qA := bA.cell
  have lA := bA.lt
  clear U3 bZ3 bA
  go_wp2_with (fail)
  go_region_held3 (fun w' => (∀ zi, w'.cell? ⟨GA, zi, none⟩ = (#[.int .i64 W, .slice (some P) W c, .slice (some Q) W d, .int .i64 (1 - s), .int .i64 a, .int .i64 W, .int .i64 x, .int .i64 y] : Array Value)[zi]?))
    (first
      | with_reducible exact HK3.out _ (by assumption)
      | with_reducible exact HK3.out _ (((Up.refl w3).alloc _).drew)
      | with_reducible exact HK3.out _ (Up.set8 UE (Nat.le_refl _) _ _ _ _ _ _ _ _)
      | with_reducible exact HK3.out _ (UE.alloc _)
      | with_reducible exact HK3.out _ (Up.set8 UE hgA _ _ _ _ _ _ _ _)
      | with_reducible exact HKA.out _ UA)
    (first
      | (go_at_call 26; ((with_reducible refine (HAL3.out _ (by first | with_reducible assumption | with_reducible exact ((Up.refl w3).alloc _).drew)).mono ?_); rintro e wA ⟨BA, kA, rfl, sA, uA⟩; have UA : Up w3 wA := Up.trans (by first | with_reducible assumption | with_reducible exact ((Up.refl w3).alloc _).drew) uA; have hgA := UA.size; (try (with_reducible have MA := ((Blk.new w3 58 rz8).drew).up uA))))
      | (go_at_call 134; ((with_reducible refine (HEA3.out _ _ (by first | with_reducible exact UA | with_reducible exact UA.alloc _) (by first | with_reducible exact sA | with_reducible exact sA.up ((Up.refl _).alloc _))).mono ?_); rintro e wE ⟨P5, Q5, c5, d5, B5, k5, rfl, sE, lE, uE⟩; have UE : Up w3 wE := Up.trans (by first | with_reducible exact UA | with_reducible exact UA.alloc _) uE; (first | (with_reducible have MB := MA.up uE; have mc := MB.cell; have mf := MB.frozen; have ml := MB.lt) | (with_reducible have MB := (Blk.new wA 58 rz8).up uE; have mc := MB.cell; have mf := MB.frozen; have ml := MB.lt) | skip))))
  all_goals
    first
      | (obtain ⟨W7, hW7⟩ : ∃ W7, W7 = wE.alloc (.cells #[.int .i64 W, .slice (some P5) W c5, .slice (some Q5) W d5, .int .i64 (1 - s), .int .i64 a5, .int .i64 W, .int .i64 x, .int .i64 y] 58) := ⟨_, rfl⟩
         rw [← hW7]
         have bB : Blk W7 wE.heap.size 58 #[.int .i64 W, .slice (some P5) W c5, .slice (some Q5) W d5, .int .i64 (1 - s), .int .i64 a5, .int .i64 W, .int .i64 x, .int .i64 y] := by rw [hW7]; exact Blk.new wE _ _
         have KW7 : Up w3 W7 := by rw [hW7]; exact UE.alloc _
         have S7 : Sits W7 m5 P5 Q5 c5 d5 := by rw [hW7]; exact sE.up ((Up.refl wE).alloc _)
         obtain ⟨BH, hBH⟩ : ∃ B, B = wE.heap.size := ⟨_, rfl⟩
         rw [← hBH] at bB ⊢)
      | (have hh : Blk wE wA.heap.size 58 rz8 := by with_reducible exact MB
         clear hh
         obtain ⟨W7, hW7⟩ : ∃ W7, W7 = ((((((((wE.setCell ⟨wA.heap.size, 0, none⟩ (.int .i64 W)).setCell ⟨wA.heap.size, 1, none⟩ (.slice (some P5) W c5)).setCell ⟨wA.heap.size, 2, none⟩ (.slice (some Q5) W d5)).setCell ⟨wA.heap.size, 3, none⟩ (.int .i64 (1 - s))).setCell ⟨wA.heap.size, 4, none⟩ (.int .i64 a5)).setCell ⟨wA.heap.size, 5, none⟩ (.int .i64 W)).setCell ⟨wA.heap.size, 6, none⟩ (.int .i64 x)).setCell ⟨wA.heap.size, 7, none⟩ (.int .i64 y)) := ⟨_, rfl⟩
         rw [← hW7]
         have bB : Blk W7 wA.heap.size 58 #[.int .i64 W, .slice (some P5) W c5, .slice (some Q5) W d5, .int .i64 (1 - s), .int .i64 a5, .int .i64 W, .int .i64 x, .int .i64 y] := by rw [hW7]; exact MB.set8 (.int .i64 W) (.slice (some P5) W c5) (.slice (some Q5) W d5) (.int .i64 (1 - s)) (.int .i64 a5) (.int .i64 W) (.int .i64 x) (.int .i64 y)
         have KW7 : Up w3 W7 := by rw [hW7]; exact UE.set8 hgA (.int .i64 W) (.slice (some P5) W c5) (.slice (some Q5) W d5) (.int .i64 (1 - s)) (.int .i64 a5) (.int .i64 W) (.int .i64 x) (.int .i64 y)
         have S7 : Sits W7 m5 P5 Q5 c5 d5 := by rw [hW7]; exact sE.far8 MB (.int .i64 W) (.slice (some P5) W c5) (.slice (some Q5) W d5) (.int .i64 (1 - s)) (.int .i64 a5) (.int .i64 W) (.int .i64 x) (.int .i64 y)
         obtain ⟨BH, hBH⟩ : ∃ B, B = wA.heap.size := ⟨_, rfl⟩
         rw [← hBH] at bB ⊢
         clear mc mf ml MB)
      | (obtain ⟨W7, hW7⟩ : ∃ W7, W7 = ((((((((wE.setCell ⟨w3.heap.size, 0, none⟩ (.int .i64 W)).setCell ⟨w3.heap.size, 1, none⟩ (.slice (some P5) W c5)).setCell ⟨w3.heap.size, 2, none⟩ (.slice (some Q5) W d5)).setCell ⟨w3.heap.size, 3, none⟩ (.int .i64 (1 - s))).setCell ⟨w3.heap.size, 4, none⟩ (.int .i64 a5)).setCell ⟨w3.heap.size, 5, none⟩ (.int .i64 W)).setCell ⟨w3.heap.size, 6, none⟩ (.int .i64 x)).setCell ⟨w3.heap.size, 7, none⟩ (.int .i64 y)) := ⟨_, rfl⟩
         rw [← hW7]
         have bB : Blk W7 w3.heap.size 58 #[.int .i64 W, .slice (some P5) W c5, .slice (some Q5) W d5, .int .i64 (1 - s), .int .i64 a5, .int .i64 W, .int .i64 x, .int .i64 y] := by rw [hW7]; exact MB.set8 (.int .i64 W) (.slice (some P5) W c5) (.slice (some Q5) W d5) (.int .i64 (1 - s)) (.int .i64 a5) (.int .i64 W) (.int .i64 x) (.int .i64 y)
         have KW7 : Up w3 W7 := by rw [hW7]; exact UE.set8 (Nat.le_refl _) (.int .i64 W) (.slice (some P5) W c5) (.slice (some Q5) W d5) (.int .i64 (1 - s)) (.int .i64 a5) (.int .i64 W) (.int .i64 x) (.int .i64 y)
         have S7 : Sits W7 m5 P5 Q5 c5 d5 := by rw [hW7]; exact sE.far8 MB (.int .i64 W) (.slice (some P5) W c5) (.slice (some Q5) W d5) (.int .i64 (1 - s)) (.int .i64 a5) (.int .i64 W) (.int .i64 x) (.int .i64 y)
         obtain ⟨BH, hBH⟩ : ∃ B, B = w3.heap.size := ⟨_, rfl⟩
         rw [← hBH] at bB ⊢
         clear mc mf ml MB MA)
    have qB := bB.cell
    have lB := bB.lt
    clear hW7 hBH bB UE UA uE uA sE lE sA hgA V0 qA lA
    go_wp2_with (fail)
    refine (HA12.out _ _ _ _ _ S7).mono ?_
    rintro e w9 ⟨m9, a9, o9, P9, Q9, c9, d9, rfl, F9, h9, s9, k9⟩
    have bZ9 := HZ3.out.up (KW7.trans k9)
    have HZF := Lib.hid ((bZ9.set8 (.int .i64 W) (.slice (some P9) W c9) (.slice (some Q9) W d9) (.int .i64 (1 - s)) (.int .i64 a9) (.int .i64 W) (.int .i64 x) (.int .i64 y)).alloc (.cells #[.int .i64 W, .slice (some P9) W c9, .slice (some Q9) W d9, .int .i64 (1 - s), .int .i64 a9, .int .i64 W, .int .i64 x, .int .i64 y] 58))
    have HSF := Lib.hid ((s9.far8 bZ9 (.int .i64 W) (.slice (some P9) W c9) (.slice (some Q9) W d9) (.int .i64 (1 - s)) (.int .i64 a9) (.int .i64 W) (.int .i64 x) (.int .i64 y)).up ((Up.refl _).alloc (.cells #[.int .i64 W, .slice (some P9) W c9, .slice (some Q9) W d9, .int .i64 (1 - s), .int .i64 a9, .int .i64 W, .int .i64 x, .int .i64 y] 58)))
    have HUF := Lib.hid (((HU3.out.trans (KW7.trans k9)).set8 (by omega : w.heap.size ≤ w.heap.size + 1) (.int .i64 W) (.slice (some P9) W c9) (.slice (some Q9) W d9) (.int .i64 (1 - s)) (.int .i64 a9) (.int .i64 W) (.int .i64 x) (.int .i64 y)).alloc (.cells #[.int .i64 W, .slice (some P9) W c9, .slice (some Q9) W d9, .int .i64 (1 - s), .int .i64 a9, .int .i64 W, .int .i64 x, .int .i64 y] 58))
    have HFF : Hid (Fi g W s m9 a9 o9 o9.length 0 ∧ ∀ v ∈ vs, v = 0 ∨ v ∈ o9) := Lib.hid ⟨F9, fun v hv => (HT5.out v hv).imp id (fun q => h9.subset q)⟩
    have qZ := bZ9.cell
    have fZ := bZ9.frozen
    have lZ := bZ9.lt
    clear bZ9 qB lB KW7 S7 k9 s9 F9 h9
    go_wp2
    refine bodyPost_ret (ret_room3 rfl _ _ _ W (1 - s) a9 W x y (sl P9 W c9) (sl Q9 W d9) _ _ rfl HZF.out rfl rfl) rfl ?_
    exact ⟨m9, a9, o9, P9, Q9, c9, d9, _, _, _, rfl, HFF.out.1, HFF.out.2, HSF.out, HUF.out⟩
end Go.Proofs.YtanhhkdoejnpiaaGreat.G
/- The document's Turn of rows: the rows are its own. -/
namespace Go.Proofs.YtanhhkdoejnpiaaGreat.K
open Go.Joins Go.ChangeShapes Go.WideShapes Go.ChangeAt Go.RowKit Go.Deep Go.Shelf Go.Maps
set_option linter.unusedVariables false
set_option linter.unusedSimpArgs false
set_option maxRecDepth 100000 in
set_option maxHeartbeats 8000000 in
theorem rturn_own (v f t : Value) (L : List (List Int)) (fs ts : List Int) (w : World) (hL : Rw w v L) (hf : Sl w f fs) (ht : Sl w t ts) (hF : Fit L) : Calls Tryz.prog 136 #[v, f, t] w (fun e w' => ∃ v' us, e = .returned v' ∧ Own w' w.heap.size v' us (turned fs ts L) ∧ Up w w') := by
  have hL0 := hL
  have hf0 := hf
  have ht0 := ht
  have hLm := hL.max
  have hfm := hf.max
  have htm := ht.max
  obtain ⟨A, c, rfl, -⟩ := hL
  obtain ⟨Af, cf, rfl, -⟩ := hf
  obtain ⟨At, ct, rfl, -⟩ := ht
  have HL := Lib.hid hL0
  have HFS := Lib.hid hf0
  have HT := Lib.hid ht0
  have HF := Lib.hid hF
  obtain ⟨i0, hi, hz0, hz1, hz2⟩ := info_parts info_u64
  obtain ⟨i1, hi', hz0', hz1', hz2'⟩ := info_parts info_words
  clear hL0 hf0 ht0 hF
  generalize hn : L.length = n at *
  generalize hnt : ts.length = nt at *
  generalize hnf : fs.length = nf at *
  have HN := Lib.hid hn
  have HNT := Lib.hid hnt
  have HNF := Lib.hid hnf
  clear hn hnt hnf
  unfold maxLen at *
  go_enter Tryz.func136, Tryz.ntmps136
  go_wp2_with (fail)
  go_loopw [7, 8] (fun u7 u8 wr => OutRel w n L (fun xs => xs.map (tof fs ts)) u7 u8 wr) (fun _ u8 _ => n - (intOf u8).toNat)
  case atStart => exact ⟨0, [], Nat.zero_le _, rfl, Own.nil _ _, Up.refl _⟩
  case round =>
    rename World => wb
    obtain ⟨x, us, hxn, rfl, hOw, hU⟩ := hrel
    by_cases hlt : x < n
    · obtain ⟨p, u, rfl, hcu, hsu⟩ := (HL.out.up hU).at_ hlt
      have hlx : x < L.length := by rw [HN.out]; exact hlt
      have hxl := HF.out.l _ (getD_mem [] hlx)
      have TS := Lib.hid (take_one [] hlx)
      have hLl := HF.out.n
      rw [HN.out] at hLl
      generalize L.getD x [] = xs at hsu hxl TS
      have HSU := Lib.hid hsu
      have HCU := Lib.hid hcu
      obtain ⟨Au, cu, rfl, -⟩ := hsu
      have hxm := HSU.out.max
      generalize hk : xs.length = k at *
      have HK := Lib.hid hk
      unfold maxLen at hxm
      have HOw := Lib.hid hOw
      have HUp := Lib.hid hU
      have hzl : w.heap.size ≤ wb.heap.size := hU.size
      clear hOw hU hcu hk
      go_wp2_with (fail)
      go_loopw [9, 10] (fun u9 u10 wr => MidRel wb k xs (tof fs ts) u9 u10 wr) (fun _ u10 _ => k - (intOf u10).toNat)
      case atStart => exact ⟨0, Nat.zero_le _, rfl, Lo.nil _ _, Up.refl _⟩
      case round =>
        rename World => wc
        obtain ⟨h, hhk, rfl, hlo, hUm⟩ := hrel
        have hcu := hUm.cell HCU.out
        by_cases hh : h < k
        · obtain ⟨pu, rfl, hca⟩ := (HSU.out.up hUm).rd.at_ hh
          have hlh : h < xs.length := by rw [HK.out]; exact hh
          have TX := Lib.hid (take_one 0 hlh)
          generalize xs.getD h 0 = a at hca TX
          have HLO := Lib.hid hlo
          have HUM := Lib.hid hUm
          have HCA := Lib.hid hca
          have HCU2 := Lib.hid hcu
          clear hlo hUm
          go_wp2_with (fail)
          clear hca hcu
          go_loopw [11, 12] (fun u11 u12 wr => LowRel wc fs ts a nf u11 u12 wr) (fun _ u12 _ => (intOf u12 + 1).toNat)
          case atStart => exact ⟨nf, Nat.le_refl _, rfl, by rw [List.drop_of_length_le (by rw [HNF.out]; exact Nat.le_refl _)]; rfl, Up.refl _⟩
          case round =>
            rename World => wd
            obtain ⟨m, hmn, rfl, rfl, hUl⟩ := hrel
            have hcu := hUl.cell HCU2.out
            have hca := hUl.cell HCA.out
            cases m with
            | zero =>
              have HE : Hid (seek ts a (fs.drop 0) 0 = tof fs ts a) := Lib.hid (by rw [List.drop_zero]; exact seek_tof fs ts a)
              rw [HE.out]
              have e0 : ((0 : Nat) : Int) - 1 = -1 := by decide
              rw [e0]
              have hlo4 := HLO.out.up hUl
              have hu4 := HUM.out.trans hUl
              have hsz := (hu4.alloc (.cells #[.int .u64 (tof fs ts a)] 67)).size
              have hll : ((xs.take h).map (tof fs ts)).length = h := by simp; omega
              have TX2 : Hid ((xs.take (h + 1)).map (tof fs ts) = (xs.take h).map (tof fs ts) ++ [tof fs ts a]) := Lib.hid (by rw [TX.out, List.map_append]; rfl)
              have HU4 := Lib.hid hu4
              have HLL := Lib.hid hll
              generalize tof fs ts a = d at *
              generalize (xs.take h).map (tof fs ts) = ls at *
              clear hUl hu4 hcu hca
              have hlb : ls.length + 1 ≤ 17592186044416 := by omega
              clear hll
              go_wp2_with (at_builtin; refine wpList_own rfl _ _ rfl wb.heap.size _ ls rfl (World.ownsRow.alloc hlo4 _) ⟨wd.heap.size, 0, none⟩ [d] 1 1 rfl rfl (Blk.row (xs := [d]) (Blk.new _ _ _)) (by omega) hlb hsz ?_; intro g cap w5 hown hg)
              have HUE := Lib.hid (Up.own (HU4.out.alloc _) (World.ownsRow.alloc hlo4 _) hg)
              have HOE := Lib.hid hown
              clear hown hg hlo4
              refine ⟨⟨h + 1, by omega, by go_num, by rw [TX2.out]; exact HOE.out, HUE.out⟩, by simp [intOf]; omega⟩
            | succ m =>
              have e0 : ((m + 1 : Nat) : Int) - 1 = (m : Int) := by omega
              rw [e0]
              have hlm : m < fs.length := by rw [HNF.out]; omega
              obtain ⟨pf, rfl, hcf⟩ := (HFS.out.up ((HUp.out.trans HUM.out).trans hUl)).rd.at_ (show m < nf by omega)
              have HST := Lib.hid (seek_step ts a fs hlm)
              rw [HNT.out] at HST
              have HUl := Lib.hid hUl
              generalize fs.getD m 0 = b at hcf HST
              generalize seek ts a (fs.drop (m + 1)) (m + 1) = s1 at HST ⊢
              by_cases hb : b = a
              · subst hb
                rw [if_pos rfl] at HST
                by_cases hmt : m < nt
                · rw [if_pos hmt] at HST
                  obtain ⟨pt, rfl, hct⟩ := (HT.out.up ((HUp.out.trans HUM.out).trans hUl)).rd.at_ hmt
                  generalize ts.getD m 0 = d at hct HST
                  clear hUl
                  go_wp2_with (fail)
                  go_region
                  go_wp2
                  exact ⟨⟨m, by omega, rfl, by rw [HST.out], HUl.out.drew⟩, by simp [intOf]⟩
                · rw [if_neg hmt] at HST
                  clear hUl
                  go_wp2_with (fail)
                  go_region
                  go_wp2
                  exact ⟨⟨m, by omega, rfl, by rw [HST.out], HUl.out.drew⟩, by simp [intOf]⟩
              · rw [if_neg hb] at HST
                have hbb : (b == a) = false := beq_eq_false_iff_ne.2 hb
                clear hUl
                go_wp2_with (fail)
                go_region
                go_wp2
                exact ⟨⟨m, by omega, rfl, by rw [HST.out], HUl.out.drew⟩, by simp [intOf]⟩
        · obtain rfl : h = k := by omega
          rw [List.take_of_length_le (by rw [HK.out]; exact Nat.le_refl _)] at hlo
          have hOw := HOw.out.up hUm
          have hu4 := HUp.out.trans hUm
          have hlo2 : Lo wc w.heap.size u9 (xs.map (tof fs ts)) := Lo.le hlo hzl
          have hsz := (hu4.alloc (.cells #[u9] 22)).size
          have hul : us.length = x := by rw [hOw.2.1]; simp; omega
          have hlb : us.length + 1 ≤ 5864062014805 := by omega
          have TS2 : Hid ((L.take (x + 1)).map (fun xs => xs.map (tof fs ts)) = (L.take x).map (fun xs => xs.map (tof fs ts)) ++ [xs.map (tof fs ts)]) := Lib.hid (by rw [TS.out, List.map_append]; rfl)
          have hu9 : ∃ A n c, u9 = .slice A n c := (Sl.of_lo hlo).slice
          obtain ⟨A9, n9, c9, rfl⟩ := hu9
          have HUL := Lib.hid hul
          have HOW := Lib.hid (hOw.up ((Up.refl wc).alloc (.cells #[.slice A9 n9 c9] 22)))
          have HLO := Lib.hid (hlo2.up ((Up.refl wc).alloc (.cells #[.slice A9 n9 c9] 22)))
          have HU4 := Lib.hid (hu4.alloc (.cells #[.slice A9 n9 c9] 22))
          clear hOw hu4 hlo hlo2 hUm hul
          go_wp2_with (at_builtin; refine wpList_append_own_at _ rfl _ _ 26 rfl w.heap.size 22 i1 (.slice none 0 0) 1 24 Tryz.underlying26 hi' hz0' hz1' hz2' rfl (by decide) _ _ _ rfl HOW.out.1 ⟨wc.heap.size, 0, none⟩ 1 1 [.slice A9 n9 c9] rfl rfl (cell_one_new _ _ _) (by simp [Value.oneCell']) (by unfold maxLen; omega) (by omega) hsz ?_; intro v' w5 hown hg _ hloc)
          have HOE := Lib.hid (HOW.out.snoc HLO.out hown hg)
          have HUE := Lib.hid (HU4.out.grown hg (fun k e => (World.ownsRow.lt HOW.out.1 k e).1))
          clear hown hg hloc
          go_wp2
          exact ⟨⟨x + 1, _, by omega, by go_num, by rw [TS2.out]; exact HOE.out, HUE.out⟩, by simp [intOf]; omega⟩
    · obtain rfl : x = n := by omega
      rw [List.take_of_length_le (by rw [HN.out]; exact Nat.le_refl _)] at hOw
      have HR := Lib.hid hOw.rw
      have HO := Lib.hid hOw
      have hv : ∃ A n c, u7 = .slice A n c := by
        obtain ⟨A, c, e, _⟩ := HR.out
        exact ⟨_, _, _, e⟩
      obtain ⟨A7, n7, c7, rfl⟩ := hv
      have HU := Lib.hid hU
      clear hU hOw
      go_wp2
      go_ret
      exact ⟨_, us, rfl, HO.out, HU.out⟩
end Go.Proofs.YtanhhkdoejnpiaaGreat.K
namespace Go.Proofs.YtanhhkdoejnpiaaGreat.G
open Go.Joins Go.ChangeShapes Go.WideShapes Go.ChangeAt Go.RowKit Go.Deep Go.Shelf Go.Maps
theorem own_k_far8 {w : World} {n₀ b : Nat} {v : Value} {us : List Value} {K' : List (List Int)} {cs : Array Value} (h : K.Own w n₀ v us K') (hb : Blk w b 58 cs) (u0 u1 u2 u3 u4 u5 u6 u7 : Value) :
    K.Own ((((((((w.setCell ⟨b, 0, none⟩ u0).setCell ⟨b, 1, none⟩ u1).setCell ⟨b, 2, none⟩ u2).setCell ⟨b, 3, none⟩ u3).setCell ⟨b, 4, none⟩ u4).setCell ⟨b, 5, none⟩ u5).setCell ⟨b, 6, none⟩ u6).setCell ⟨b, 7, none⟩ u7) n₀ v us K' :=
  ⟨own_far8 h.1 (own_row_ne h.1 hb (by decide)).symm u0 u1 u2 u3 u4 u5 u6 u7, h.2.1, fun j u xs h1 h2 => own_far8 (h.2.2 j u xs h1 h2) (own_row_ne (h.2.2 j u xs h1 h2) hb (by decide)).symm u0 u1 u2 u3 u4 u5 u6 u7⟩
end Go.Proofs.YtanhhkdoejnpiaaGreat.G
/- The document's Turn of a flip (dovecoteref14.Turn): contract. -/
namespace Go.Proofs.YtanhhkdoejnpiaaGreat.G
open Go.Joins Go.ChangeShapes Go.WideShapes Go.ChangeAt Go.RowKit Go.Deep Go.Shelf Go.Maps
set_option linter.unusedVariables false
set_option linter.unusedSimpArgs false

def TnPst (W : Nat) (s : Int) (m : Me) (a x y : Int) (L : List (List Int)) (w : World) (e : Ending) (w' : World) : Prop :=
  ∃ (P Q : Addr) (c d : Nat) (u : Value), e = .returned (.tuple #[YtanhhkdoejnpiaaGreat.rov W (sl P W c) (sl Q W d) (1 - s) a W x y, u, .int .i64 0]) ∧ Sits w' m P Q c d ∧ (∃ n us, K.Own w' n u us L) ∧ Up w w'
set_option maxRecDepth 100000 in
set_option maxHeartbeats 8000000 in
theorem rturn14_any {g : Gr} {W : Nat} {s : Int} (X : Cx g W s) (m : Me) (a : Int) (o : List Int) (F : Fi g W s m a o o.length 0) (x y : Int) (P Q : Addr) (c d : Nat) (v : Value) (vs : List Int) (w : World) (hm : Sits w m P Q c d) (hL : K.Rw w v (putR g s)) (hN : (putR g s).flatten.length ≤ 1048576) (hNN : (putR g s).length ≤ 1048576) (hu : K.unq (putR g s).flatten = vs.map (Adr s g.1)) (hv : ∀ v ∈ vs, v = 0 ∨ v ∈ ord g) (hvo : ∀ v ∈ vs, v = 0 ∨ v ∈ o) (hn0 : (0 : Int) ∉ vs.map (Adr s g.1)) (ha : ∀ v ∈ g.2.flatten, v = 0 ∨ v ∈ vs) (hvl : vs.length ≤ 1000) :
    Calls Tryz.prog 101 #[YtanhhkdoejnpiaaGreat.rov W (sl P W c) (sl Q W d) (1 - s) a W x y, v] w (TnPst W s m a x y (g.2.map fun row => row.map (Nw g s o)) w) := by
  obtain ⟨t1, t2, o1, t3, t4, t5, t6, t7⟩ := F.each X vs m a o (Nat.le_refl _) hv
  obtain ⟨t9, t8, rfl⟩ := t7 hvo
  have hfit := F.fit X
  have hat := F.at_
  have hWW := X.hW
  have hrg : rgt (1 - s) a W := ⟨X.s', by omega, by omega, by omega⟩
  have hto := turned_at X (Nw_0 X F) hv hn0 ha
  have hFit : K.Fit (putR g s) := ⟨fun xs hx q hq => by
      have h : q ∈ (putR g s).flatten := List.mem_flatten.2 ⟨xs, hx, hq⟩
      rw [putR_flat] at h
      obtain ⟨z, hz, rfl⟩ := List.mem_map.1 h
      exact X.adr_u (X.or0 hz), fun xs hx => by have := row_le hx; omega, by omega⟩
  have HAL := Lib.hid (fun V (k : Up w V) => by
    have h := rall_let9 v (putR g s) V (hL.up k) hN
    rw [hu, List.length_map] at h
    exact h)
  have HEA := Lib.hid (fun V (k : Up w V) u (hS : Sl .u64 V u (vs.map (Adr s g.1))) => by
    have h := reach_any11 m W (1 - s) a W x y P Q c d u (vs.map (Adr s g.1)) V (hm.up k) F.n F.wf hrg rfl hS (fun A hA => by
      obtain ⟨q, hq, rfl⟩ := List.mem_map.1 hA
      exact X.adr_u (hv q hq)) (by rw [List.length_map]; omega) t1 t2
    unfold EaPst at h
    rw [t9, t8, t6, F.n] at h
    exact h)
  have HTU := Lib.hid (fun V (k : Up w V) f t (hf : Sl .u64 V f (vs.map (Adr s g.1))) (ht : Sl .u64 V t (vs.map (Nw g s o1))) => by
    have h := K.rturn_own v f t (putR g s) (vs.map (Adr s g.1)) (vs.map (Nw g s o1)) V (hL.up k) (k_of_sl hf) (k_of_sl ht) hFit
    rw [hto] at h
    exact h)
  clear t1 t2 t3 t4 t5 t6 t7 t8 t9 hm hL hN hNN hu hv hvl hrg F hat hfit hWW X hto hFit hvo hn0 ha
  generalize (g.2.map fun row => row.map (Nw g s o1)) = TL at *
  generalize vs.map (Nw g s o1) = ts at *
  generalize vs.map (Adr s g.1) = fs at *
  generalize vs.length = nv at *
  go_enter Tryz.func101, Tryz.ntmps101
  go_wp2_with (fail)
  obtain ⟨w1, hw1⟩ : ∃ w1, w1 = (w.alloc (.cells #[.int .i64 W, .slice (some P) W c, .slice (some Q) W d, .int .i64 (1 - s), .int .i64 a, .int .i64 W, .int .i64 x, .int .i64 y] 58)).alloc (.cells #[.int .i64 0, .slice none 0 0, .slice none 0 0, .int .i64 0, .int .i64 0, .int .i64 0, .int .i64 0, .int .i64 0] 58) := ⟨_, rfl⟩
  have U1 : Up w w1 := by rw [hw1]; exact ((Up.refl w).alloc _).alloc _
  have bX1 : Blk w1 w.heap.size 58 (rc8 W P c Q d (1 - s) a W x y) := by rw [hw1]; exact (Blk.new w _ _).alloc _
  have bZ1 : Blk w1 (w.heap.size + 1) 58 rz8 := by rw [hw1]; exact Blk.new' _ (by simp) _ _
  rw [← hw1]
  clear hw1
  refine (HAL.out _ U1).mono ?_
  rintro e wA ⟨BA, kA, rfl, sA, uA⟩
  have UA := U1.trans uA
  have bXA := bX1.up uA
  have bZA := bZ1.up uA
  have qX := bXA.cell
  have lX := bXA.lt
  clear U1 uA bX1 bZ1
  go_wp2_with (fail)
  refine (HEA.out _ UA _ sA).mono ?_
  rintro e wE ⟨P5, Q5, c5, d5, B5, k5, rfl, sE, lE, uE⟩
  clear qX lX bXA
  go_upto_region 5 with fail
  obtain ⟨w5, hw5⟩ : ∃ w5, w5 = wE.alloc (.cells #[.int .i64 W, .slice (some P5) W c5, .slice (some Q5) W d5, .int .i64 (1 - s), .int .i64 a, .int .i64 W, .int .i64 x, .int .i64 y] 58) := ⟨_, rfl⟩
  have bY : Blk w5 wE.heap.size 58 #[.int .i64 W, .slice (some P5) W c5, .slice (some Q5) W d5, .int .i64 (1 - s), .int .i64 a, .int .i64 W, .int .i64 x, .int .i64 y] := by rw [hw5]; exact Blk.new wE _ _
  have u5 : Up wE w5 := by rw [hw5]; exact (Up.refl wE).alloc _
  rw [← hw5]
  have U5 := UA.trans (uE.trans u5)
  have bZ5 := bZA.up (uE.trans u5)
  have s5 := sE.up u5
  have lE5 := lE.up u5
  have lA5 := sA.up (uE.trans u5)
  have hgY : w.heap.size + 1 < wE.heap.size := (bZA.up uE).lt
  obtain ⟨GY, hGY⟩ : ∃ GY, wE.heap.size = GY := ⟨_, rfl⟩
  rw [hGY] at bY hgY ⊢
  clear hw5 hGY u5 uE sE lE sA bZA UA
  have hZY : GY ≠ w.heap.size + 1 := by omega
  have HT5 := Lib.hid (fun V (u : Up w5 V) => HTU.out V (U5.trans u) _ _ (lA5.up u) (lE5.up u))
  have HK5 := Lib.hid (fun V (u : Up w5 V) => (fun zi => (bY.up u).cell zi : (∀ zi, V.cell? ⟨GY, zi, none⟩ = (#[.int .i64 W, .slice (some P5) W c5, .slice (some Q5) W d5, .int .i64 (1 - s), .int .i64 a, .int .i64 W, .int .i64 x, .int .i64 y] : Array Value)[zi]?)))
  have HKC := Lib.hid (fun V (u : Up w5 V) => (fun zi => (blk_far8 (bY.up u) hZY (.int .i64 W) (.slice (some P5) W c5) (.slice (some Q5) W d5) (.int .i64 (1 - s)) (.int .i64 a) (.int .i64 W) (.int .i64 x) (.int .i64 y)).cell zi : (∀ zi, ((((((((V.setCell ⟨(w.heap.size + 1), 0, none⟩ (.int .i64 W)).setCell ⟨(w.heap.size + 1), 1, none⟩ (.slice (some P5) W c5)).setCell ⟨(w.heap.size + 1), 2, none⟩ (.slice (some Q5) W d5)).setCell ⟨(w.heap.size + 1), 3, none⟩ (.int .i64 (1 - s))).setCell ⟨(w.heap.size + 1), 4, none⟩ (.int .i64 a)).setCell ⟨(w.heap.size + 1), 5, none⟩ (.int .i64 W)).setCell ⟨(w.heap.size + 1), 6, none⟩ (.int .i64 x)).setCell ⟨(w.heap.size + 1), 7, none⟩ (.int .i64 y)).cell? ⟨GY, zi, none⟩ = (#[.int .i64 W, .slice (some P5) W c5, .slice (some Q5) W d5, .int .i64 (1 - s), .int .i64 a, .int .i64 W, .int .i64 x, .int .i64 y] : Array Value)[zi]?)))
  have HFA := Lib.hid (fun V (u : Up w5 V) => (⟨(bZ5.up u).set8 (.int .i64 W) (.slice (some P5) W c5) (.slice (some Q5) W d5) (.int .i64 (1 - s)) (.int .i64 a) (.int .i64 W) (.int .i64 x) (.int .i64 y), (s5.up u).far8 (bZ5.up u) (.int .i64 W) (.slice (some P5) W c5) (.slice (some Q5) W d5) (.int .i64 (1 - s)) (.int .i64 a) (.int .i64 W) (.int .i64 x) (.int .i64 y), (U5.trans u).set8 (by omega) (.int .i64 W) (.slice (some P5) W c5) (.slice (some Q5) W d5) (.int .i64 (1 - s)) (.int .i64 a) (.int .i64 W) (.int .i64 x) (.int .i64 y)⟩ : Blk ((((((((V.setCell ⟨(w.heap.size + 1), 0, none⟩ (.int .i64 W)).setCell ⟨(w.heap.size + 1), 1, none⟩ (.slice (some P5) W c5)).setCell ⟨(w.heap.size + 1), 2, none⟩ (.slice (some Q5) W d5)).setCell ⟨(w.heap.size + 1), 3, none⟩ (.int .i64 (1 - s))).setCell ⟨(w.heap.size + 1), 4, none⟩ (.int .i64 a)).setCell ⟨(w.heap.size + 1), 5, none⟩ (.int .i64 W)).setCell ⟨(w.heap.size + 1), 6, none⟩ (.int .i64 x)).setCell ⟨(w.heap.size + 1), 7, none⟩ (.int .i64 y)) (w.heap.size + 1) 58 #[.int .i64 W, .slice (some P5) W c5, .slice (some Q5) W d5, .int .i64 (1 - s), .int .i64 a, .int .i64 W, .int .i64 x, .int .i64 y] ∧ Sits ((((((((V.setCell ⟨(w.heap.size + 1), 0, none⟩ (.int .i64 W)).setCell ⟨(w.heap.size + 1), 1, none⟩ (.slice (some P5) W c5)).setCell ⟨(w.heap.size + 1), 2, none⟩ (.slice (some Q5) W d5)).setCell ⟨(w.heap.size + 1), 3, none⟩ (.int .i64 (1 - s))).setCell ⟨(w.heap.size + 1), 4, none⟩ (.int .i64 a)).setCell ⟨(w.heap.size + 1), 5, none⟩ (.int .i64 W)).setCell ⟨(w.heap.size + 1), 6, none⟩ (.int .i64 x)).setCell ⟨(w.heap.size + 1), 7, none⟩ (.int .i64 y)) m P5 Q5 c5 d5 ∧ Up w ((((((((V.setCell ⟨(w.heap.size + 1), 0, none⟩ (.int .i64 W)).setCell ⟨(w.heap.size + 1), 1, none⟩ (.slice (some P5) W c5)).setCell ⟨(w.heap.size + 1), 2, none⟩ (.slice (some Q5) W d5)).setCell ⟨(w.heap.size + 1), 3, none⟩ (.int .i64 (1 - s))).setCell ⟨(w.heap.size + 1), 4, none⟩ (.int .i64 a)).setCell ⟨(w.heap.size + 1), 5, none⟩ (.int .i64 W)).setCell ⟨(w.heap.size + 1), 6, none⟩ (.int .i64 x)).setCell ⟨(w.heap.size + 1), 7, none⟩ (.int .i64 y))))
  have HRF := Lib.hid (fun V (u : Up w5 V) n t us (h : K.Own V n t us TL) => (own_k_far8 h (bZ5.up u) (.int .i64 W) (.slice (some P5) W c5) (.slice (some Q5) W d5) (.int .i64 (1 - s)) (.int .i64 a) (.int .i64 W) (.int .i64 x) (.int .i64 y) : K.Own ((((((((V.setCell ⟨(w.heap.size + 1), 0, none⟩ (.int .i64 W)).setCell ⟨(w.heap.size + 1), 1, none⟩ (.slice (some P5) W c5)).setCell ⟨(w.heap.size + 1), 2, none⟩ (.slice (some Q5) W d5)).setCell ⟨(w.heap.size + 1), 3, none⟩ (.int .i64 (1 - s))).setCell ⟨(w.heap.size + 1), 4, none⟩ (.int .i64 a)).setCell ⟨(w.heap.size + 1), 5, none⟩ (.int .i64 W)).setCell ⟨(w.heap.size + 1), 6, none⟩ (.int .i64 x)).setCell ⟨(w.heap.size + 1), 7, none⟩ (.int .i64 y)) n t us TL))
  have HZB := Lib.hid bZ5
  have W0 : Up w5 w5.drew := (Up.refl w5).drew
  have qY := bY.cell
  have lY := bY.lt
  clear bY bZ5 s5 lE5 lA5 U5 hZY hgY
  go_wp2_with (fail)
  go_region_held3 (fun w' => (∀ zi, w'.cell? ⟨GY, zi, none⟩ = (#[.int .i64 W, .slice (some P5) W c5, .slice (some Q5) W d5, .int .i64 (1 - s), .int .i64 a, .int .i64 W, .int .i64 x, .int .i64 y] : Array Value)[zi]?))
    (first
      | with_reducible exact HK5.out _ (by assumption)
      | with_reducible exact HKC.out _ UZ)
    ((go_at_call 136; ((with_reducible refine (HT5.out _ (by assumption)).mono ?_); rintro e w6 ⟨u6, us6, rfl, hT, k6⟩; have UZ : Up w5 w6 := Up.trans (by assumption) k6; have zb := HZB.out.up UZ; have zc := zb.cell; have zf := zb.frozen; have zl := zb.lt)))
  go_wp2
  refine bodyPost_ret (ret_room3 rfl _ _ _ W (1 - s) a W x y (sl P5 W c5) (sl Q5 W d5) _ _ rfl (HFA.out _ UZ).1 rfl rfl) rfl ?_
  exact ⟨P5, Q5, c5, d5, _, rfl, (HFA.out _ UZ).2.1, ⟨_, _, HRF.out _ UZ _ _ _ hT⟩, (HFA.out _ UZ).2.2⟩
end Go.Proofs.YtanhhkdoejnpiaaGreat.G
/- The document's Whole (dovecoteref14.Whole): contract. -/
namespace Go.Proofs.YtanhhkdoejnpiaaGreat.G
open Go.Joins Go.ChangeShapes Go.WideShapes Go.ChangeAt Go.RowKit Go.Deep Go.Shelf Go.Maps
set_option linter.unusedVariables false
set_option linter.unusedSimpArgs false

theorem set9 {w : World} {m : Me} {p q : Addr} {c d g : Nat} {t : TypeId} {a0 a1 a2 a3 a4 a5 a6 a7 a8 : Value} (h : Sits w m p q c d) (h0 : Blk w g t #[a0, a1, a2, a3, a4, a5, a6, a7, a8]) (u0 u1 u2 u3 u4 u5 u6 u7 u8 : Value) :
    Sits (((((((((w.setCell ⟨g, 0, none⟩ u0).setCell ⟨g, 1, none⟩ u1).setCell ⟨g, 2, none⟩ u2).setCell ⟨g, 3, none⟩ u3).setCell ⟨g, 4, none⟩ u4).setCell ⟨g, 5, none⟩ u5).setCell ⟨g, 6, none⟩ u6).setCell ⟨g, 7, none⟩ u7).setCell ⟨g, 8, none⟩ u8) m p q c d ∧ Blk (((((((((w.setCell ⟨g, 0, none⟩ u0).setCell ⟨g, 1, none⟩ u1).setCell ⟨g, 2, none⟩ u2).setCell ⟨g, 3, none⟩ u3).setCell ⟨g, 4, none⟩ u4).setCell ⟨g, 5, none⟩ u5).setCell ⟨g, 6, none⟩ u6).setCell ⟨g, 7, none⟩ u7).setCell ⟨g, 8, none⟩ u8) g t #[u0, u1, u2, u3, u4, u5, u6, u7, u8] := by
  have h1 : Blk (w.setCell ⟨g, 0, none⟩ u0) g t #[u0, a1, a2, a3, a4, a5, a6, a7, a8] := h0.set_ 0 u0
  have s1 : Sits (w.setCell ⟨g, 0, none⟩ u0) m p q c d := h.far h0 (by simp) u0
  have h2 : Blk ((w.setCell ⟨g, 0, none⟩ u0).setCell ⟨g, 1, none⟩ u1) g t #[u0, u1, a2, a3, a4, a5, a6, a7, a8] := h1.set_ 1 u1
  have s2 : Sits ((w.setCell ⟨g, 0, none⟩ u0).setCell ⟨g, 1, none⟩ u1) m p q c d := s1.far h1 (by simp) u1
  have h3 : Blk (((w.setCell ⟨g, 0, none⟩ u0).setCell ⟨g, 1, none⟩ u1).setCell ⟨g, 2, none⟩ u2) g t #[u0, u1, u2, a3, a4, a5, a6, a7, a8] := h2.set_ 2 u2
  have s3 : Sits (((w.setCell ⟨g, 0, none⟩ u0).setCell ⟨g, 1, none⟩ u1).setCell ⟨g, 2, none⟩ u2) m p q c d := s2.far h2 (by simp) u2
  have h4 : Blk ((((w.setCell ⟨g, 0, none⟩ u0).setCell ⟨g, 1, none⟩ u1).setCell ⟨g, 2, none⟩ u2).setCell ⟨g, 3, none⟩ u3) g t #[u0, u1, u2, u3, a4, a5, a6, a7, a8] := h3.set_ 3 u3
  have s4 : Sits ((((w.setCell ⟨g, 0, none⟩ u0).setCell ⟨g, 1, none⟩ u1).setCell ⟨g, 2, none⟩ u2).setCell ⟨g, 3, none⟩ u3) m p q c d := s3.far h3 (by simp) u3
  have h5 : Blk (((((w.setCell ⟨g, 0, none⟩ u0).setCell ⟨g, 1, none⟩ u1).setCell ⟨g, 2, none⟩ u2).setCell ⟨g, 3, none⟩ u3).setCell ⟨g, 4, none⟩ u4) g t #[u0, u1, u2, u3, u4, a5, a6, a7, a8] := h4.set_ 4 u4
  have s5 : Sits (((((w.setCell ⟨g, 0, none⟩ u0).setCell ⟨g, 1, none⟩ u1).setCell ⟨g, 2, none⟩ u2).setCell ⟨g, 3, none⟩ u3).setCell ⟨g, 4, none⟩ u4) m p q c d := s4.far h4 (by simp) u4
  have h6 : Blk ((((((w.setCell ⟨g, 0, none⟩ u0).setCell ⟨g, 1, none⟩ u1).setCell ⟨g, 2, none⟩ u2).setCell ⟨g, 3, none⟩ u3).setCell ⟨g, 4, none⟩ u4).setCell ⟨g, 5, none⟩ u5) g t #[u0, u1, u2, u3, u4, u5, a6, a7, a8] := h5.set_ 5 u5
  have s6 : Sits ((((((w.setCell ⟨g, 0, none⟩ u0).setCell ⟨g, 1, none⟩ u1).setCell ⟨g, 2, none⟩ u2).setCell ⟨g, 3, none⟩ u3).setCell ⟨g, 4, none⟩ u4).setCell ⟨g, 5, none⟩ u5) m p q c d := s5.far h5 (by simp) u5
  have h7 : Blk (((((((w.setCell ⟨g, 0, none⟩ u0).setCell ⟨g, 1, none⟩ u1).setCell ⟨g, 2, none⟩ u2).setCell ⟨g, 3, none⟩ u3).setCell ⟨g, 4, none⟩ u4).setCell ⟨g, 5, none⟩ u5).setCell ⟨g, 6, none⟩ u6) g t #[u0, u1, u2, u3, u4, u5, u6, a7, a8] := h6.set_ 6 u6
  have s7 : Sits (((((((w.setCell ⟨g, 0, none⟩ u0).setCell ⟨g, 1, none⟩ u1).setCell ⟨g, 2, none⟩ u2).setCell ⟨g, 3, none⟩ u3).setCell ⟨g, 4, none⟩ u4).setCell ⟨g, 5, none⟩ u5).setCell ⟨g, 6, none⟩ u6) m p q c d := s6.far h6 (by simp) u6
  have h8 : Blk ((((((((w.setCell ⟨g, 0, none⟩ u0).setCell ⟨g, 1, none⟩ u1).setCell ⟨g, 2, none⟩ u2).setCell ⟨g, 3, none⟩ u3).setCell ⟨g, 4, none⟩ u4).setCell ⟨g, 5, none⟩ u5).setCell ⟨g, 6, none⟩ u6).setCell ⟨g, 7, none⟩ u7) g t #[u0, u1, u2, u3, u4, u5, u6, u7, a8] := h7.set_ 7 u7
  have s8 : Sits ((((((((w.setCell ⟨g, 0, none⟩ u0).setCell ⟨g, 1, none⟩ u1).setCell ⟨g, 2, none⟩ u2).setCell ⟨g, 3, none⟩ u3).setCell ⟨g, 4, none⟩ u4).setCell ⟨g, 5, none⟩ u5).setCell ⟨g, 6, none⟩ u6).setCell ⟨g, 7, none⟩ u7) m p q c d := s7.far h7 (by simp) u7
  have h9 : Blk (((((((((w.setCell ⟨g, 0, none⟩ u0).setCell ⟨g, 1, none⟩ u1).setCell ⟨g, 2, none⟩ u2).setCell ⟨g, 3, none⟩ u3).setCell ⟨g, 4, none⟩ u4).setCell ⟨g, 5, none⟩ u5).setCell ⟨g, 6, none⟩ u6).setCell ⟨g, 7, none⟩ u7).setCell ⟨g, 8, none⟩ u8) g t #[u0, u1, u2, u3, u4, u5, u6, u7, u8] := h8.set_ 8 u8
  have s9 : Sits (((((((((w.setCell ⟨g, 0, none⟩ u0).setCell ⟨g, 1, none⟩ u1).setCell ⟨g, 2, none⟩ u2).setCell ⟨g, 3, none⟩ u3).setCell ⟨g, 4, none⟩ u4).setCell ⟨g, 5, none⟩ u5).setCell ⟨g, 6, none⟩ u6).setCell ⟨g, 7, none⟩ u7).setCell ⟨g, 8, none⟩ u8) m p q c d := s8.far h8 (by simp) u8
  exact ⟨s9, h9⟩
theorem up9 {a b : World} (h : Up a b) {g : Nat} (hg : a.heap.size ≤ g) (u0 u1 u2 u3 u4 u5 u6 u7 u8 : Value) : Up a (((((((((b.setCell ⟨g, 0, none⟩ u0).setCell ⟨g, 1, none⟩ u1).setCell ⟨g, 2, none⟩ u2).setCell ⟨g, 3, none⟩ u3).setCell ⟨g, 4, none⟩ u4).setCell ⟨g, 5, none⟩ u5).setCell ⟨g, 6, none⟩ u6).setCell ⟨g, 7, none⟩ u7).setCell ⟨g, 8, none⟩ u8) :=
  ((((((((h.setCell hg u0).setCell hg u1).setCell hg u2).setCell hg u3).setCell hg u4).setCell hg u5).setCell hg u6).setCell hg u7).setCell hg u8
theorem own_far9 {w : World} {n₀ : Nat} {e : TypeId} {size n b : Nat} {v : Value} {xs : List Value} (h : w.ownsRow n₀ e size v n xs) (hb : v.ownBlock ≠ some b) (u0 u1 u2 u3 u4 u5 u6 u7 u8 : Value) : (((((((((w.setCell ⟨b, 0, none⟩ u0).setCell ⟨b, 1, none⟩ u1).setCell ⟨b, 2, none⟩ u2).setCell ⟨b, 3, none⟩ u3).setCell ⟨b, 4, none⟩ u4).setCell ⟨b, 5, none⟩ u5).setCell ⟨b, 6, none⟩ u6).setCell ⟨b, 7, none⟩ u7).setCell ⟨b, 8, none⟩ u8).ownsRow n₀ e size v n xs :=
  ((((((((ownsRow_setCell_other h hb u0) |> fun h => ownsRow_setCell_other h hb u1) |> fun h => ownsRow_setCell_other h hb u2) |> fun h => ownsRow_setCell_other h hb u3) |> fun h => ownsRow_setCell_other h hb u4) |> fun h => ownsRow_setCell_other h hb u5) |> fun h => ownsRow_setCell_other h hb u6) |> fun h => ownsRow_setCell_other h hb u7) |> fun h => ownsRow_setCell_other h hb u8
theorem own_k_far9 {w : World} {n₀ b : Nat} {t : TypeId} {v : Value} {us : List Value} {K' : List (List Int)} {cs : Array Value} (h : K.Own w n₀ v us K') (hb : Blk w b t cs) (h1 : 22 ≠ t) (h2 : 67 ≠ t) (u0 u1 u2 u3 u4 u5 u6 u7 u8 : Value) : K.Own (((((((((w.setCell ⟨b, 0, none⟩ u0).setCell ⟨b, 1, none⟩ u1).setCell ⟨b, 2, none⟩ u2).setCell ⟨b, 3, none⟩ u3).setCell ⟨b, 4, none⟩ u4).setCell ⟨b, 5, none⟩ u5).setCell ⟨b, 6, none⟩ u6).setCell ⟨b, 7, none⟩ u7).setCell ⟨b, 8, none⟩ u8) n₀ v us K' :=
  ⟨own_far9 h.1 (own_row_ne h.1 hb h1).symm u0 u1 u2 u3 u4 u5 u6 u7 u8, h.2.1, fun j u xs q1 q2 => own_far9 (h.2.2 j u xs q1 q2) (own_row_ne (h.2.2 j u xs q1 q2) hb h2).symm u0 u1 u2 u3 u4 u5 u6 u7 u8⟩
theorem ret_flip {fn : Func} {p u : Tmp} (h : fn.results = #[.cell p 60, .tmp u]) (tmps : Array Value) (w : World) (g : Nat) (n s a l x y : Int) (A B R e : Value)
    (hp : tmps.getD p undef = .pointer (some ⟨g, 0, none⟩)) (hg : Blk w g 60 #[.int .i64 n, A, B, .int .i64 s, .int .i64 a, .int .i64 l, .int .i64 x, .int .i64 y, R]) (he : tmps.getD u undef = e) :
    (results fn tmps).run Tryz.prog w = .ok (.tuple #[.agg #[.int .i64 n, A, B, .int .i64 s, .int .i64 a, .int .i64 l, .int .i64 x, .int .i64 y, R], e]) w := by
  have hp' : tmps[p]?.getD undef = .pointer (some ⟨g, 0, none⟩) := by simpa using hp
  have he' : tmps[u]?.getD undef = e := by simpa using he
  simp [results, h, hp', he', asAddr, run_loadVar_row w g 60 60 _ _ _ hg Tryz.underlying60 rfl (by kernel_rfl)]

/-- What Whole leaves. -/
def WhPst (g : Gr) (W : Nat) (s : Int) (w : World) (e : Ending) (w' : World) : Prop :=
  ∃ (m : Me) (a : Int) (o : List Int) (P Q : Addr) (c d : Nat) (u : Value), e = .returned (.tuple #[.agg #[.int .i64 W, .slice (some P) W c, .slice (some Q) W d, .int .i64 (1 - s), .int .i64 a, .int .i64 W, .int .i64 0, .int .i64 0, u], .int .i64 0]) ∧ Fi g W s m a o o.length 0 ∧ (∀ v ∈ g.2.flatten, v = 0 ∨ v ∈ o) ∧ Sits w' (m.clr s) P Q c d ∧ (∃ n us, K.Own w' n u us (g.2.map fun row => row.map (Nw g s o))) ∧ Up w w'
set_option maxRecDepth 100000 in
set_option maxHeartbeats 8000000 in
theorem rwhole_any {g : Gr} {W : Nat} {s : Int} (X : Cx g W s) (m0 : Me) (a : Int) (F : Fi g W s m0 a [] 0 0) (x y : Int) (P Q : Addr) (c d : Nat) (v : Value) (w : World) (hm : Sits w m0 P Q c d) (hL : K.Rw w v (putR g s)) (hN : (putR g s).flatten.length ≤ 1048576) (hNN : (putR g s).length ≤ 1048576) :
    Calls Tryz.prog 60 #[YtanhhkdoejnpiaaGreat.rov W (sl P W c) (sl Q W d) (1 - s) a W x y, .int .i64 0, v, .slice none 0 0] w (WhPst g W s w) := by
  obtain ⟨vs, hu, hv, ha, hnd, hn0, hvl⟩ := X.vs
  have HFN := Lib.hid (fun V (k : Up w V) => rfinish_any X m0 a F x y P Q c d v vs V (hm.up k) (hL.up k) hN hu hv hvl)
  have HTN := Lib.hid (fun V (k : Up w V) m a o P Q c d (F : Fi g W s m a o o.length 0) (hvo : ∀ v ∈ vs, v = 0 ∨ v ∈ o) (hm : Sits V m P Q c d) => rturn14_any X m a o F x y P Q c d v vs V hm (hL.up k) hN hNN hu hv hvo hn0 ha hvl)
  have HCL := Lib.hid (fun V m P Q c d (hn : m.n = W) (hm : Sits V m P Q c d) => show Calls Tryz.prog 59 #[mev W P Q c d, .int .i64 s] V (fun e w' => ∃ P' Q' c' d', e = .returned (mev W P' Q' c' d') ∧ Sits w' (m.clr s) P' Q' c' d' ∧ Up V w') from by
    have h := rclear_any m s P Q c d V hm
    unfold Gives at h
    rw [clr_n, hn] at h
    exact h)
  have HVO := Lib.hid (fun (o : List Int) (h : ∀ v ∈ vs, v = 0 ∨ v ∈ o) => (fun v hv => by
    rcases ha v hv with q | q
    · exact .inl q
    · exact h v q : ∀ v ∈ g.2.flatten, v = 0 ∨ v ∈ o))
  have hs2 : IntKind.i64.wrap (1 - (1 - s)) = s := by have := X.hs; rw [IntKind.wrap_i64]; omega
  have hs0 := X.hs
  clear F hm hL hN hNN hu hv ha hnd hn0 hvl X
  go_enter Tryz.func60, Tryz.ntmps60
  go_wp2_with (fail)
  obtain ⟨w1, hw1⟩ : ∃ w1, w1 = (w.alloc (.cells #[.int .i64 W, .slice (some P) W c, .slice (some Q) W d, .int .i64 (1 - s), .int .i64 a, .int .i64 W, .int .i64 x, .int .i64 y] 58)).alloc (.cells #[.int .i64 0, .slice none 0 0, .slice none 0 0, .int .i64 0, .int .i64 0, .int .i64 0, .int .i64 0, .int .i64 0, .slice none 0 0] 60) := ⟨_, rfl⟩
  have U1 : Up w w1 := by rw [hw1]; exact ((Up.refl w).alloc _).alloc _
  have bZ1 : Blk w1 (w.heap.size + 1) 60 #[.int .i64 0, .slice none 0 0, .slice none 0 0, .int .i64 0, .int .i64 0, .int .i64 0, .int .i64 0, .int .i64 0, .slice none 0 0] := by rw [hw1]; exact Blk.new' _ (by simp) _ _
  rw [← hw1]
  clear hw1
  refine (HFN.out _ U1).mono ?_
  rintro e w5 ⟨m5, a5, o5, P5, Q5, c5, d5, A5, n5, k5, rfl, F5, v5, s5, u5⟩
  go_wp2_with (fail)
  have u6 : Up w5 (w5.alloc (.cells #[.int .i64 W, .slice (some P5) W c5, .slice (some Q5) W d5, .int .i64 (1 - s), .int .i64 a5, .int .i64 W, .int .i64 x, .int .i64 y] 58)) := (Up.refl w5).alloc _
  have HF5 := Lib.hid F5
  have HV5 := Lib.hid (HVO.out o5 v5)
  have HN5 := Lib.hid F5.n
  refine (HTN.out _ (U1.trans (u5.trans u6)) m5 a5 o5 P5 Q5 c5 d5 F5 v5 (s5.up u6)).mono ?_
  rintro e w7 ⟨P7, Q7, c7, d7, u7, rfl, s7, ⟨n7, us7, h7⟩, k7⟩
  obtain ⟨A7, g7, rfl⟩ := own_slice h7.1
  have hsu := h7.1
  have U7 := U1.trans ((u5.trans u6).trans k7)
  have bZ7 := bZ1.up ((u5.trans u6).trans k7)
  clear F5 v5 s5 u5 u6 k7 U1 bZ1
  go_wp2_with (fail)
  have bY := Blk.new w7 58 #[.int .i64 W, .slice (some P7) W c7, .slice (some Q7) W d7, .int .i64 (1 - s), .int .i64 a5, .int .i64 W, .int .i64 x, .int .i64 y]
  have k8 : Up w7 (w7.alloc (.cells #[.int .i64 W, .slice (some P7) W c7, .slice (some Q7) W d7, .int .i64 (1 - s), .int .i64 a5, .int .i64 W, .int .i64 x, .int .i64 y] 58)) := (Up.refl w7).alloc _
  refine (HCL.out _ m5 P7 Q7 c7 d7 HN5.out (s7.up k8)).mono ?_
  rintro e w9 ⟨P9, Q9, c9, d9, rfl, s9, k9⟩
  have bY9 := bY.up k9
  have bZ9 := bZ7.up (k8.trans k9)
  have U9 := U7.trans (k8.trans k9)
  have h9 := h7.up (k8.trans k9)
  have h79 := set9 s9 bZ9 (.int .i64 W) (.slice (some P9) W c9) (.slice (some Q9) W d9) (.int .i64 (1 - s)) (.int .i64 a5) (.int .i64 W) (.int .i64 0) (.int .i64 0) (.slice A7 us7.length g7)
  have kM : ∀ V : World, Up V (V.alloc (.cells #[.int .i64 W, .slice (some P9) W c9, .slice (some Q9) W d9] 25)) := fun V => (Up.refl V).alloc _
  have HZF := Lib.hid (h79.2.up (kM _))
  have HSF := Lib.hid (h79.1.up (kM _))
  have HUF := Lib.hid ((up9 U9 (by omega : w.heap.size ≤ w.heap.size + 1) (.int .i64 W) (.slice (some P9) W c9) (.slice (some Q9) W d9) (.int .i64 (1 - s)) (.int .i64 a5) (.int .i64 W) (.int .i64 0) (.int .i64 0) (.slice A7 us7.length g7)).trans (kM _))
  have HOF := Lib.hid ((own_k_far9 h9 bZ9 (by decide) (by decide) (.int .i64 W) (.slice (some P9) W c9) (.slice (some Q9) W d9) (.int .i64 (1 - s)) (.int .i64 a5) (.int .i64 W) (.int .i64 0) (.int .i64 0) (.slice A7 us7.length g7)).up (kM _))
  have qY := bY9.cell
  have lY := bY9.lt
  have qZ := bZ9.cell
  have fZ := bZ9.frozen
  have lZ := bZ9.lt
  generalize w7.heap.size = GY at *
  clear bY k8 bY9 bZ9 U9 h9 h79 kM U7 bZ7 h7 s7 k9 s9 hsu
  go_wp2
  refine bodyPost_ret (ret_flip rfl _ _ _ W (1 - s) a5 W 0 0 (.slice (some P9) W c9) (.slice (some Q9) W d9) (.slice A7 us7.length g7) _ rfl HZF.out rfl) rfl ?_
  exact ⟨m5, a5, o5, P9, Q9, c9, d9, _, rfl, HF5.out, HV5.out, HSF.out, ⟨_, _, HOF.out⟩, HUF.out⟩
end Go.Proofs.YtanhhkdoejnpiaaGreat.G
/- The document's Copy (dovecoteref14.Copy) of what was put: contract. -/
namespace Go.Proofs.YtanhhkdoejnpiaaGreat.G
open Go.Joins Go.ChangeShapes Go.WideShapes Go.ChangeAt Go.RowKit Go.Deep Go.Shelf Go.Maps
set_option linter.unusedVariables false
set_option linter.unusedSimpArgs false

/-- What Copy leaves. -/
def CyPst (g : Gr) (W : Nat) (s : Int) (w : World) (e : Ending) (w' : World) : Prop :=
  ∃ (m : Me) (a : Int) (o : List Int) (P Q : Addr) (c d : Nat) (A : Option Addr) (n k : Nat), e = .returned (.tuple #[.agg #[.int .i64 W, .slice (some P) W c, .slice (some Q) W d, .int .i64 (1 - s), .int .i64 a, .int .i64 W, .int .i64 0, .int .i64 0, .slice A n k], .int .i64 0]) ∧ Fi g W s m a o o.length 0 ∧ (∀ v ∈ g.2.flatten, v = 0 ∨ v ∈ o) ∧ Sits w' (m.clr s) P Q c d ∧ K.Rw w' (.slice A n k) (g.2.map fun row => row.map (Nw g s o)) ∧ Up w w'
set_option maxRecDepth 100000 in
set_option maxHeartbeats 8000000 in
theorem rcopy_any {g : Gr} {W : Nat} {s : Int} (X : Cx g W s) (hwf : (putG g W s).wf) (P Q : Addr) (c d : Nat) (v : Value) (w : World) (hm : Sits w (putG g W s) P Q c d) (hL : K.Rw w v (putR g s)) (hN : (putR g s).flatten.length ≤ 1048576) (hNN : (putR g s).length ≤ 1048576) :
    Calls Tryz.prog 24 #[mev W P Q c d, .int .i64 s, v] w (CyPst g W s w) := by
  have hmn : (putG g W s).n = W := mk_n _ _ _
  have hrt : rt W W W = true := by
    have h1 := X.h16
    have h2 := X.hW
    unfold rt
    simp
    omega
  have HMR := Lib.hid (fun V => by
    have h := rmright_any W (some P) (some Q) W W c d V
    rw [hrt] at h
    exact h)
  have HCL := Lib.hid (fun V (k : Up w V) => show Calls Tryz.prog 59 #[mev W P Q c d, .int .i64 (1 - s)] V (fun e w' => ∃ P' Q' c' d', e = .returned (mev W P' Q' c' d') ∧ Sits w' ((putG g W s).clr (1 - s)) P' Q' c' d' ∧ Up V w') from by
    have h := rclear_any (putG g W s) (1 - s) P Q c d V (hm.up k)
    unfold Gives at h
    rw [clr_n, hmn] at h
    exact h)
  have HWH := Lib.hid (fun V (k : Up w V) P Q c d (hS : Sits V ((putG g W s).clr (1 - s)) P Q c d) => rwhole_any X _ 0 (Fi.start X hwf) 0 0 P Q c d v V hS (hL.up k) hN hNN)
  have hd1 : IntKind.i64.wrap (1 - s) = 1 - s := by have := X.hs; rw [IntKind.wrap_i64]; omega
  have hs0 := X.hs
  have hd2 : (s = 0 ∨ s = 1) := X.hs
  clear hm hL hN hNN hmn hrt hwf X
  generalize (putG g W s).clr (1 - s) = m0 at *
  have HM0 := Lib.hid ((Blk.new w 25 #[.int .i64 W, .slice (some P) W c, .slice (some Q) W d]).alloc (.cells #[.int .i64 0, .slice none 0 0, .slice none 0 0, .int .i64 0, .int .i64 0, .int .i64 0, .int .i64 0, .int .i64 0, .slice none 0 0] 60))
  have HZ0 := Lib.hid (Blk.new' (w.alloc (.cells #[.int .i64 W, .slice (some P) W c, .slice (some Q) W d] 25)) (g := w.heap.size + 1) (by simp) 60 #[.int .i64 0, .slice none 0 0, .slice none 0 0, .int .i64 0, .int .i64 0, .int .i64 0, .int .i64 0, .int .i64 0, .slice none 0 0])
  have HU0 := Lib.hid (((Up.refl w).alloc (.cells #[.int .i64 W, .slice (some P) W c, .slice (some Q) W d] 25)).alloc (.cells #[.int .i64 0, .slice none 0 0, .slice none 0 0, .int .i64 0, .int .i64 0, .int .i64 0, .int .i64 0, .int .i64 0, .slice none 0 0] 60))
  go_enter Tryz.func24, Tryz.ntmps24
  go_wp2_with (fail)
  generalize hW1 : ((w.alloc (.cells #[.int .i64 W, .slice (some P) W c, .slice (some Q) W d] 25)).alloc (.cells #[.int .i64 0, .slice none 0 0, .slice none 0 0, .int .i64 0, .int .i64 0, .int .i64 0, .int .i64 0, .int .i64 0, .slice none 0 0] 60)) = w1 at *
  refine (HMR.out _).mono ?_
  rintro e w2 ⟨rfl, k2⟩
  have U2 := HU0.out.trans k2
  have bM2 := HM0.out.up k2
  have bZ2 := HZ0.out.up k2
  have HKP := Lib.hid (fun V (u : Up w2 V) => (fun zi => (bM2.up u).cell zi : (∀ zi, V.cell? ⟨w.heap.size, zi, none⟩ = (#[.int .i64 W, .slice (some P) W c, .slice (some Q) W d] : Array Value)[zi]?)))
  have HC2 := Lib.hid (fun V (u : Up w2 V) => HCL.out V (U2.trans u))
  have HU2 := Lib.hid U2
  have HZ2 := Lib.hid bZ2
  have V0 : Up w2 w2.drew := (Up.refl w2).drew
  have qM := bM2.cell
  have lM := bM2.lt
  clear k2 U2 bM2 bZ2
  rcases hd2 with rfl | rfl
  · simp only [Int.sub_zero] at HC2 HWH hd1
    go_wp2_with (fail)
    go_region_held3 (fun w' => (∀ zi, w'.cell? ⟨w.heap.size, zi, none⟩ = (#[.int .i64 W, .slice (some P) W c, .slice (some Q) W d] : Array Value)[zi]?))
      (first
        | with_reducible exact HKP.out _ (by assumption)
        | with_reducible exact HKP.out _ (((Up.refl w2).alloc _).drew)
        | with_reducible exact HKP.out _ (Up.set8 UC (Nat.le_refl _) _ _ _ _ _ _ _ _)
        | with_reducible exact HKP.out _ (UC.alloc _))
      ((go_at_call 59; ((with_reducible refine (HC2.out _ (by first | with_reducible assumption | with_reducible exact ((Up.refl w2).alloc _).drew)).mono ?_); rintro e w5 ⟨P5, Q5, c5, d5, rfl, s5, k5⟩; have UC : Up w2 w5 := Up.trans (by first | with_reducible assumption | with_reducible exact ((Up.refl w2).alloc _).drew) k5; (try (have MB := ((Blk.new w2 58 rz8).drew).up k5; have mc := MB.cell; have mf := MB.frozen; have ml := MB.lt)))))
    all_goals
      first
        | (obtain ⟨W7, hW7⟩ : ∃ W7, W7 = w5.alloc (.cells #[.int .i64 W, .slice (some P5) W c5, .slice (some Q5) W d5, .int .i64 1, .int .i64 0, .int .i64 W, .int .i64 0, .int .i64 0] 58) := ⟨_, rfl⟩
           rw [← hW7]
           have bB : Blk W7 w5.heap.size 58 #[.int .i64 W, .slice (some P5) W c5, .slice (some Q5) W d5, .int .i64 1, .int .i64 0, .int .i64 W, .int .i64 0, .int .i64 0] := by rw [hW7]; exact Blk.new w5 _ _
           have KW7 : Up w2 W7 := by rw [hW7]; exact UC.alloc _
           have S7 : Sits W7 m0 P5 Q5 c5 d5 := by rw [hW7]; exact s5.up ((Up.refl w5).alloc _)
           obtain ⟨BH, hBH⟩ : ∃ B, B = w5.heap.size := ⟨_, rfl⟩
           rw [← hBH] at bB ⊢)
        | (obtain ⟨W7, hW7⟩ : ∃ W7, W7 = ((((((((w5.setCell ⟨w2.heap.size, 0, none⟩ (.int .i64 W)).setCell ⟨w2.heap.size, 1, none⟩ (.slice (some P5) W c5)).setCell ⟨w2.heap.size, 2, none⟩ (.slice (some Q5) W d5)).setCell ⟨w2.heap.size, 3, none⟩ (.int .i64 1)).setCell ⟨w2.heap.size, 4, none⟩ (.int .i64 0)).setCell ⟨w2.heap.size, 5, none⟩ (.int .i64 W)).setCell ⟨w2.heap.size, 6, none⟩ (.int .i64 0)).setCell ⟨w2.heap.size, 7, none⟩ (.int .i64 0)) := ⟨_, rfl⟩
           rw [← hW7]
           have bB : Blk W7 w2.heap.size 58 #[.int .i64 W, .slice (some P5) W c5, .slice (some Q5) W d5, .int .i64 1, .int .i64 0, .int .i64 W, .int .i64 0, .int .i64 0] := by rw [hW7]; exact MB.set8 (.int .i64 W) (.slice (some P5) W c5) (.slice (some Q5) W d5) (.int .i64 1) (.int .i64 0) (.int .i64 W) (.int .i64 0) (.int .i64 0)
           have KW7 : Up w2 W7 := by rw [hW7]; exact UC.set8 (Nat.le_refl _) (.int .i64 W) (.slice (some P5) W c5) (.slice (some Q5) W d5) (.int .i64 1) (.int .i64 0) (.int .i64 W) (.int .i64 0) (.int .i64 0)
           have S7 : Sits W7 m0 P5 Q5 c5 d5 := by rw [hW7]; exact s5.far8 MB (.int .i64 W) (.slice (some P5) W c5) (.slice (some Q5) W d5) (.int .i64 1) (.int .i64 0) (.int .i64 W) (.int .i64 0) (.int .i64 0)
           obtain ⟨BH, hBH⟩ : ∃ B, B = w2.heap.size := ⟨_, rfl⟩
           rw [← hBH] at bB ⊢
           clear mc mf ml MB)
      have qB := bB.cell
      have lB := bB.lt
      clear hW7 hBH bB UC k5 s5 V0 qM lM
      go_wp2_with (fail)
      refine (HWH.out _ (HU2.out.trans KW7) P5 Q5 c5 d5 S7).mono ?_
      rintro e w9 ⟨m9, a9, o9, P9, Q9, c9, d9, u9, rfl, F9, v9, s9, ⟨n9, us9, h9⟩, k9⟩
      obtain ⟨A9, g9, rfl⟩ := own_slice h9.1
      have bZ9 := HZ2.out.up (KW7.trans k9)
      have h79 := set9 s9 bZ9 (.int .i64 W) (.slice (some P9) W c9) (.slice (some Q9) W d9) (.int .i64 1) (.int .i64 a9) (.int .i64 W) (.int .i64 0) (.int .i64 0) (.slice A9 us9.length g9)
      have HZF := Lib.hid h79.2
      have HSF := Lib.hid h79.1
      have HUF := Lib.hid (up9 ((HU2.out.trans KW7).trans k9) (by omega : w.heap.size ≤ w.heap.size + 1) (.int .i64 W) (.slice (some P9) W c9) (.slice (some Q9) W d9) (.int .i64 1) (.int .i64 a9) (.int .i64 W) (.int .i64 0) (.int .i64 0) (.slice A9 us9.length g9))
      have HOF := Lib.hid (own_k_far9 h9 bZ9 (by decide) (by decide) (.int .i64 W) (.slice (some P9) W c9) (.slice (some Q9) W d9) (.int .i64 1) (.int .i64 a9) (.int .i64 W) (.int .i64 0) (.int .i64 0) (.slice A9 us9.length g9)).rw
      have HFF := Lib.hid (And.intro F9 v9)
      have qZ := bZ9.cell
      have fZ := bZ9.frozen
      have lZ := bZ9.lt
      clear bZ9 h79 qB lB KW7 S7 k9 s9 F9 v9 h9
      go_wp2
      refine bodyPost_ret (ret_flip rfl _ _ _ W 1 a9 W 0 0 (.slice (some P9) W c9) (.slice (some Q9) W d9) (.slice A9 us9.length g9) _ rfl HZF.out rfl) rfl ?_
      exact ⟨m9, a9, o9, P9, Q9, c9, d9, A9, us9.length, g9, rfl, HFF.out.1, HFF.out.2, HSF.out, HOF.out, HUF.out⟩
  · simp only [Int.sub_self] at HC2 HWH hd1
    go_wp2_with (fail)
    go_region_held3 (fun w' => (∀ zi, w'.cell? ⟨w.heap.size, zi, none⟩ = (#[.int .i64 W, .slice (some P) W c, .slice (some Q) W d] : Array Value)[zi]?))
      (first
        | with_reducible exact HKP.out _ (by assumption)
        | with_reducible exact HKP.out _ (((Up.refl w2).alloc _).drew)
        | with_reducible exact HKP.out _ (Up.set8 UC (Nat.le_refl _) _ _ _ _ _ _ _ _)
        | with_reducible exact HKP.out _ (UC.alloc _))
      ((go_at_call 59; ((with_reducible refine (HC2.out _ (by first | with_reducible assumption | with_reducible exact ((Up.refl w2).alloc _).drew)).mono ?_); rintro e w5 ⟨P5, Q5, c5, d5, rfl, s5, k5⟩; have UC : Up w2 w5 := Up.trans (by first | with_reducible assumption | with_reducible exact ((Up.refl w2).alloc _).drew) k5; (try (have MB := ((Blk.new w2 58 rz8).drew).up k5; have mc := MB.cell; have mf := MB.frozen; have ml := MB.lt)))))
    all_goals
      first
        | (obtain ⟨W7, hW7⟩ : ∃ W7, W7 = w5.alloc (.cells #[.int .i64 W, .slice (some P5) W c5, .slice (some Q5) W d5, .int .i64 0, .int .i64 0, .int .i64 W, .int .i64 0, .int .i64 0] 58) := ⟨_, rfl⟩
           rw [← hW7]
           have bB : Blk W7 w5.heap.size 58 #[.int .i64 W, .slice (some P5) W c5, .slice (some Q5) W d5, .int .i64 0, .int .i64 0, .int .i64 W, .int .i64 0, .int .i64 0] := by rw [hW7]; exact Blk.new w5 _ _
           have KW7 : Up w2 W7 := by rw [hW7]; exact UC.alloc _
           have S7 : Sits W7 m0 P5 Q5 c5 d5 := by rw [hW7]; exact s5.up ((Up.refl w5).alloc _)
           obtain ⟨BH, hBH⟩ : ∃ B, B = w5.heap.size := ⟨_, rfl⟩
           rw [← hBH] at bB ⊢)
        | (obtain ⟨W7, hW7⟩ : ∃ W7, W7 = ((((((((w5.setCell ⟨w2.heap.size, 0, none⟩ (.int .i64 W)).setCell ⟨w2.heap.size, 1, none⟩ (.slice (some P5) W c5)).setCell ⟨w2.heap.size, 2, none⟩ (.slice (some Q5) W d5)).setCell ⟨w2.heap.size, 3, none⟩ (.int .i64 0)).setCell ⟨w2.heap.size, 4, none⟩ (.int .i64 0)).setCell ⟨w2.heap.size, 5, none⟩ (.int .i64 W)).setCell ⟨w2.heap.size, 6, none⟩ (.int .i64 0)).setCell ⟨w2.heap.size, 7, none⟩ (.int .i64 0)) := ⟨_, rfl⟩
           rw [← hW7]
           have bB : Blk W7 w2.heap.size 58 #[.int .i64 W, .slice (some P5) W c5, .slice (some Q5) W d5, .int .i64 0, .int .i64 0, .int .i64 W, .int .i64 0, .int .i64 0] := by rw [hW7]; exact MB.set8 (.int .i64 W) (.slice (some P5) W c5) (.slice (some Q5) W d5) (.int .i64 0) (.int .i64 0) (.int .i64 W) (.int .i64 0) (.int .i64 0)
           have KW7 : Up w2 W7 := by rw [hW7]; exact UC.set8 (Nat.le_refl _) (.int .i64 W) (.slice (some P5) W c5) (.slice (some Q5) W d5) (.int .i64 0) (.int .i64 0) (.int .i64 W) (.int .i64 0) (.int .i64 0)
           have S7 : Sits W7 m0 P5 Q5 c5 d5 := by rw [hW7]; exact s5.far8 MB (.int .i64 W) (.slice (some P5) W c5) (.slice (some Q5) W d5) (.int .i64 0) (.int .i64 0) (.int .i64 W) (.int .i64 0) (.int .i64 0)
           obtain ⟨BH, hBH⟩ : ∃ B, B = w2.heap.size := ⟨_, rfl⟩
           rw [← hBH] at bB ⊢
           clear mc mf ml MB)
      have qB := bB.cell
      have lB := bB.lt
      clear hW7 hBH bB UC k5 s5 V0 qM lM
      go_wp2_with (fail)
      refine (HWH.out _ (HU2.out.trans KW7) P5 Q5 c5 d5 S7).mono ?_
      rintro e w9 ⟨m9, a9, o9, P9, Q9, c9, d9, u9, rfl, F9, v9, s9, ⟨n9, us9, h9⟩, k9⟩
      obtain ⟨A9, g9, rfl⟩ := own_slice h9.1
      have bZ9 := HZ2.out.up (KW7.trans k9)
      have h79 := set9 s9 bZ9 (.int .i64 W) (.slice (some P9) W c9) (.slice (some Q9) W d9) (.int .i64 0) (.int .i64 a9) (.int .i64 W) (.int .i64 0) (.int .i64 0) (.slice A9 us9.length g9)
      have HZF := Lib.hid h79.2
      have HSF := Lib.hid h79.1
      have HUF := Lib.hid (up9 ((HU2.out.trans KW7).trans k9) (by omega : w.heap.size ≤ w.heap.size + 1) (.int .i64 W) (.slice (some P9) W c9) (.slice (some Q9) W d9) (.int .i64 0) (.int .i64 a9) (.int .i64 W) (.int .i64 0) (.int .i64 0) (.slice A9 us9.length g9))
      have HOF := Lib.hid (own_k_far9 h9 bZ9 (by decide) (by decide) (.int .i64 W) (.slice (some P9) W c9) (.slice (some Q9) W d9) (.int .i64 0) (.int .i64 a9) (.int .i64 W) (.int .i64 0) (.int .i64 0) (.slice A9 us9.length g9)).rw
      have HFF := Lib.hid (And.intro F9 v9)
      have qZ := bZ9.cell
      have fZ := bZ9.frozen
      have lZ := bZ9.lt
      clear bZ9 h79 qB lB KW7 S7 k9 s9 F9 v9 h9
      go_wp2
      refine bodyPost_ret (ret_flip rfl _ _ _ W 0 a9 W 0 0 (.slice (some P9) W c9) (.slice (some Q9) W d9) (.slice A9 us9.length g9) _ rfl HZF.out rfl) rfl ?_
      exact ⟨m9, a9, o9, P9, Q9, c9, d9, A9, us9.length, g9, rfl, HFF.out.1, HFF.out.2, HSF.out, HOF.out, HUF.out⟩
end Go.Proofs.YtanhhkdoejnpiaaGreat.G
/- What was put, copied: the same graph, of the same words. -/
namespace Go.Proofs.YtanhhkdoejnpiaaGreat.G
open Go.Joins Go.ChangeShapes Go.WideShapes Go.ChangeAt Go.RowKit Go.Deep Go.Shelf Go.Maps
set_option linter.unusedVariables false
set_option linter.unusedSimpArgs false

def FlOk (g : Gr) (W : Nat) (t : Int) (P Q : Addr) (c d : Nat) (v : Value) (w : World) : Prop :=
  (∀ V, Up w V → ∀ u, GrV V u g → Calls Tryz.prog 20 #[mev W P Q c d, v, u] V fun e w' => e = .returned (.bool true) ∧ Up V w') ∧
  (∀ V, Up w V → Calls Tryz.prog 18 #[mev W P Q c d, v] V fun e w' => e = .returned (.int .i64 t) ∧ Up V w')
theorem FlOk.up {g : Gr} {W : Nat} {t : Int} {P Q : Addr} {c d : Nat} {v : Value} {w w1 : World} (h : FlOk g W t P Q c d v w) (k : Up w w1) : FlOk g W t P Q c d v w1 :=
  ⟨fun V u => h.1 V (k.trans u), fun V u => h.2 V (k.trans u)⟩
theorem FlOk.al {g : Gr} {W : Nat} {t : Int} {P Q : Addr} {c d : Nat} {v : Value} {w : World} (h : FlOk g W t P Q c d v w) (V : World) (k : Up w V) (u : Value) (hu : GrV V u g) : Calls Tryz.prog 20 #[mev W P Q c d, v, u] V fun e w' => e = .returned (.bool true) ∧ Up V w' := h.1 V k u hu
theorem FlOk.wo {g : Gr} {W : Nat} {t : Int} {P Q : Addr} {c d : Nat} {v : Value} {w : World} (h : FlOk g W t P Q c d v w) (V : World) (k : Up w V) : Calls Tryz.prog 18 #[mev W P Q c d, v] V fun e w' => e = .returned (.int .i64 t) ∧ Up V w' := h.2 V k
def CpP (g : Gr) (W : Nat) (s t : Int) (w : World) (e : Ending) (w' : World) : Prop :=
  ∃ (P Q : Addr) (c d : Nat) (A : Option Addr) (n k : Nat), e = .returned (.tuple #[.agg #[.int .i64 W, .slice (some P) W c, .slice (some Q) W d, .int .i64 (1 - s), .int .i64 t, .int .i64 W, .int .i64 0, .int .i64 0, .slice A n k], .int .i64 0]) ∧ FlOk g W t P Q c d (.slice A n k) w' ∧ Up w w'
def wordsO (g : Gr) : Nat := ((ord g).map (szO g)).sum
theorem cx_of {g : Gr} {W : Nat} {s : Int} (hg : Sm g) (hp : pte g W s = 0) : Cx g W s := by
  obtain ⟨h16, hW, hs, hT⟩ := pte_0 hp
  exact ⟨hg.rg, by omega, by omega, hs, by omega, hg.n⟩
theorem put_words {g : Gr} {W : Nat} {s : Int} (hg : Sm g) (hp : pte g W s = 0) (P Q : Addr) (c d : Nat) (v : Value) (V : World) (hm : Sits V (putG g W s) P Q c d) (hwf : (putG g W s).wf) (hr : Rw .u64 V v (putR g s)) :
    Calls Tryz.prog 18 #[mev W P Q c d, v] V fun e w' => e = .returned (.int .i64 (wordsO g : Nat)) ∧ Up V w' := by
  have X := cx_of hg hp
  have h := vwords_any (putG g W s) P Q c d v (putR g s) V hm hwf hr (putR_ok X.hs (by have := X.hT; have := X.hW; omega) (by have := hg.b; omega))
  obtain ⟨p1, p2, p3⟩ := put_of (W := W) (s := s) hg.rg hg.n X.h16 X.hW X.hs X.hT
  rw [p1, ows_hold (put_hold hg.rg X.h16 X.hW X.hs X.hT) (ord g) (ord_more hg.n).td.inn, show (putG g W s).n = W from mk_n _ _ _] at h
  exact h
theorem copy_of {g : Gr} {W : Nat} {s : Int} (hg : Sm g) (hp : pte g W s = 0) (P Q : Addr) (c d : Nat) (v : Value) (V : World) (hm : Sits V (putG g W s) P Q c d) (hwf : (putG g W s).wf) (hr : Rw .u64 V v (putR g s)) :
    Calls Tryz.prog 24 #[mev W P Q c d, .int .i64 s, v] V (CpP g W s (wordsO g : Nat) V) := by
  have X := cx_of hg hp
  have hok := putR_ok (g := g) (s := s) X.hs (by have := X.hT; have := X.hW; omega) (by have := hg.b; omega)
  refine (rcopy_any X hwf P Q c d v V hm (k_of_rw hr) hok.l (by unfold putR; rw [List.length_map]; have := hg.b; omega)).mono ?_
  rintro e w' ⟨m, a, o, P', Q', c', d', A, n, k, rfl, F, hv, S, R, U⟩
  have es : 1 - (1 - s) = s := by omega
  have hn : (m.clr s).n = W := by rw [clr_n, F.n]
  have H := F.hold X (m' := m.clr s) hn (fun p hp => by
    have h := clr_ld m (s := 1 - s) X.s' hp
    rw [es] at h
    exact h)
  have hrow : ∀ row ∈ g.2, ∀ h ∈ row, h = 0 ∨ h ∈ o := fun row hr h hh => hv h (List.mem_flatten.2 ⟨row, hr, hh⟩)
  obtain ⟨h1, h2, h3⟩ := H.of X.hn hrow
  have ho : ∀ h ∈ ord g, h ∈ o := (H.rch X.hn g.2.flatten hv).2
  have hflat : (g.2.map fun row => row.map (Nw g s o)).flatten = g.2.flatten.map (Nw g s o) := by rw [← List.map_flatten]
  have hRo : RwOk (g.2.map fun row => row.map (Nw g s o)) := ⟨fun x hx => by
      rw [hflat] at hx
      obtain ⟨q, hq, rfl⟩ := List.mem_map.1 hx
      rcases hv q hq with rfl | q'
      · rw [Nw_0 X F]; exact ⟨by omega, by omega⟩
      · exact (F.nw_ov X q').2.2, by rw [hflat, List.length_map]; have := hg.b; omega⟩
  have hat : a = (wordsO g : Nat) := by rw [F.at_, F.sum X hv]; rfl
  refine ⟨P', Q', c', d', A, n, k, by rw [hat], ⟨fun V2 k2 u hu => ?_, fun V2 k2 => ?_⟩, U⟩
  · have h := alike_any (m.clr s) P' Q' c' d' _ _ u g V2 (S.up k2) (clr_wf F.wf s) ((rw_of_k R).up k2) hRo (by rw [List.length_map]; have := hg.b; omega) hu hg.rg hg.n hg.fit
    rw [h2, h3, hn, decide_eq_true rfl] at h
    exact h
  · have h := vwords_any (m.clr s) P' Q' c' d' _ _ V2 (S.up k2) (clr_wf F.wf s) ((rw_of_k R).up k2) hRo
    rw [h1, ows_hold H (ord g) ho, hn] at h
    exact h
end Go.Proofs.YtanhhkdoejnpiaaGreat.G
