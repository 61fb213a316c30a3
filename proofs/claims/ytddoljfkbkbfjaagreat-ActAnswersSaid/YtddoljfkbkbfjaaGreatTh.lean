/- The field I of H's object (act's step: field): contract. -/
import Derived.Test.YtddoljfkbkbfjaaGreatTf
import Derived.Deep.CutRange
namespace Go.Proofs.YtddoljfkbkbfjaaGreat.T
open G
open Go.Joins Go.ChangeShapes Go.WideShapes Go.ChangeAt Go.RowKit Go.Deep Go.Shelf Go.Maps
set_option linter.unusedVariables false
set_option linter.unusedSimpArgs false

/-- Why there is no field, or 0. -/
def fe (m : Me) (st : List Int) (o : Op) : Int := if K.rle st o.h = 0 then (if m.kne (K.gtv st o.h) = 0 then m.gete (K.gtv st o.h) o.i else 10) else K.rle st o.h
/-- What is known of the field. -/
def kf (m : Me) (st : List Int) (o : Op) (s : Ks) : Ks := { s with h := K.gtv st o.h, v := m.getv (K.gtv st o.h) o.i, p := m.getb (K.gtv st o.h) o.i }
/-- What a step that may be refused comes to. -/
def Se (base D T : Nat) (S3 : List Nat) (x : Int) (h : Hp) (j : Nat) (o : Op) (s : Ks) (w : World) (en : Ending) (w' : World) : Prop := en = .returned (.int .i64 x) ∧ Kp [D, T] w w' ∧ ∃ s', St base D T S3 h j o s' w' ∧ (x = 0 → s' = s)
theorem gtv_u64 {xs : List Int} (h : ∀ x ∈ xs, U64 x) (k : Int) : U64 (K.gtv xs k) := by
  unfold K.gtv
  split
  · rename_i q
    exact h _ (K.getD_mem 0 (by omega))
  · exact u64_0
section
variable {base D T : Nat} {S3 : List Nat} {h : Hp} {j : Nat} {o : Op} {s : Ks} {w : World} {t : Th}
set_option maxRecDepth 100000 in
set_option maxHeartbeats 4000000 in
theorem field_st (hS : St base D T S3 h j o s w) (ht : h.th[j]? = some t) (hwf : h.m.wf) (hst : ∀ x ∈ t.st, U64 x) :
    Calls Tryz.prog 74 #[.pointer (some ⟨D, 0, none⟩)] w (Se base D T S3 (fe h.m t.st o) h j o (kf h.m t.st o s) w) := by
  obtain ⟨us, P, Q, c, d, A, co, cT, hD, hT, hc1, hc2, hbD, hbT, hR⟩ := id hS
  obtain ⟨u, hu, hO⟩ := hR.at_ ht
  obtain ⟨As, cs, es⟩ := hO.st.slice
  obtain ⟨t0, -⟩ := tcs hT hu
  have HC := fun W (k : Up w W) => K.real_any u.st t.st o.h W (sl_of_rc (hO.st.up k))
  rw [es] at t0 HC
  have hau := gtv_u64 hst o.h
  have HAA := Lib.hid (fun W (k : Kp [D, T] w W) => at_any h.m (K.gtv t.st o.h) P Q c d W (hR.kp k).sits hau hwf)
  have HGG := Lib.hid (fun W (k : Kp [D, T] w W) => get_any h.m (K.gtv t.st o.h) o.i P Q c d W (hR.kp k).sits hau hwf)
  have HS := Lib.hid hS
  have D0 := hD.drew
  have hcD := D0.cell
  unfold stc at hcD
  have hlD := D0.lt
  have hfD := D0.frozen
  have t0d : w.drew.cell? ⟨T, j * 8, none⟩ = some (.slice As t.st.length cs) := t0
  have tl : T < w.drew.heap.size := hT.lt
  have UW := (Up.refl w).drew
  have HTB := Lib.hid hT
  have HTT := Lib.hid ht
  unfold fe kf
  clear hS hT hR hu hO es t0 hD hc1 hc2 hbD hbT ht hwf hst hau
  generalize K.gtv t.st o.h = a at *
  generalize t.st.length = n at *
  by_cases hr : K.rle t.st o.h = 0
  · rw [if_pos hr]
    rw [hr] at HC
    replace HC := Lib.hid HC
    have hk0 : h.m.kne a = 0 ↔ h.m.ate a = 0 ∧ h.m.att a ≠ 255 := by rw [kne_0, ate_0]
    have HK := Lib.hid hk0
    clear hr hk0
    generalize hX : (if h.m.kne a = 0 then h.m.gete a o.i else 10) = X
    have HX := Lib.hid hX
    clear hX
    go_enter Tryz.func74, Tryz.ntmps74
    go_upto_region 1 with fail
    go_cut [2] from 5 to 23 (fun e2 w1 => e2 = .int .i64 0 ∧ Kp [D, T] w w1 ∧ St base D T S3 h j o { s with h := a } w1 ∧ Blk w1 D 78 #[.int .i64 h.m.n, .slice (some P) h.m.n c, .slice (some Q) h.m.n d, .int .i64 h.fs, .int .i64 h.fa, .int .i64 h.fl, .int .i64 h.ts, .int .i64 h.ta, .int .i64 h.tl, .int .i64 h.sz, .int .i64 h.lg, .slice (some ⟨T, 0, none⟩) us.length cT, .int .i64 h.ph, .int .i64 h.sc, .int .i64 h.fp, .slice A h.od.length co, .int .i64 h.bk, .int .i64 j, .pointer (some ⟨T, j * 8, none⟩), .int .i64 o.kd, .int .i64 o.h, .int .i64 o.i, .int .i64 o.k, .int .u64 o.v, .int .i64 o.t, .int .i64 o.l, .int .u64 o.m, .int .u64 a, .int .u64 s.k, .int .u64 s.v, .bool s.p, .int .i64 s.e, .int .u64 s.w, .bool s.y])
    case first =>
      go_region_with (go_at_call 95; (refine (HC.out _ UW).mono ?_); rintro e wz ⟨rfl, hz⟩; have hZ := D0.up hz; have hcZ := hZ.cell; unfold stc at hcZ; have hlZ := hZ.lt; have hfZ := hZ.frozen)
      all_goals
        go_wp2_with (fail)
        go_meet
        obtain ⟨k1, s1⟩ := HS.out.setD (UW.trans hz) 27 (.int .u64 a) { s with h := a } (fun _ _ _ _ _ _ => rfl)
        exact ⟨rfl, k1, s1, hZ.set_ 27 _⟩
    case rest =>
    obtain ⟨rfl, k1, s1, B1⟩ := hcut
    rename World => w1
    have HK1 := Lib.hid k1
    have HS1 := Lib.hid s1
    clear k1 s1 hcD hlD hfD D0 HC UW
    have HA1 : Hid (∀ W, Up w1 W → Calls Tryz.prog 96 #[.agg #[.int .i64 h.m.n, .slice (some P) h.m.n c, .slice (some Q) h.m.n d], .int .u64 a] W fun e w' => e = .returned (.tuple #[hdv (h.m.att a) (h.m.atl a) (h.m.atm a), .int .i64 (h.m.ate a)]) ∧ Up W w') := Lib.hid (fun W k => HAA.out W (HK1.out.up k))
    have HG1 : Hid (∀ W, Kp [D, T] w W → Calls Tryz.prog 97 #[.agg #[.int .i64 h.m.n, .slice (some P) h.m.n c, .slice (some Q) h.m.n d], .int .u64 a, .int .i64 o.i] W fun e w' => e = .returned (.tuple #[.int .u64 (h.m.getv a o.i), .bool (h.m.getb a o.i), .int .i64 (h.m.gete a o.i)]) ∧ Up W w') := HGG
    clear HAA HGG
    have B1c := B1.cell
    have B1l := B1.lt
    go_upto_region 4 with fail
    go_cut [3, 4] from 27 to 39 (fun b3 e4 wx => ∃ HB, b3 = .pointer (some ⟨HB, 0, none⟩) ∧ e4 = .int .i64 (h.m.ate a) ∧ Up w1 wx ∧ Blk wx HB 60 #[.int .i64 (h.m.att a), .int .i64 (h.m.atl a), .int .u64 (h.m.atm a)])
    case first =>
      have U0 : Up w1 w1.drew := (Up.refl w1).drew
      have HKP := Lib.hid (fun W (u : Up w1 W) => fun zi => (B1.up u).cell zi)
      go_region_held3 (fun w' => (∀ zi, w'.cell? ⟨D, zi, none⟩ = (#[.int .i64 h.m.n, .slice (some P) h.m.n c, .slice (some Q) h.m.n d, .int .i64 h.fs, .int .i64 h.fa, .int .i64 h.fl, .int .i64 h.ts, .int .i64 h.ta, .int .i64 h.tl, .int .i64 h.sz, .int .i64 h.lg, .slice (some ⟨T, 0, none⟩) us.length cT, .int .i64 h.ph, .int .i64 h.sc, .int .i64 h.fp, .slice A h.od.length co, .int .i64 h.bk, .int .i64 j, .pointer (some ⟨T, j * 8, none⟩), .int .i64 o.kd, .int .i64 o.h, .int .i64 o.i, .int .i64 o.k, .int .u64 o.v, .int .i64 o.t, .int .i64 o.l, .int .u64 o.m, .int .u64 a, .int .u64 s.k, .int .u64 s.v, .bool s.p, .int .i64 s.e, .int .u64 s.w, .bool s.y] : Array Value)[zi]?))
        (first
          | with_reducible exact HKP.out _ (by assumption)
          | with_reducible exact HKP.out _ (((Up.refl w1).alloc _).drew)
          | with_reducible exact HKP.out _ (Up.alloc (by assumption) _)
          | exact HKP.out _ (Up.setCell (Up.setCell (Up.setCell (by assumption) (Nat.le_refl _) _) (Nat.le_refl _) _) (Nat.le_refl _) _))
        ((go_at_call 96; ((with_reducible refine (HA1.out _ (by first | assumption | exact ((Up.refl w1).alloc _).drew)).mono ?_); rintro e w6 ⟨rfl, k6⟩; have UZ : Up w1 w6 := Up.trans (by first | assumption | exact ((Up.refl w1).alloc _).drew) k6; (try (have MB := ((Blk.new w1 60 #[.int .i64 0, .int .i64 0, .int .u64 0]).drew).up k6; have mc := MB.cell; have mf := MB.frozen; have ml := MB.lt)))))
      all_goals
        go_wp2_with (fail)
        go_meet
        first
          | with_reducible exact ⟨_, rfl, rfl, UZ.alloc _, Blk.new _ _ _⟩
          | with_reducible exact ⟨_, rfl, rfl, UZ.set3 (Nat.le_refl _) _ _ _, MB.set3 _ _ _⟩
          | (trace_state; sorry)
    case rest =>
      obtain ⟨HB, rfl, rfl, Ux, hHB⟩ := hcut
      rename World => wx
      have B2 := B1.up Ux
      have B2c := B2.cell
      have B2l := B2.lt
      have hHc := hHB.cell
      have hHl := hHB.lt
      have HUX := Lib.hid Ux
      clear hHB B1c B1l Ux
      by_cases ha0 : h.m.ate a = 0
      · by_cases hf : h.m.att a = 255
        · obtain rfl : X = 10 := by rw [← HX.out, if_neg (fun q => (HK.out.1 q).2 hf)]
          rw [ha0]
          rw [hf] at hHc
          clear ha0 hf
          go_wp2
          go_ret
          exact ⟨rfl, HK1.out.up HUX.out, _, HS1.out.up HUX.out, fun q => by cases q⟩
        · obtain rfl : X = h.m.gete a o.i := by rw [← HX.out, if_pos (HK.out.2 ⟨ha0, hf⟩)]
          have hfb : (h.m.att a == 255) = false := beq_eq_false_iff_ne.2 hf
          rw [ha0]
          have HG2 := Lib.hid (fun W (k : Up wx W) => HG1.out W ((HK1.out.up HUX.out).up k))
          have HK2 := Lib.hid (HK1.out.up HUX.out)
          have HS2 := Lib.hid (HS1.out.up HUX.out)
          have HB2 := Lib.hid B2
          clear ha0 hf HG1 HK1 HS1 HA1 B1
          go_upto_region 7 with fail
          have D2 := HB2.out.drew
          have D2c := D2.cell
          have D2l := D2.lt
          have UW := (Up.refl wx).drew
          go_region_with (go_at_call 97; (refine (HG2.out _ UW).mono ?_); rintro e wz ⟨rfl, hz⟩; have hZ := D2.up hz; have hcZ := hZ.cell; have hlZ := hZ.lt; have hfZ := hZ.frozen)
          all_goals
            go_wp2
            go_ret
            obtain ⟨k1, s1⟩ := HS2.out.setD (UW.trans hz) 29 (.int .u64 (h.m.getv a o.i)) { s with h := a, v := h.m.getv a o.i } (fun _ _ _ _ _ _ => rfl)
            obtain ⟨k2, s2⟩ := s1.setD (Up.refl _) 30 (.bool (h.m.getb a o.i)) { s with h := a, v := h.m.getv a o.i, p := h.m.getb a o.i } (fun _ _ _ _ _ _ => rfl)
            exact ⟨rfl, (HK2.out.trans k1).trans k2, _, s2, fun _ => rfl⟩
      · obtain rfl : X = 10 := by rw [← HX.out, if_neg (fun q => ha0 (HK.out.1 q).1)]
        obtain ⟨x, hx⟩ : ∃ x, h.m.ate a = x := ⟨_, rfl⟩
        rw [hx] at ha0 ⊢
        have hb : (x != 0) = true := bne_iff_ne.2 ha0
        clear hx ha0
        go_wp2
        go_ret
        exact ⟨rfl, HK1.out.up HUX.out, _, HS1.out.up HUX.out, fun q => by cases q⟩
  · rw [if_neg hr]
    obtain ⟨x, hx⟩ : ∃ x, K.rle t.st o.h = x := ⟨_, rfl⟩
    rw [hx] at hr HC ⊢
    replace HC := Lib.hid HC
    have hb : (x != 0) = true := bne_iff_ne.2 hr
    have HXN := Lib.hid hr
    clear hr hx HAA HGG
    go_enter Tryz.func74, Tryz.ntmps74
    go_wp2_with (fail)
    go_region_with (go_at_call 95; (refine (HC.out _ UW).mono ?_); rintro e wz ⟨rfl, hz⟩; have hZ := D0.up hz; have hcZ := hZ.cell; unfold stc at hcZ; have hlZ := hZ.lt; have hfZ := hZ.frozen)
    all_goals
      go_wp2
      go_ret
      obtain ⟨k1, s1⟩ := HS.out.setD (UW.trans hz) 27 (.int .u64 a) { s with h := a } (fun _ _ _ _ _ _ => rfl)
      exact ⟨rfl, k1, _, s1, fun q => absurd q HXN.out⟩
end
end Go.Proofs.YtddoljfkbkbfjaaGreat.T
