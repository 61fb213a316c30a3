/- The document's field of graphs (dovecoteref15.field): contract. -/
import Derived.Test.YtlocllcijncllaaRn
namespace Go.Proofs.Ytlocllcijncllaa
open Go.Joins Go.ChangeShapes Go.WideShapes Go.ChangeAt Go.RowKit Go.Deep Go.Shelf Go.Maps
set_option linter.unusedVariables false
set_option linter.unusedSimpArgs false

/-- Why a field isn't there, or isn't a pointer, or is one. -/
def rfe (g : Gr) (th : Int) (o : Op) (ptr : Bool) : Int := if fde g th o = 0 then (if isP (hob g th o) o.i = ptr then 0 else 8) else fde g th o
def rfv (g : Gr) (th : Int) (o : Op) (ptr : Bool) : Int := if rfe g th o ptr = 0 then gtv (rowOf g th) o.h - 1 else 0
set_option maxRecDepth 100000 in
set_option maxHeartbeats 4000000 in
theorem rfield_any (v : Value) (g : Gr) (th kd h i k vv t l m : Int) (ptr : Bool) (w : World) (hg : GrV w v g) (hR : Rg g) (ht : isTh g th) :
    Calls Try.prog 36 #[v, .int .i64 th, .agg #[.int .i64 kd, .int .i64 h, .int .i64 i, .int .i64 k, .int .u64 vv, .int .i64 t, .int .i64 l, .int .u64 m], .bool ptr] w fun e w' => e = .returned (.tuple #[.int .i64 (rfv g th ⟨kd, h, i, k, vv, t, l, m⟩ ptr), .int .i64 (rfe g th ⟨kd, h, i, k, vv, t, l, m⟩ ptr)]) ∧ Up w w' := by
  have hbd := gtv_bd hR ht h
  obtain ⟨A, c, B, d, rfl, m1, m2⟩ := hg.form
  have HH := Lib.hid (fun W (z : Up w W) => rhandle_any (.agg #[.slice A g.1.length c, .slice B g.2.length d]) g th h W (hg.up z) ht)
  by_cases q1 : gte (rowOf g th) h = 0
  · by_cases q2 : gtv (rowOf g th) h = 0
    · have f : fde g th ⟨kd, h, i, k, vv, t, l, m⟩ = 6 := by
        unfold fde
        rw [if_pos q1, if_neg (by rw [q2]; exact no_0 g)]
      have e1 : rfe g th ⟨kd, h, i, k, vv, t, l, m⟩ ptr = 6 := by unfold rfe; rw [f]; rfl
      have e2 : rfv g th ⟨kd, h, i, k, vv, t, l, m⟩ ptr = 0 := by unfold rfv; rw [e1]; rfl
      rw [e1, e2]
      rw [q1, q2] at HH
      clear e1 e2 f q1 q2 hbd hg hR ht
      generalize g.1.length = n at *
      generalize g.2.length = s at *
      go_enter Try.func36, Try.ntmps36
      go_wp2_with (fail)
      refine (HH.out _ (((Up.refl w).alloc _).alloc _)).mono ?_
      rintro e w1 ⟨rfl, h1⟩
      go_wp2
      go_ret2
      exact ⟨rfl, (((Up.refl w).alloc _).alloc _).trans h1⟩
    · obtain ⟨y, hy⟩ : ∃ y : Nat, gtv (rowOf g th) h = (y : Int) + 1 := ⟨(gtv (rowOf g th) h).toNat - 1, by omega⟩
      have hin : inN g (gtv (rowOf g th) h) := ⟨by omega, hbd.2⟩
      have hyl : y < g.1.length := by omega
      have hnd : ndOf g (gtv (rowOf g th) h) = g.1.getD y nd0 := by
        unfold ndOf
        rw [hy, show ((y : Int) + 1).toNat - 1 = y from by omega]
      have hmem : g.1.getD y nd0 ∈ g.1 := getD_mem nd0 hyl
      have hhd := hR.hd _ hmem
      have hmp := hR.mp _ hmem
      have hob : hob g th ⟨kd, h, i, k, vv, t, l, m⟩ = g.1.getD y nd0 := hnd
      have HN := Lib.hid (fun W (z : Up w W) => (hg.up z).nd_at hyl)
      have ef : fde g th ⟨kd, h, i, k, vv, t, l, m⟩ = if 0 ≤ i ∧ i < (g.1.getD y nd0).2.length then 0 else 7 := by
        unfold fde
        rw [if_pos q1, if_pos hin]
        show (if 0 ≤ i ∧ i < (ndOf g (gtv (rowOf g th) h)).2.length then (0 : Int) else 7) = _
        rw [hnd]
      have er : rfe g th ⟨kd, h, i, k, vv, t, l, m⟩ ptr = if 0 ≤ i ∧ i < (g.1.getD y nd0).2.length then (if isP (g.1.getD y nd0) i = ptr then 0 else 8) else 7 := by
        unfold rfe
        rw [ef, hob]
        by_cases z : 0 ≤ i ∧ i < (g.1.getD y nd0).2.length
        · simp only [if_pos z, if_true]
        · simp only [if_neg z]; rfl
      have ev : rfv g th ⟨kd, h, i, k, vv, t, l, m⟩ ptr = if rfe g th ⟨kd, h, i, k, vv, t, l, m⟩ ptr = 0 then (y : Int) else 0 := by
        unfold rfv
        show (if _ then gtv (rowOf g th) h - 1 else 0) = _
        rw [hy, show (y : Int) + 1 - 1 = y from by omega]
      rw [ev, er]
      rw [q1, hy] at HH
      clear ev er ef hob hnd hin hbd hg hR ht q1 q2 hmem hy
      generalize g.1.getD y nd0 = nd at *
      generalize g.1.length = n at *
      generalize g.2.length = s at *
      obtain ⟨⟨t', l', m'⟩, f⟩ := nd
      obtain ⟨h1, h2⟩ := hhd
      have hl' := okH_len h1
      have hpt := Lib.hid (fun w => rptr_any t' l' m' i hmp.1 hmp.2 (by have := hl'.2; simp only [] at this; omega) w)
      simp only [] at h2 hl'
      change Hid (∀ w, Calls Try.prog 52 #[.agg #[.int .i64 t', .int .i64 l', .int .u64 m'], .int .i64 i] w fun e w' => e = .returned (.bool (isP ((t', l', m'), f) i)) ∧ Up w w') at hpt
      rw [show ((f.length : Int)) = l' from h2]
      generalize isP ((t', l', m'), f) i = is at *
      by_cases z1 : i < 0
      · have d1 : decide (i < 0) = true := decide_eq_true z1
        have zz : ¬ (0 ≤ i ∧ i < l') := by omega
        rw [if_neg zz, if_neg (by decide : ¬ (7 : Int) = 0)]
        clear h1 h2 hl' hmp hpt
        go_enter Try.func36, Try.ntmps36
        go_wp2_with (fail)
        refine calls_at (fun V1 hV => ?_)
        have kv : Up w V1 := by rw [hV]; exact ((Up.refl w).alloc _).alloc _
        have bG : Blk V1 w.heap.size 25 #[.slice A n c, .slice B s d] := by rw [hV]; exact (Blk.new w _ _).alloc _
        have bO : Blk V1 (w.heap.size + 1) 30 #[.int .i64 kd, .int .i64 h, .int .i64 i, .int .i64 k, .int .u64 vv, .int .i64 t, .int .i64 l, .int .u64 m] := by rw [hV]; exact Blk.new' _ (by simp) _ _
        clear hV
        refine (HH.out V1 kv).mono ?_
        rintro e w1 ⟨rfl, k1⟩
        have q1 := (bG.up k1).cell
        have l1 := (bG.up k1).lt
        have q2 := (bO.up k1).cell
        have l2 := (bO.up k1).lt
        obtain ⟨p, u1, rfl, ⟨a0, a1, a2, a3⟩⟩ := HN.out _ (kv.trans k1)
        have ap := lt_of_cell a0
        have U1 := Lib.hid (kv.trans k1)
        clear bG bO kv k1
        go_wp2
        go_ret2
        exact ⟨rfl, U1.out.alloc _⟩
      · have d1 : decide (i < 0) = false := decide_eq_false z1
        by_cases z2 : i < l'
        · have d2 : decide (i ≥ l') = false := decide_eq_false (by omega)
          have zz : 0 ≤ i ∧ i < l' := by omega
          rw [if_pos zz]
          by_cases z3 : is = ptr
          · rw [if_pos z3, if_pos (rfl : (0 : Int) = 0)]
            subst z3
            clear h1 h2 hl' hmp
            go_enter Try.func36, Try.ntmps36
            go_wp2_with (fail)
            refine calls_at (fun V1 hV => ?_)
            have kv : Up w V1 := by rw [hV]; exact ((Up.refl w).alloc _).alloc _
            have bG : Blk V1 w.heap.size 25 #[.slice A n c, .slice B s d] := by rw [hV]; exact (Blk.new w _ _).alloc _
            have bO : Blk V1 (w.heap.size + 1) 30 #[.int .i64 kd, .int .i64 h, .int .i64 i, .int .i64 k, .int .u64 vv, .int .i64 t, .int .i64 l, .int .u64 m] := by rw [hV]; exact Blk.new' _ (by simp) _ _
            clear hV
            refine (HH.out V1 kv).mono ?_
            rintro e w1 ⟨rfl, k1⟩
            have q1 := (bG.up k1).cell
            have l1 := (bG.up k1).lt
            have q2 := (bO.up k1).cell
            have l2 := (bO.up k1).lt
            obtain ⟨p, u1, rfl, ⟨a0, a1, a2, a3⟩⟩ := HN.out _ (kv.trans k1)
            have ap := lt_of_cell a0
            have U1 := Lib.hid (kv.trans k1)
            clear bG bO kv k1
            go_wp2_with (fail)
            refine (hpt.out _).mono ?_
            rintro e w2 ⟨rfl, k2⟩
            go_wp2
            go_ret2
            exact ⟨rfl, (U1.out.alloc _).trans k2⟩
          · have z4 : (is == ptr) = false := beq_eq_false_iff_ne.2 z3
            rw [if_neg z3, if_neg (by decide : ¬ (8 : Int) = 0)]
            clear h1 h2 hl' hmp
            go_enter Try.func36, Try.ntmps36
            go_wp2_with (fail)
            refine calls_at (fun V1 hV => ?_)
            have kv : Up w V1 := by rw [hV]; exact ((Up.refl w).alloc _).alloc _
            have bG : Blk V1 w.heap.size 25 #[.slice A n c, .slice B s d] := by rw [hV]; exact (Blk.new w _ _).alloc _
            have bO : Blk V1 (w.heap.size + 1) 30 #[.int .i64 kd, .int .i64 h, .int .i64 i, .int .i64 k, .int .u64 vv, .int .i64 t, .int .i64 l, .int .u64 m] := by rw [hV]; exact Blk.new' _ (by simp) _ _
            clear hV
            refine (HH.out V1 kv).mono ?_
            rintro e w1 ⟨rfl, k1⟩
            have q1 := (bG.up k1).cell
            have l1 := (bG.up k1).lt
            have q2 := (bO.up k1).cell
            have l2 := (bO.up k1).lt
            obtain ⟨p, u1, rfl, ⟨a0, a1, a2, a3⟩⟩ := HN.out _ (kv.trans k1)
            have ap := lt_of_cell a0
            have U1 := Lib.hid (kv.trans k1)
            clear bG bO kv k1
            go_wp2_with (fail)
            refine (hpt.out _).mono ?_
            rintro e w2 ⟨rfl, k2⟩
            go_wp2
            go_ret2
            exact ⟨rfl, (U1.out.alloc _).trans k2⟩
        · have d2 : decide (i ≥ l') = true := decide_eq_true (by omega)
          have zz : ¬ (0 ≤ i ∧ i < l') := by omega
          rw [if_neg zz, if_neg (by decide : ¬ (7 : Int) = 0)]
          clear h1 h2 hl' hmp hpt
          go_enter Try.func36, Try.ntmps36
          go_wp2_with (fail)
          refine calls_at (fun V1 hV => ?_)
          have kv : Up w V1 := by rw [hV]; exact ((Up.refl w).alloc _).alloc _
          have bG : Blk V1 w.heap.size 25 #[.slice A n c, .slice B s d] := by rw [hV]; exact (Blk.new w _ _).alloc _
          have bO : Blk V1 (w.heap.size + 1) 30 #[.int .i64 kd, .int .i64 h, .int .i64 i, .int .i64 k, .int .u64 vv, .int .i64 t, .int .i64 l, .int .u64 m] := by rw [hV]; exact Blk.new' _ (by simp) _ _
          clear hV
          refine (HH.out V1 kv).mono ?_
          rintro e w1 ⟨rfl, k1⟩
          have q1 := (bG.up k1).cell
          have l1 := (bG.up k1).lt
          have q2 := (bO.up k1).cell
          have l2 := (bO.up k1).lt
          obtain ⟨p, u1, rfl, ⟨a0, a1, a2, a3⟩⟩ := HN.out _ (kv.trans k1)
          have ap := lt_of_cell a0
          have U1 := Lib.hid (kv.trans k1)
          clear bG bO kv k1
          go_wp2
          go_ret2
          exact ⟨rfl, U1.out.alloc _⟩
  · have q5 : gte (rowOf g th) h = 5 := by
      unfold gte at q1 ⊢
      split at q1
      · exact absurd rfl q1
      · rename_i z; rw [if_neg z]
    have f : fde g th ⟨kd, h, i, k, vv, t, l, m⟩ = 5 := by unfold fde; rw [if_neg q1]
    have e1 : rfe g th ⟨kd, h, i, k, vv, t, l, m⟩ ptr = 5 := by unfold rfe; rw [f]; rfl
    have e2 : rfv g th ⟨kd, h, i, k, vv, t, l, m⟩ ptr = 0 := by unfold rfv; rw [e1]; rfl
    rw [e1, e2]
    rw [q5] at HH
    clear e1 e2 f q1 q5 hbd hg hR ht
    generalize g.1.length = n at *
    generalize g.2.length = s at *
    generalize gtv (rowOf g th) h = x at *
    go_enter Try.func36, Try.ntmps36
    go_wp2_with (fail)
    refine (HH.out _ (((Up.refl w).alloc _).alloc _)).mono ?_
    rintro e w1 ⟨rfl, h1⟩
    go_wp2
    go_ret2
    exact ⟨rfl, (((Up.refl w).alloc _).alloc _).trans h1⟩
end Go.Proofs.Ytlocllcijncllaa
