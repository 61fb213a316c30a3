/- The statement WalkCut is proved for every input, from contracts of the functions that it calls; no condition is added. -/
import Derived.Test.YtmjadmoadedghaaWk12
namespace Go.Proofs.Ytmjadmoadedghaa.LWalkCut
open Go.Joins Go.ChangeShapes Go.WideShapes Go.ChangeAt Go.RowKit Go.Deep
set_option linter.unusedVariables false
set_option linter.unusedSimpArgs false

/-- Does something lead elsewhere? -/
def ldb (m : Me) (X : List Int) (a : Int) : Bool := (m.ptv a).any fun b => (b != 0) && !decide (b ∈ X)
theorem ldb_snd (m : Me) (X : List Int) : m.sndb X = !(X.any (ldb m X)) := by
  rw [Bool.eq_iff_iff, sndb_true]
  unfold ldb
  simp only [Bool.not_eq_true', List.any_eq_false, List.mem_cons]
  refine ⟨fun h a ha => ?_, fun h a ha b hb => ?_⟩
  · simp only [List.any_eq_true, not_exists, not_and]
    intro b hb q
    rw [Bool.and_eq_true] at q
    rcases h a ha b hb with r | r
    · rw [r] at q; simp at q
    · rw [decide_eq_true r] at q; simp at q
  · have := h a ha
    simp only [List.any_eq_true, not_exists, not_and] at this
    have := this b hb
    by_cases hz : b = 0
    · exact .inl hz
    · refine .inr ?_
      by_cases hin : b ∈ X
      · exact hin
      · exact absurd (by simp [hz, hin]) this
def CutRel (m : Me) (X : List Int) (wb : World) (u11 u12 : Value) (wr : World) : Prop := ∃ x : Nat, x ≤ X.length ∧ u12 = .int .i64 x ∧ u11 = .bool ((X.take x).any (ldb m X)) ∧ Up wb wr
theorem any_snoc {X : List Int} {x : Nat} (f : Int → Bool) (h : x < X.length) : (X.take (x + 1)).any f = ((X.take x).any f || f (X.getD x 0)) := by
  rw [take_snoc' h]
  simp

set_option maxRecDepth 100000 in
set_option maxHeartbeats 4000000 in
theorem walk_no (NM : Int) (AM0 AM1 : Option Addr) (nM0 nM1 cM0 cM1 : Nat) (xsM ysM : List Int) (s : Int) (a : Int) (b : Int) (hfew : few NM nM0 nM1 = false) (w : World) :
    Calls Try.prog 9 #[.agg #[.int .i64 NM, .slice AM0 nM0 cM0, .slice AM1 nM1 cM1, .int .i64 s, .int .i64 a, .int .i64 b]] w (fun e w' => e = .returned (.bool true) ∧ Up w w') := by
  have hf := fun w => few_any NM AM0 AM1 nM0 nM1 cM0 cM1 w
  rw [hfew] at hf
  have hf := Lib.hid hf
  clear hfew
  go_enter Try.func9, Try.ntmps9
  go_wp2_with (fail)
  refine (shown_any _).mono ?_
  rintro e w1 ⟨rfl, h1⟩
  have M1 : Blk w1 (w.heap.size + 1) 25 #[.int .i64 NM, .slice AM0 nM0 cM0, .slice AM1 nM1 cM1] := ((Blk.new' _ (by simp) _ _)).up h1
  have U1 : Up w w1 := ((((Up.refl w).alloc _).alloc _)).trans h1
  clear h1
  have M1c := M1.cell
  have M1l := M1.lt
  go_wp2_with (fail)
  refine (hf.out _).mono ?_
  rintro e w2 ⟨rfl, h2⟩
  have M2 := M1.up h2
  have U2 : Up w w2 := U1.trans h2
  clear h2 M1 M1c M1l U1
  have M2c := M2.cell
  have M2l := M2.lt
  go_wp2
  go_ret
  exact ⟨rfl, U2⟩

set_option maxRecDepth 100000 in
set_option maxHeartbeats 8000000 in
theorem walk_gt (m : Me) (P Q : Addr) (c d : Nat) (s : Int) (a : Int) (b : Int) (w : World) (hm : Sits w m P Q c d) (hn : m.n ≤ 200) (hwf : m.wf) (hs : I64 s) (ha : I64 a) (hb : I64 b) (hab : b < a) :
    Calls Try.prog 9 #[.agg #[.int .i64 m.n, .slice (some P) m.n c, .slice (some Q) m.n d, .int .i64 s, .int .i64 a, .int .i64 b]] w (fun e w' => e = .returned (.bool true) ∧ Up w w') := by
  have hfew : few m.n m.n m.n = true := by unfold few rt; simp; have := hm.1.1; omega
  have hf := fun w => few_any m.n (some P) (some Q) m.n m.n c d w
  rw [hfew] at hf
  have hf := Lib.hid hf
  have hok := hm.1
  have HM := Lib.hid hm
  clear hfew hm
  have q0 : decide (b < a) = true := decide_eq_true hab
  clear hwf hs ha hb hn hok hab
  go_enter Try.func9, Try.ntmps9
  go_wp2_with (fail)
  refine (shown_any _).mono ?_
  rintro e w1 ⟨rfl, h1⟩
  have M1 : Blk w1 (w.heap.size + 1) 25 #[.int .i64 m.n, .slice (some P) m.n c, .slice (some Q) m.n d] := ((Blk.new' _ (by simp) _ _)).up h1
  have U1 : Up w w1 := ((((Up.refl w).alloc _).alloc _)).trans h1
  clear h1
  have M1c := M1.cell
  have M1l := M1.lt
  go_wp2_with (fail)
  refine (hf.out _).mono ?_
  rintro e w2 ⟨rfl, h2⟩
  have M2 := M1.up h2
  have U2 : Up w w2 := U1.trans h2
  clear h2 M1 M1c M1l U1
  have M2c := M2.cell
  have M2l := M2.lt
  go_wp2
  go_ret
  exact ⟨rfl, U2⟩

set_option maxRecDepth 100000 in
set_option maxHeartbeats 8000000 in
theorem walk_ns (m : Me) (P Q : Addr) (c d : Nat) (s : Int) (a : Int) (b : Int) (w : World) (hm : Sits w m P Q c d) (hn : m.n ≤ 200) (hwf : m.wf) (hs : I64 s) (ha : I64 a) (hb : I64 b) (hab : a ≤ b) (hsb : m.snd s b = false) :
    Calls Try.prog 9 #[.agg #[.int .i64 m.n, .slice (some P) m.n c, .slice (some Q) m.n d, .int .i64 s, .int .i64 a, .int .i64 b]] w (fun e w' => e = .returned (.bool true) ∧ Up w w') := by
  have hfew : few m.n m.n m.n = true := by unfold few rt; simp; have := hm.1.1; omega
  have hf := fun w => few_any m.n (some P) (some Q) m.n m.n c d w
  rw [hfew] at hf
  have hf := Lib.hid hf
  have hok := hm.1
  have HM := Lib.hid hm
  clear hfew hm
  have h1 := fun (W : World) (hS : Sits W m P Q c d) => sound_any m P Q c d s b W hS hwf
  have h2 := fun (W : World) (hS : Sits W m P Q c d) => objects_any m P Q c d s a W hS hwf
  have q0 : decide (b < a) = false := decide_eq_false (by omega)
  rw [hsb] at h1
  have h1 := Lib.hid h1
  clear h2 hsb
  clear hwf hs ha hb hn hok hab
  go_enter Try.func9, Try.ntmps9
  go_wp2_with (fail)
  refine (shown_any _).mono ?_
  rintro e w1 ⟨rfl, h1⟩
  have M1 : Blk w1 (w.heap.size + 1) 25 #[.int .i64 m.n, .slice (some P) m.n c, .slice (some Q) m.n d] := ((Blk.new' _ (by simp) _ _)).up h1
  have U1 : Up w w1 := ((((Up.refl w).alloc _).alloc _)).trans h1
  clear h1
  have M1c := M1.cell
  have M1l := M1.lt
  go_wp2_with (fail)
  refine (hf.out _).mono ?_
  rintro e w2 ⟨rfl, h2⟩
  have M2 := M1.up h2
  have U2 : Up w w2 := U1.trans h2
  clear h2 M1 M1c M1l U1
  have M2c := M2.cell
  have M2l := M2.lt
  go_wp2_with (fail)
  refine (h1.out _ (HM.out.up U2)).mono ?_
  rintro e w3 ⟨rfl, h3⟩
  have M3 := M2.up h3
  have U3 : Up w w3 := U2.trans h3
  clear h3 M2 M2c M2l U2
  have M3c := M3.cell
  have M3l := M3.lt
  go_wp2
  go_ret
  exact ⟨rfl, U3⟩

set_option maxRecDepth 100000 in
set_option maxHeartbeats 8000000 in
theorem walk_e (m : Me) (P Q : Addr) (c d : Nat) (s : Int) (a : Int) (b : Int) (w : World) (hm : Sits w m P Q c d) (hn : m.n ≤ 200) (hwf : m.wf) (hs : I64 s) (ha : I64 a) (hb : I64 b) (hab : a ≤ b) (hsb : m.snd s b = true) (he : m.tle s a ≠ 0) :
    Calls Try.prog 9 #[.agg #[.int .i64 m.n, .slice (some P) m.n c, .slice (some Q) m.n d, .int .i64 s, .int .i64 a, .int .i64 b]] w (fun e w' => e = .returned (.bool true) ∧ Up w w') := by
  have hfew : few m.n m.n m.n = true := by unfold few rt; simp; have := hm.1.1; omega
  have hf := fun w => few_any m.n (some P) (some Q) m.n m.n c d w
  rw [hfew] at hf
  have hf := Lib.hid hf
  have hok := hm.1
  have HM := Lib.hid hm
  clear hfew hm
  have h1 := fun (W : World) (hS : Sits W m P Q c d) => sound_any m P Q c d s b W hS hwf
  have h2 := fun (W : World) (hS : Sits W m P Q c d) => objects_any m P Q c d s a W hS hwf
  have h3 := fun (W : World) (hS : Sits W m P Q c d) => sound_any m P Q c d s a W hS hwf
  rw [show m.snd s a = false from by unfold Me.snd; rw [decide_eq_false he]; rfl] at h3
  have h3 := Lib.hid h3
  have q0 : decide (b < a) = false := decide_eq_false (by omega)
  have q1 : (m.tle s a != 0) = true := bne_iff_ne.mpr he
  rw [hsb] at h1
  have h1 := Lib.hid h1
  have h2 := Lib.hid h2
  generalize m.tle s a = z1 at h2 q1 he
  generalize m.tll wObj s a = X at h2
  clear hsb he
  clear hwf hs ha hb hn hok hab
  go_enter Try.func9, Try.ntmps9
  go_wp2_with (fail)
  refine (shown_any _).mono ?_
  rintro e w1 ⟨rfl, h1⟩
  have M1 : Blk w1 (w.heap.size + 1) 25 #[.int .i64 m.n, .slice (some P) m.n c, .slice (some Q) m.n d] := ((Blk.new' _ (by simp) _ _)).up h1
  have U1 : Up w w1 := ((((Up.refl w).alloc _).alloc _)).trans h1
  clear h1
  have M1c := M1.cell
  have M1l := M1.lt
  go_wp2_with (fail)
  refine (hf.out _).mono ?_
  rintro e w2 ⟨rfl, h2⟩
  have M2 := M1.up h2
  have U2 : Up w w2 := U1.trans h2
  clear h2 M1 M1c M1l U1
  have M2c := M2.cell
  have M2l := M2.lt
  go_wp2_with (fail)
  refine (h1.out _ (HM.out.up U2)).mono ?_
  rintro e w3 ⟨rfl, h3⟩
  have M3 := M2.up h3
  have U3 : Up w w3 := U2.trans h3
  clear h3 M2 M2c M2l U2
  have M3c := M3.cell
  have M3l := M3.lt
  go_wp2_with (fail)
  refine (h2.out _ (HM.out.up U3)).mono ?_
  rintro e w4 ⟨vX, rfl, hlX, h4⟩
  have M4 := M3.up h4
  have U4 : Up w w4 := U3.trans h4
  obtain ⟨AX, capX, rfl, hcX, hmX, rdX⟩ := hlX.sl
  have rX4 := Lib.hid rdX
  clear h4 M3 M3c M3l U3 rdX hlX
  have M4c := M4.cell
  have M4l := M4.lt
  go_wp2_with (fail)
  refine (h3.out _ (HM.out.up U4)).mono ?_
  rintro e w5 ⟨rfl, h5⟩
  have M5 := M4.up h5
  have U5 : Up w w5 := U4.trans h5
  have rX5 := Lib.hid (rX4.out.up h5)
  clear h5 M4 M4c M4l U4 rX4
  have M5c := M5.cell
  have M5l := M5.lt
  go_wp2
  go_ret
  exact ⟨rfl, U5⟩

set_option maxRecDepth 100000 in
set_option maxHeartbeats 8000000 in
theorem walk_ok (m : Me) (P Q : Addr) (c d : Nat) (s : Int) (a : Int) (b : Int) (w : World) (hm : Sits w m P Q c d) (hn : m.n ≤ 200) (hwf : m.wf) (hs : I64 s) (ha : I64 a) (hb : I64 b) (hab : a ≤ b) (hsb : m.snd s b = true) (he : m.tle s a = 0) :
    Calls Try.prog 9 #[.agg #[.int .i64 m.n, .slice (some P) m.n c, .slice (some Q) m.n d, .int .i64 s, .int .i64 a, .int .i64 b]] w (fun e w' => e = .returned (.bool true) ∧ Up w w') := by
  have hfew : few m.n m.n m.n = true := by unfold few rt; simp; have := hm.1.1; omega
  have hf := fun w => few_any m.n (some P) (some Q) m.n m.n c d w
  rw [hfew] at hf
  have hf := Lib.hid hf
  have hok := hm.1
  have HM := Lib.hid hm
  clear hfew hm
  have h1 := fun (W : World) (hS : Sits W m P Q c d) => sound_any m P Q c d s b W hS hwf
  have h2 := fun (W : World) (hS : Sits W m P Q c d) => objects_any m P Q c d s a W hS hwf
  have h3 := fun (W : World) (hS : Sits W m P Q c d) => sound_any m P Q c d s a W hS hwf
  rw [show m.snd s a = !((m.tll wObj s a).any (ldb m (m.tll wObj s a))) from by unfold Me.snd; rw [decide_eq_true he, ldb_snd]; rfl] at h3
  have h3 := Lib.hid h3
  have q0 : decide (b < a) = false := decide_eq_false (by omega)
  rw [hsb] at h1
  rw [he] at h2
  have h1 := Lib.hid h1
  have h2 := Lib.hid h2
  have hlX := tll_len m s a wObj hok.2.1
  have hreal := Lib.hid (fun x (hx : x ∈ m.tll wObj s a) => obj_real hx)
  generalize m.tll wObj s a = X at h2 h3 hlX hreal
  have hmx : Hid (X.length ≤ maxLen) := Lib.hid (by unfold maxLen; omega)
  replace hwf := Lib.hid hwf
  clear hsb he hs ha hb hn hok hab
  go_enter Try.func9, Try.ntmps9
  go_wp2_with (fail)
  refine (shown_any _).mono ?_
  rintro e w1 ⟨rfl, h1⟩
  have M1 : Blk w1 (w.heap.size + 1) 25 #[.int .i64 m.n, .slice (some P) m.n c, .slice (some Q) m.n d] := ((Blk.new' _ (by simp) _ _)).up h1
  have U1 : Up w w1 := ((((Up.refl w).alloc _).alloc _)).trans h1
  clear h1
  have M1c := M1.cell
  have M1l := M1.lt
  go_wp2_with (fail)
  refine (hf.out _).mono ?_
  rintro e w2 ⟨rfl, h2⟩
  have M2 := M1.up h2
  have U2 : Up w w2 := U1.trans h2
  clear h2 M1 M1c M1l U1
  have M2c := M2.cell
  have M2l := M2.lt
  go_wp2_with (fail)
  refine (h1.out _ (HM.out.up U2)).mono ?_
  rintro e w3 ⟨rfl, h3⟩
  have M3 := M2.up h3
  have U3 : Up w w3 := U2.trans h3
  clear h3 M2 M2c M2l U2
  have M3c := M3.cell
  have M3l := M3.lt
  go_wp2_with (fail)
  refine (h2.out _ (HM.out.up U3)).mono ?_
  rintro e w4 ⟨vX, rfl, hlX, h4⟩
  have M4 := M3.up h4
  have U4 : Up w w4 := U3.trans h4
  obtain ⟨AX, capX, rfl, hcX, hmX, rdX⟩ := hlX.sl
  have rX4 := Lib.hid rdX
  clear h4 M3 M3c M3l U3 rdX hlX
  have M4c := M4.cell
  have M4l := M4.lt
  go_wp2
  go_loopw [11, 12] (fun u11 u12 wr => CutRel m X w4 u11 u12 wr) (fun _ u12 _ => X.length - (intOf u12).toNat)
  case atStart => exact ⟨0, Nat.zero_le _, rfl, rfl, Up.refl _⟩
  case round =>
    obtain ⟨x, hx, rfl, rfl, UR⟩ := hrel
    clear M4c M4l
    have Mr := M4.up UR
    have Mrc := Mr.cell
    have RXr := rX4.out.up UR
    by_cases hlt : x < X.length
    · obtain ⟨p, rfl, hrow⟩ := RXr.2 (by omega)
      have T := Lib.hid (any_snoc (ldb m X) hlt)
      have hmem : X.getD x 0 ∈ X := by simp [List.getD, List.getElem?_eq_getElem hlt]
      have hre := hreal.out _ hmem
      obtain ⟨W0, hW0⟩ : ∃ W0 : World, W0 = wr.drew := ⟨_, rfl⟩
      have U0 : Up W0 wr.drew := by rw [hW0]; exact Up.refl _
      have UW : Up wr W0 := by rw [hW0]; exact (Up.refl _).drew
      have M0 := Mr.up UW
      have hrow0 := hrow.up UW
      have UU := (U4.trans UR).trans UW
      have h4 := Lib.hid (fun (V : World) (hU : Up W0 V) => rpointers_any m P Q c d (X.getD x 0) V ((HM.out.up UU).up hU) (real_u64 hre) hwf.out (of_decide_eq_true hre))
      have hat0 := Lib.hid (fun (V : World) (hV : Up W0 V) => (hrow0.up hV).at_ x hlt)
      have RX0 := Lib.hid (RXr.up UW)
      have U20 := Lib.hid (UR.trans UW)
      have hpl := ptv_len m (X.getD x 0)
      have hL : Hid (ldb m X (X.getD x 0) = (m.ptv (X.getD x 0)).any fun b => (b != 0) && !decide (b ∈ X)) := Lib.hid rfl
      clear hW0 Mr Mrc RXr hrow UW hmem hre UR UU
      generalize X.getD x 0 = a at *
      generalize m.ptv a = pv at h4 hL hpl
      generalize ldb m X a = la at T hL
      generalize (X.take x).any (ldb m X) = lb at T ⊢
      go_wp2_with (fail)
      go_region_held3 (fun w' => (∀ i, w'.cell? ⟨w.heap.size + 1, i, none⟩ = (#[.int .i64 m.n, .slice (some P) m.n c, .slice (some Q) m.n d] : Array Value)[i]?) ∧ w'.cell? (p.add x) = some (.int .u64 a))
        (exact ⟨fun i => (Blk.up M0 (by assumption)).cell i, hat0.out _ (by assumption)⟩)
        (first
          | (go_at_call 18; ((with_reducible refine (h4.out _ (by assumption)).mono ?_); rintro e wz ⟨vp, rfl, hlp, hz⟩; have UZ := Up.trans (a := W0) (by assumption) hz; obtain ⟨AP, capP, rfl, hcP, hmP, rdP⟩ := hlp.sl; have RP := Lib.hid rdP; clear rdP hlp)))
      have RXz := Lib.hid (RX0.out.up UZ)
      have UF := Lib.hid (U20.out.trans UZ)
      clear hz UZ RX0 U20 hat0 hrow0 M0 U0 h4
      go_wp2
      go_loop [11, 14] (fun u11 u14 => ∃ y : Nat, y ≤ pv.length ∧ u14 = .int .i64 y ∧ u11 = .bool (lb || (pv.take y).any fun b => (b != 0) && !decide (b ∈ X))) (fun _ u14 => pv.length - (intOf u14).toNat)
      case atStart => exact ⟨0, Nat.zero_le _, rfl, by simp⟩
      case round =>
        obtain ⟨y, hy, rfl, rfl⟩ := hrel
        by_cases hly : y < pv.length
        · obtain ⟨p2, rfl, hc2⟩ := RP.out.at_ hly
          have TY := any_snoc (fun b => (b != 0) && !decide (b ∈ X)) hly
          have hh := rhas_any (some p) X.length capX X (pv.getD y 0) wz RXz.out hmx.out
          generalize pv.getD y 0 = b2 at hc2 hh TY
          generalize hyy : decide (b2 ∈ X) = yy at hh TY
          generalize hzz : (b2 != 0) = zz at TY
          generalize (pv.take y).any (fun b => (b != 0) && !decide (b ∈ X)) = l2 at TY ⊢
          have HT : Hid ((lb || (pv.take (y + 1)).any fun b => (b != 0) && !decide (b ∈ X)) = ((lb || l2) || (zz && !yy))) := Lib.hid (by rw [TY, Bool.or_assoc])
          generalize (lb || l2) = lc at HT ⊢
          have hh := Lib.hid hh
          clear hyy TY
          cases lc <;> cases zz <;> cases yy
          all_goals
            go_wp2_with (fail)
            refine hh.out.mono ?_
            rintro e w' ⟨rfl, rfl⟩
            go_wp2
            go_round
            case rel => exact ⟨y + 1, by omega, by go_num, by rw [HT.out]; rfl⟩
            case measure => simp [intOf]; omega
        · obtain rfl : y = pv.length := by omega
          have HE : Hid ((lb || (pv.take pv.length).any fun b => (b != 0) && !decide (b ∈ X)) = (X.take (x + 1)).any (ldb m X)) := Lib.hid (by rw [T.out, hL.out, List.take_of_length_le (Nat.le_refl _)])
          generalize (lb || (pv.take pv.length).any fun b => (b != 0) && !decide (b ∈ X)) = lz at HE ⊢
          go_wp2
          refine ⟨⟨x + 1, by omega, by go_num, by rw [HE.out], UF.out⟩, by simp [intOf]; omega⟩
    · obtain rfl : x = X.length := by omega
      rw [List.take_of_length_le (Nat.le_refl _)]
      have UE := Lib.hid (U4.trans UR)
      generalize hql : X.any (ldb m X) = ql at h3 ⊢
      have h3 := h3
      clear hql
      clear RXr Mr
      cases ql
      all_goals
        go_wp2_with (fail)
        refine (h3.out _ (HM.out.up UE.out)).mono ?_
        rintro e w9 ⟨rfl, h9⟩
        go_wp2
        go_ret
        exact ⟨rfl, UE.out.trans h9⟩

theorem walk (NM : Int) (AM0 AM1 : Option Addr) (nM0 nM1 cM0 cM1 : Nat) (xsM ysM : List Int) (s : Int) (a : Int) (b : Int) (w : World) (hxM : SlOk w AM0 nM0 cM0 xsM) (hyM : SlOk w AM1 nM1 cM1 ysM) (hs : I64 s) (ha : I64 a) (hb : I64 b) :
    Calls Try.prog 9 #[.agg #[.int .i64 NM, .slice AM0 nM0 cM0, .slice AM1 nM1 cM1, .int .i64 s, .int .i64 a, .int .i64 b]] w (fun e w' => e = .returned (.bool true) ∧ Up w w') := by
  cases hfew : few NM nM0 nM1
  · exact walk_no NM AM0 AM1 nM0 nM1 cM0 cM1 xsM ysM s a b hfew w
  · obtain ⟨rfl, rfl, h16, h200⟩ := few_is hfew
    obtain ⟨P, Q, rfl, rfl, hm⟩ := sits_of hxM hyM h16 (by omega)
    have hwf := sits_wf hxM hyM
    by_cases hab : b < a
    · exact walk_gt ⟨nM0, xsM, ysM⟩ P Q cM0 cM1 s a b w hm h200 hwf hs ha hb hab
    cases hsb : (⟨nM0, xsM, ysM⟩ : Me).snd s b
    · exact walk_ns ⟨nM0, xsM, ysM⟩ P Q cM0 cM1 s a b w hm h200 hwf hs ha hb (by omega) hsb
    by_cases he : (⟨nM0, xsM, ysM⟩ : Me).tle s a = 0
    · exact walk_ok ⟨nM0, xsM, ysM⟩ P Q cM0 cM1 s a b w hm h200 hwf hs ha hb (by omega) hsb he
    · exact walk_e ⟨nM0, xsM, ysM⟩ P Q cM0 cM1 s a b w hm h200 hwf hs ha hb (by omega) hsb he
theorem cells : Try.prog.cellsOf 54 = 6 := by kernel_rfl
set_option maxRecDepth 100000 in
theorem opened {H : Type} {enc : TypeId × Value → H} {w : World} {r : Reach} {b0 : Nat} {vl_ : Value} {d : DataW H} {p : List MemPlace} (hvl_ : Value.okWide Try.prog w r b0 54 vl_) (h_ : DataW.Trod enc Try.prog w 0 (fun _ => true) true 54 vl_ d p) :
    ∃ (NM : Int) (AM0 AM1 : Option Addr) (nM0 nM1 cM0 cM1 : Nat) (xsM ysM : List Int) (s : Int) (a : Int) (b : Int), vl_ = .agg #[.int .i64 NM, .slice AM0 nM0 cM0, .slice AM1 nM1 cM1, .int .i64 s, .int .i64 a, .int .i64 b] ∧ I64 NM ∧ SlOk w AM0 nM0 cM0 xsM ∧ SlOk w AM1 nM1 cM1 ysM ∧ I64 s ∧ I64 a ∧ I64 b := by
  obtain ⟨⟨l⟩, rfl, hsz⟩ := okWide_struct Try.underlying54 hvl_
  match l, hsz.trans cells with
  | [z0_, z1_, z2_, z3_, z4_, z5_], _ =>
    obtain ⟨fuel, hf_⟩ := h_
    obtain ⟨ys_, n_, _, _, _, hlen_, hg_⟩ := DataW.trod_struct Try.underlying54 hf_
    have f0_ := hg_ 0 _ rfl
    have f1_ := hg_ 1 _ rfl
    have f2_ := hg_ 2 _ rfl
    have f3_ := hg_ 3 _ rfl
    match ys_, hlen_ with
    | [y0_, y1_, y2_, y3_], _ =>
      change DataW.trod enc Try.prog w 0 (fun _ => true) true n_ 25 (([z0_, z1_, z2_, z3_, z4_, z5_].drop 0).take (Try.prog.cellsOf 25)) = some y0_ at f0_
      rw [cells_mem] at f0_
      change DataW.trod enc Try.prog w 0 (fun _ => true) true n_ 3 (([z0_, z1_, z2_, z3_, z4_, z5_].drop 3).take (Try.prog.cellsOf 3)) = some y1_ at f1_
      rw [cells_int] at f1_
      change DataW.trod enc Try.prog w 0 (fun _ => true) true n_ 3 (([z0_, z1_, z2_, z3_, z4_, z5_].drop 4).take (Try.prog.cellsOf 3)) = some y2_ at f2_
      rw [cells_int] at f2_
      change DataW.trod enc Try.prog w 0 (fun _ => true) true n_ 3 (([z0_, z1_, z2_, z3_, z4_, z5_].drop 5).take (Try.prog.cellsOf 3)) = some y3_ at f3_
      rw [cells_int] at f3_
      obtain ⟨NM, AM0, AM1, nM0, nM1, cM0, cM1, xsM, ysM, rfl, rfl, rfl, hNM, hxM, hyM⟩ := mem_open (v0 := z0_) (v1 := z1_) (v2 := z2_) f0_
      obtain ⟨s, rfl, hs⟩ := int_open (v := z3_) f1_
      obtain ⟨a, rfl, ha⟩ := int_open (v := z4_) f2_
      obtain ⟨b, rfl, hb⟩ := int_open (v := z5_) f3_
      exact ⟨NM, AM0, AM1, nM0, nM1, cM0, cM1, xsM, ysM, s, a, b, rfl, hNM, hxM, hyM, hs, ha, hb⟩

theorem own : ownKnob Try.prog.godebug = none := by kernel_rfl
set_option maxRecDepth 100000 in
theorem lifted (os : Os) (started : os.Started) (H : Type) (enc : TypeId × Value → H) :
    ReturnsInHanded {} Try.checked os 9 .any (Rows.walkCutSpec.pre6 enc Try.prog Try.f9 Rows.walkCutRow.domain false) (Rows.walkCutSpec.post enc Try.prog Try.f9 false true false false) := by
  refine returnsInHanded_of_change (C := Try.checked) own started (by kernel_rfl) Try.func9
    (ChangeSpec.witness6 (enc := enc) (C := Try.checked) false ⟨#[], #[.agg #[.int .i64 0, .slice none 0 0, .slice none 0 0, .int .i64 0, .int .i64 0, .int .i64 0]], []⟩ 8 (by kernel_rfl) (by kernel_rfl) (by kernel_rfl) (by kernel_rfl)) ?_
  intro W base args ds gs before hval0 hW hcnd _
  have hval : ∀ (j : Nat) t v, Try.f9.params[j]? = some t → args[j]? = some v → Value.okWide Try.prog W .any base t v := hval0
  have hW' := hW
  obtain ⟨p, q, hA0, hV, rfl, hfz, hnd⟩ := hW
  have hA : DataW.TrodAll enc Try.prog W 0 (fun _ => true) true Try.f9.params.toList args.toList ds p := hA0
  rw [Try.params9] at hA hval
  obtain ⟨v0, vs0, d0, ds0, p0, q0, hargs, rfl, rfl, h0, r0⟩ := trodAll_cons hA
  obtain ⟨rfl, rfl, rfl⟩ := trodAll_nil r0
  obtain rfl : args = #[v0] := by cases args; simp_all
  obtain ⟨rfl, rfl⟩ := trodVars_none hV
  have h0k := h0
  obtain ⟨NM, AM0, AM1, nM0, nM1, cM0, cM1, xsM, ysM, s, a, b, rfl, hNM, hxM, hyM, hs, ha, hb⟩ := opened (hval 0 54 v0 rfl rfl) h0
  clear hA0 hval0
  simp only [List.append_nil] at hW'
  refine (walk NM AM0 AM1 nM0 nM1 cM0 cM1 xsM ysM s a b W hxM hyM hs ha hb).mono fun e W' ⟨he, hg⟩ => ?_
  subst he
  exact ⟨_, rfl, post_below (pa := p0) (pv := []) hW' (fun _ _ _ => (trodAll_cons_mk (shut_bool Try.underlying4 _) trodAll_mk0))
    (fun sp hsp => by
      have t := trodAll_cons_mk (trod_keeps (sp := sp) (by kernel_rfl) (of_decide_eq_true (by kernel_rfl)) h0k hg (fun x hx => hW'.lt x hx) (fun x hx => hsp x hx)) trodAll_mk0
      rw [List.append_nil] at t
      exact t) (fun _ _ => rfl) (by simp)
    hg (ok_one (by kernel_rfl) rfl (okWide_bool_mk Try.underlying4 _))⟩

set_option maxRecDepth 100000 in
theorem over : Rows.walkCutRow.holds Try.pinned (OpenSpec.ofChange Rows.walkCutSpec) :=
  OpenClaim.holds_of_wide 9 Try.f9 rfl rfl rfl rfl rfl rfl rfl ⟨rfl, rfl, rfl, rfl, rfl⟩ rfl rfl rfl rfl rfl (by kernel_rfl) Try.func9 (by kernel_rfl)
    (of_decide_eq_true (by kernel_rfl)) (by unfold Func.isWrapper; first | (rw [if_pos (by decide +kernel)]; kernel_rfl) | (rw [if_neg (by decide +kernel)]; exact ⟨rfl, rfl⟩))
    (fun os started H enc _ => lifted os started H enc)

theorem proved : Rows.WalkCutSaid :=
  over
#print axioms proved
end Go.Proofs.Ytmjadmoadedghaa.LWalkCut
