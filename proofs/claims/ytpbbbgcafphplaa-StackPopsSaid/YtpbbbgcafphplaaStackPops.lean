/- The statement StackPops is proved for every input, from contracts of the functions that it calls; no condition is added. -/
import Derived.Test.YtpbbbgcafphplaaSk10
import Derived.BigQuiet
namespace Go.Proofs.Ytpbbbgcafphplaa.LStackPops
open Go.Joins Go.ChangeShapes Go.Shelf Go.Maps Go.WideShapes Go.ChangeAt Go.RowKit Go.Deep
set_option linter.unusedVariables false
set_option linter.unusedSimpArgs false

def ups (m : Nat) : List Int := (List.range m).map (fun (i : Nat) => (i : Int) + 1)
theorem ups_len (m : Nat) : (ups m).length = m := by simp [ups]
theorem ups_succ (m : Nat) : ups (m + 1) = ups m ++ [(m : Int) + 1] := by simp [ups, List.range_succ]
theorem pus_ups (xs : List Int) (m : Nat) : pus (xs ++ ups m) ((m : Int) + 1) = if xs.length + m < 16 then xs ++ ups (m + 1) else xs ++ ups m := by
  unfold pus
  rw [List.length_append, ups_len, ups_succ, List.append_assoc]
theorem pue_ups (xs : List Int) (m : Nat) : pue (xs ++ ups m) = if xs.length + m < 16 then 0 else 4 := by
  unfold pue
  rw [List.length_append, ups_len]
theorem pos_ups (xs : List Int) (r : Nat) : pos (xs ++ ups (r + 1)) = xs ++ ups r := by
  unfold pos
  rw [ups_succ, ← List.append_assoc, List.length_append, List.length_singleton, Nat.add_sub_cancel, List.take_left]
theorem poe_ups (xs : List Int) (r : Nat) : poe (xs ++ ups (r + 1)) = 0 := if_neg (by rw [ups_succ]; simp)
theorem gtv_ups (xs : List Int) (r : Nat) : gtv (xs ++ ups (r + 1)) (((xs ++ ups (r + 1)).length : Int) - 1) = (r : Int) + 1 := by
  have hl : (xs ++ ups (r + 1)).length = xs.length + r + 1 := by rw [List.length_append, ups_len]; omega
  unfold gtv
  rw [if_pos (by omega), hl, show (((xs.length + r + 1 : Nat) : Int) - 1).toNat = (xs ++ ups r).length from by rw [List.length_append, ups_len]; omega, ups_succ, ← List.append_assoc]
  simp [List.getD]
theorem gte_ups (xs : List Int) (r : Nat) : gte (xs ++ ups (r + 1)) (((xs ++ ups (r + 1)).length : Int) - 1) = 0 := by
  have hl : (xs ++ ups (r + 1)).length = xs.length + r + 1 := by rw [List.length_append, ups_len]; omega
  exact if_pos (by omega)
def URel (w : World) (xs : List Int) (n : Nat) (u6 u7 u8 : Value) (wr : World) : Prop := ∃ m : Nat, m ≤ n ∧ u7 = .int .i64 m ∧ u8 = .int .i64 m ∧ Sl wr u6 (xs ++ ups m) ∧ Up w wr
def DRel (w : World) (xs : List Int) (m : Nat) (u6 u11 : Value) (wr : World) : Prop := ∃ j : Nat, j ≤ m ∧ u11 = .int .i64 j ∧ Sl wr u6 (xs ++ ups (m - j)) ∧ Up w wr
set_option maxRecDepth 100000 in
set_option maxHeartbeats 4000000 in
theorem walk_lt (v : Value) (xs : List Int) (n : Int) (w : World) (hx : Sl w v xs) (h : n < 0) :
    Calls Try.prog 8 #[v, .int .i64 n] w (fun e w' => e = .returned (.bool true) ∧ Up w w') := by
  have h1 : decide (n < 0) = true := decide_eq_true h
  obtain ⟨A, c, rfl, -⟩ := hx
  generalize xs.length = l at *
  clear h
  go_enter Try.func8, Try.ntmps8
  have U0 : Up w w := Up.refl w
  go_wp2_with (fail)
  refine (shown_any _).mono ?_
  rintro e w1 ⟨rfl, k1⟩
  have U1 := U0.trans k1
  clear k1
  go_wp2
  go_ret
  exact ⟨rfl, U1⟩

set_option maxRecDepth 100000 in
set_option maxHeartbeats 4000000 in
theorem walk_gt (v : Value) (xs : List Int) (n : Int) (w : World) (hx : Sl w v xs) (h : 20 < n) :
    Calls Try.prog 8 #[v, .int .i64 n] w (fun e w' => e = .returned (.bool true) ∧ Up w w') := by
  have h1 : decide (n < 0) = false := decide_eq_false (by omega)
  have h2 : decide (n > 20) = true := decide_eq_true h
  obtain ⟨A, c, rfl, -⟩ := hx
  generalize xs.length = l at *
  clear h
  go_enter Try.func8, Try.ntmps8
  have U0 : Up w w := Up.refl w
  go_wp2_with (fail)
  refine (shown_any _).mono ?_
  rintro e w1 ⟨rfl, k1⟩
  have U1 := U0.trans k1
  clear k1
  go_wp2
  go_ret
  exact ⟨rfl, U1⟩

set_option maxRecDepth 100000 in
set_option maxHeartbeats 4000000 in
theorem walk_long (v : Value) (xs : List Int) (n : Int) (w : World) (hx : Sl w v xs) (h0 : 0 ≤ n) (h : n ≤ 20) (hl : 30 < xs.length) :
    Calls Try.prog 8 #[v, .int .i64 n] w (fun e w' => e = .returned (.bool true) ∧ Up w w') := by
  have h1 : decide (n < 0) = false := decide_eq_false (by omega)
  have h2 : decide (n > 20) = false := decide_eq_false (by omega)
  have h3 : decide ((xs.length : Int) > 30) = true := decide_eq_true (by omega)
  clear hl
  obtain ⟨A, c, rfl, -⟩ := hx
  generalize xs.length = l at *
  clear h
  go_enter Try.func8, Try.ntmps8
  have U0 : Up w w := Up.refl w
  go_wp2_with (fail)
  refine (shown_any _).mono ?_
  rintro e w1 ⟨rfl, k1⟩
  have U1 := U0.trans k1
  clear k1
  go_wp2
  go_ret
  exact ⟨rfl, U1⟩

set_option maxRecDepth 100000 in
set_option maxHeartbeats 4000000 in
theorem walk_is (v : Value) (xs : List Int) (n : Nat) (w : World) (hx : Sl w v xs) (h : n ≤ 20) (hl : xs.length ≤ 30) :
    Calls Try.prog 8 #[v, .int .i64 n] w (fun e w' => e = .returned (.bool true) ∧ Up w w') := by
  have h1 : decide ((n : Int) < 0) = false := decide_eq_false (by omega)
  have h2 : decide ((n : Int) > 20) = false := decide_eq_false (by omega)
  have h3 : decide ((xs.length : Int) > 30) = false := decide_eq_false (by omega)
  have HX := Lib.hid hx
  have HLX := Lib.hid hl
  obtain ⟨A, c, rfl, -⟩ := hx
  generalize hlx : xs.length = l at *
  have HLX2 := Lib.hid hlx
  go_enter Try.func8, Try.ntmps8
  have U0 : Up w w := Up.refl w
  go_wp2_with (fail)
  refine (shown_any _).mono ?_
  rintro e w1 ⟨rfl, k1⟩
  have U1 := U0.trans k1
  clear k1
  have HU1 := Lib.hid U1
  clear U1 U0
  go_wp2_with (fail)
  go_loopw [6, 7, 8] (fun u6 u7 u8 wr => URel w xs n u6 u7 u8 wr) (fun _ _ i _ => n - (intOf i).toNat)
  case atStart => exact ⟨0, Nat.zero_le _, rfl, rfl, by rw [show ups 0 = [] from rfl, List.append_nil]; exact HX.out.up HU1.out, HU1.out⟩
  case round =>
    rename World => wb
    clear HU1
    obtain ⟨m, hm, rfl, rfl, hk, hU⟩ := hrel
    by_cases hlt : m < n
    · have hp := fun w' (v' : Value) (q : Sl w' v' (xs ++ ups m)) => push_any v' _ ((m : Int) + 1) w' q
      rw [pus_ups, pue_ups] at hp
      by_cases h16 : xs.length + m < 16
      · rw [if_pos h16, if_pos h16] at hp
        have hp := Lib.hid hp
        have HS := Lib.hid hk
        have HU := Lib.hid hU
        obtain ⟨Ak, ck, rfl, -⟩ := hk
        generalize (xs ++ ups m).length = lk at *
        clear hU h16
        go_wp2_with (fail)
        refine (hp.out _ _ HS.out).mono ?_
        rintro e w2 ⟨v2, rfl, hs2, k2⟩
        have HU2 := Lib.hid (HU.out.trans k2)
        have HS2 := Lib.hid hs2
        obtain ⟨A2, c2, rfl, -⟩ := hs2
        generalize (xs ++ ups (m + 1)).length = l2 at *
        clear k2
        go_wp2
        go_roundw
        case rel => exact ⟨m + 1, by omega, by go_num, by go_num, HS2.out, HU2.out⟩
        case measure => simp [intOf]; omega
      · rw [if_neg h16, if_neg h16] at hp
        have hp := Lib.hid hp
        have HS := Lib.hid hk
        have HU := Lib.hid hU
        have hge : decide (((l : Int) + m) ≥ 16) = true := decide_eq_true (by have := HLX2.out; omega)
        have HGE := Lib.hid hge
        obtain ⟨Ak, ck, rfl, -⟩ := hk
        generalize (xs ++ ups m).length = lk at *
        clear hU h16
        go_wp2_with (fail)
        refine (hp.out _ _ HS.out).mono ?_
        rintro e w2 ⟨v2, rfl, hs2, k2⟩
        have hU := HU.out.trans k2
        have hk := HS.out.up k2
        have hneq : ((m : Int) == (n : Int)) = false := beq_eq_false_iff_ne.2 (by omega)
        have HNE := Lib.hid hneq
        have hm20 : m ≤ 20 := by omega
        obtain ⟨A2, c2, rfl, -⟩ := hs2
        generalize (xs ++ ups m).length = l2 at *
        clear k2 HU HS hp hge hneq
        have hm : m ≤ 20 := hm20
        clear hm20
        have HK := Lib.hid hk
        have HM := Lib.hid hm
        have HUM := Lib.hid hU
        clear hk hm hU
        go_wp2_with (fail)
        go_loopw [6, 11] (fun u6 u11 wr => DRel w xs m u6 u11 wr) (fun _ i _ => m - (intOf i).toNat)
        case atStart => exact ⟨0, Nat.zero_le _, rfl, HK.out, HUM.out⟩
        case round =>
          rename World => wc
          obtain ⟨j, hjm, rfl, hk, hU⟩ := hrel
          by_cases hlt : j < m
          · obtain ⟨r, hr⟩ : ∃ r, m - j = r + 1 := ⟨m - j - 1, by omega⟩
            rw [hr] at hk
            have hr2 : m - (j + 1) = r := by omega
            have hnq : ((r : Int) + 1 != (m : Int) - (j : Int)) = false := by rw [bne_eq_false_iff_eq]; omega
            have hrm : r ≤ 20 := by have := HM.out; omega
            have hll : (xs ++ ups (r + 1)).length ≤ 51 := by rw [List.length_append, ups_len]; have := HLX.out; omega
            have hg := Lib.hid (fun (v' : Value) w' (q : Sl w' v' (xs ++ ups (r + 1))) => get_any v' _ (((xs ++ ups (r + 1)).length : Int) - 1) w' q)
            rw [gtv_ups, gte_ups] at hg
            have hp := Lib.hid (fun (v' : Value) w' (q : Sl w' v' (xs ++ ups (r + 1))) => pop_any v' _ w' q (by omega))
            rw [pos_ups, poe_ups] at hp
            have HS := Lib.hid hk
            obtain ⟨Ak, ck, rfl, -⟩ := hk
            have HR := Lib.hid hr2
            generalize (xs ++ ups (r + 1)).length = l2 at *
            have HU := Lib.hid hU
            clear hU hr hr2
            go_wp2_with (fail)
            refine (hg.out _ _ HS.out).mono ?_
            rintro e w3 ⟨rfl, k3⟩
            go_wp2_with (fail)
            refine (hp.out _ _ (HS.out.up k3)).mono ?_
            rintro e w4 ⟨v4, rfl, hs4, k4⟩
            have HU4 := Lib.hid ((HU.out.trans k3).trans k4)
            have HS4 := Lib.hid hs4
            obtain ⟨A4, c4, rfl, -⟩ := hs4
            generalize (xs ++ ups r).length = l4 at *
            clear k3 k4
            go_wp2
            go_roundw
            case rel => exact ⟨j + 1, by omega, by go_num, by rw [HR.out]; exact HS4.out, HU4.out⟩
            case measure => simp [intOf]; omega
          · obtain rfl : j = m := by omega
            rw [Nat.sub_self, show ups 0 = [] from rfl, List.append_nil] at hk
            have HU := Lib.hid hU
            obtain ⟨Ak, ck, rfl, -⟩ := hk
            clear hU
            rw [HLX2.out] at *
            have hge := HGE.out
            have hneq := HNE.out
            go_wp2
            go_ret
            exact ⟨rfl, HU.out⟩
    · obtain rfl : m = n := by omega
      have HS := Lib.hid hk
      obtain ⟨Ak, ck, rfl, -⟩ := hk
      have hk := HS.out
      generalize (xs ++ ups m).length = lk at *
      have hm : m ≤ 20 := h
      clear HS
      have HK := Lib.hid hk
      have HM := Lib.hid hm
      have HUM := Lib.hid hU
      clear hk hm hU
      go_wp2_with (fail)
      go_loopw [6, 11] (fun u6 u11 wr => DRel w xs m u6 u11 wr) (fun _ i _ => m - (intOf i).toNat)
      case atStart => exact ⟨0, Nat.zero_le _, rfl, HK.out, HUM.out⟩
      case round =>
        rename World => wc
        obtain ⟨j, hjm, rfl, hk, hU⟩ := hrel
        by_cases hlt : j < m
        · obtain ⟨r, hr⟩ : ∃ r, m - j = r + 1 := ⟨m - j - 1, by omega⟩
          rw [hr] at hk
          have hr2 : m - (j + 1) = r := by omega
          have hnq : ((r : Int) + 1 != (m : Int) - (j : Int)) = false := by rw [bne_eq_false_iff_eq]; omega
          have hrm : r ≤ 20 := by have := HM.out; omega
          have hll : (xs ++ ups (r + 1)).length ≤ 51 := by rw [List.length_append, ups_len]; have := HLX.out; omega
          have hg := Lib.hid (fun (v' : Value) w' (q : Sl w' v' (xs ++ ups (r + 1))) => get_any v' _ (((xs ++ ups (r + 1)).length : Int) - 1) w' q)
          rw [gtv_ups, gte_ups] at hg
          have hp := Lib.hid (fun (v' : Value) w' (q : Sl w' v' (xs ++ ups (r + 1))) => pop_any v' _ w' q (by omega))
          rw [pos_ups, poe_ups] at hp
          have HS := Lib.hid hk
          obtain ⟨Ak, ck, rfl, -⟩ := hk
          have HR := Lib.hid hr2
          generalize (xs ++ ups (r + 1)).length = l2 at *
          have HU := Lib.hid hU
          clear hU hr hr2
          go_wp2_with (fail)
          refine (hg.out _ _ HS.out).mono ?_
          rintro e w3 ⟨rfl, k3⟩
          go_wp2_with (fail)
          refine (hp.out _ _ (HS.out.up k3)).mono ?_
          rintro e w4 ⟨v4, rfl, hs4, k4⟩
          have HU4 := Lib.hid ((HU.out.trans k3).trans k4)
          have HS4 := Lib.hid hs4
          obtain ⟨A4, c4, rfl, -⟩ := hs4
          generalize (xs ++ ups r).length = l4 at *
          clear k3 k4
          go_wp2
          go_roundw
          case rel => exact ⟨j + 1, by omega, by go_num, by rw [HR.out]; exact HS4.out, HU4.out⟩
          case measure => simp [intOf]; omega
        · obtain rfl : j = m := by omega
          rw [Nat.sub_self, show ups 0 = [] from rfl, List.append_nil] at hk
          have HU := Lib.hid hU
          obtain ⟨Ak, ck, rfl, -⟩ := hk
          clear hU
          rw [HLX2.out] at *
          go_wp2
          go_ret
          exact ⟨rfl, HU.out⟩

theorem walk (v : Value) (xs : List Int) (n : Int) (w : World) (hx : Sl w v xs) : Calls Try.prog 8 #[v, .int .i64 n] w (fun e w' => e = .returned (.bool true) ∧ Up w w') := by
  by_cases h0 : n < 0
  · exact walk_lt v xs n w hx h0
  by_cases h1 : 20 < n
  · exact walk_gt v xs n w hx h1
  by_cases h2 : 30 < xs.length
  · exact walk_long v xs n w hx (by omega) (by omega) h2
  obtain ⟨k, rfl⟩ : ∃ k : Nat, n = k := ⟨n.toNat, by omega⟩
  exact walk_is v xs k w hx (by omega) (by omega)

theorem own : ownKnob Try.prog.godebug = none := by kernel_rfl
set_option maxRecDepth 100000 in
theorem lifted (os : Os) (started : os.Started) (H : Type) (enc : TypeId × Value → H) :
    ReturnsInHanded {} Try.checked os 8 .any (Rows.stackPopsSpec.pre6 enc Try.prog Try.f8 Rows.stackPopsRow.domain false) (Rows.stackPopsSpec.post enc Try.prog Try.f8 false true false false) := by
  refine returnsInHanded_of_change (C := Try.checked) own started (by kernel_rfl) Try.func8
    (ChangeSpec.witness6 (enc := enc) (C := Try.checked) false ⟨#[], #[.slice none 0 0, .int .i64 0], []⟩ 8 (by kernel_rfl) (by kernel_rfl) (by kernel_rfl) (by kernel_rfl)) ?_
  intro W base args ds gs before hval0 hW hcnd _
  have hval : ∀ (j : Nat) t v, Try.f8.params[j]? = some t → args[j]? = some v → Value.okWide Try.prog W .any base t v := hval0
  have hW' := hW
  obtain ⟨p, q, hA0, hV, rfl, hfz, hnd⟩ := hW
  have hA : DataW.TrodAll enc Try.prog W 0 (fun _ => true) true Try.f8.params.toList args.toList ds p := hA0
  rw [Try.params8] at hA hval
  obtain ⟨v0, vs0, d0, ds0, p0, q0, hargs, rfl, rfl, h0, r0⟩ := trodAll_cons hA
  obtain ⟨v1, vs1, d1, ds1, p1, q1, rfl, rfl, rfl, h1, r1⟩ := trodAll_cons r0
  obtain ⟨rfl, rfl, rfl⟩ := trodAll_nil r1
  obtain rfl : args = #[v0, v1] := by cases args; simp_all
  obtain ⟨rfl, rfl⟩ := trodVars_none hV
  have h0k := h0
  obtain ⟨xs0, s0, u0, b0, y0⟩ := words_at (hval 0 22 v0 rfl rfl) h0
  obtain ⟨a1, rfl, rfl, rfl, w1⟩ := open_int Try.underlying3 (hval 1 3 v1 rfl rfl) h1
  clear hA0 hval0
  simp only [List.append_nil, List.nil_append] at hW'
  refine (walk v0 xs0 a1 W s0).mono fun e W' ⟨he, hg⟩ => ?_
  subst he
  exact ⟨_, rfl, post_below (pa := p0) (pv := []) hW' (fun _ _ _ => (trodAll_cons_mk (shut_bool Try.underlying4 _) trodAll_mk0))
    (fun sp hsp => by
      have t := (trodAll_cons_mk (trod_keeps (sp := sp) (by kernel_rfl) (of_decide_eq_true (by kernel_rfl)) h0k hg (fun x hx => hW'.lt x (by simp [hx])) (fun x hx => hsp x (by simp [hx]))) (trodAll_cons_mk (shut_int Try.underlying3 w1) trodAll_mk0))
      simp only [List.append_nil, List.nil_append] at t
      exact t) (fun _ _ => rfl) (by simp)
    hg (ok_one (by kernel_rfl) rfl (okWide_bool_mk Try.underlying4 _))⟩

set_option maxRecDepth 100000 in
theorem over : Rows.stackPopsRow.holds Try.pinned (OpenSpec.ofChange Rows.stackPopsSpec) :=
  OpenClaim.holds_of_wide 8 Try.f8 rfl rfl rfl rfl rfl rfl rfl ⟨rfl, rfl, rfl, rfl, rfl⟩ rfl rfl rfl rfl rfl (by kernel_rfl) Try.func8 (by kernel_rfl)
    (of_decide_eq_true (by kernel_rfl)) (by unfold Func.isWrapper; first | (rw [if_pos (by decide +kernel)]; kernel_rfl) | (rw [if_neg (by decide +kernel)]; exact ⟨rfl, rfl⟩))
    (fun os started H enc _ => lifted os started H enc)

theorem proved : Rows.StackPopsSaid :=
  over
#print axioms proved
end Go.Proofs.Ytpbbbgcafphplaa.LStackPops
