/- The statement HeadMaps is proved for every input, from contracts of the functions that it calls; no condition is added. -/
import Derived.Test.YtelchfmfioofmaaHd8
namespace Go.Proofs.Ytelchfmfioofmaa.LHeadMaps
open Go.Joins Go.ChangeShapes Go.WideShapes Go.ChangeAt Go.RowKit Go.Deep
set_option linter.unusedVariables false
set_option linter.unusedSimpArgs false

theorem own : ownKnob Try.prog.godebug = none := by kernel_rfl

/-- With one bit turned. -/
def flp (m i : Int) : Int := ((m.toNat ^^^ 2 ^ i.toNat : Nat) : Int)
theorem flp_nn (m i : Int) : 0 ≤ flp m i := by unfold flp; omega
theorem two_cast (k : Nat) : ((2 : Int) ^ k) = (((2 : Nat) ^ k : Nat) : Int) := by simp
theorem flp_is (m i : Int) (hm : 0 ≤ m) (hm1 : m < 65536) (i0 : 0 ≤ i) (i1 : i ≤ 40) : bits BinOp.xor IntKind.u64 m (IntKind.u64.wrap (2 ^ i.toNat)) = flp m i := by
  obtain ⟨a, rfl⟩ := Int.eq_ofNat_of_zero_le hm
  have hp : (2 : Nat) ^ i.toNat ≤ 2 ^ 40 := Nat.pow_le_pow_right (by decide) (by omega)
  have h40 : (2 : Nat) ^ 40 = 1099511627776 := by decide
  unfold flp
  rw [two_cast, IntKind.wrap_u64, Int.toNat_natCast]
  generalize (2 : Nat) ^ i.toNat = q at hp
  have e : (q : Int) % 18446744073709551616 = (q : Int) := by omega
  rw [e, u64_xor_nat _ _ (by omega) (by omega)]
theorem bit_is (a k : Nat) : (((a : Int) / 2 ^ k % 2) == 1) = a.testBit k := by
  rw [Nat.testBit_eq_decide_div_mod_eq, two_cast, Bool.eq_iff_iff, beq_iff_eq, decide_eq_true_iff]
  omega
theorem flp_ptb (l m i : Int) (hm : 0 ≤ m) (i0 : 0 ≤ i) (hi : i < l) : ptb l (flp m i) i = !ptb l m i := by
  obtain ⟨a, rfl⟩ := Int.eq_ofNat_of_zero_le hm
  unfold ptb flp
  rw [decide_eq_true i0, decide_eq_true hi, Bool.true_and, Bool.true_and, Bool.true_and, Bool.true_and, bit_is, bit_is, Int.toNat_natCast, Nat.testBit_xor, Nat.testBit_two_pow_self]
  cases a.testBit i.toNat <;> rfl
theorem flp_in (l m i : Int) (hm : 0 ≤ m) (h : m < 2 ^ l.toNat) (i0 : 0 ≤ i) (hi : i < l) : flp m i < 2 ^ l.toNat := by
  obtain ⟨a, rfl⟩ := Int.eq_ofNat_of_zero_le hm
  unfold flp
  rw [two_cast] at h ⊢
  have := Nat.xor_lt_two_pow (x := a) (y := 2 ^ i.toNat) (n := l.toNat) (by omega) (Nat.pow_lt_pow_right (by decide) (by omega))
  rw [Int.toNat_natCast]
  omega
theorem flp_out (l m i : Int) (hm : 0 ≤ m) (h : m < 2 ^ l.toNat) (l0 : 0 ≤ l) (hi : l ≤ i) : ¬ flp m i < 2 ^ l.toNat := by
  obtain ⟨a, rfl⟩ := Int.eq_ofNat_of_zero_le hm
  unfold flp
  rw [two_cast] at h ⊢
  rw [Int.toNat_natCast]
  have hp : (2 : Nat) ^ l.toNat ≤ 2 ^ i.toNat := Nat.pow_le_pow_right (by decide) (by omega)
  have hb : (a ^^^ 2 ^ i.toNat).testBit i.toNat = true := by
    rw [Nat.testBit_xor, Nat.testBit_two_pow_self, Nat.testBit_lt_two_pow (by omega)]; rfl
  have := Nat.ge_two_pow_of_testBit hb
  omega
/-- A right object's head, with another Map. -/
theorem rte_map {t l m m' : Int} (h : rte t l m = 0) (ht : t ≠ 255) (hm : 0 ≤ m) (hm' : 0 ≤ m') : rte t l m' = if m' < 2 ^ l.toNat then 0 else 8 := by
  obtain ⟨h0, h1, h2, h3, h4, h5⟩ := rte_small hm h
  have a : ¬ (t < 1 ∨ (200 < t ∧ t ≠ 255) ∨ l < 0) := by omega
  have b : ¬ ((t ≠ 255 ∧ 16 < l) ∨ 65535 < l) := by omega
  by_cases c : m' < 2 ^ l.toNat
  · rw [if_pos c]
    refine rte_0 a b ?_
    rintro (⟨_, q⟩ | ⟨q, _⟩)
    · exact q ((div_pow_zero hm').2 c)
    · exact ht q
  · rw [if_neg c]
    exact rte_8 a b (.inl ⟨ht, fun q => c ((div_pow_zero hm').1 q)⟩)

set_option maxHeartbeats 4000000 in
theorem walk_go (t l m i : Int) (hm : 0 ≤ m) (h : rte t l m = 0) (ht : t ≠ 255) (i0 : 0 ≤ i) (i1 : i ≤ 40) (w : World) :
    Calls Try.prog 7 #[hdv t l m, .int .i64 i] w fun e w' => e = .returned (.bool true) ∧ Up w w' := by
  obtain ⟨s0, s1, s2, s3, s4, s5⟩ := rte_small hm h
  have hlt : m < 2 ^ l.toNat := by omega
  have c1 := Lib.hid (fun w => right_is t l m 0 h w)
  have HX := Lib.hid (flp_is m i hm s4 i0 i1)
  have hr := rte_map (m' := flp m i) h ht hm (flp_nn m i)
  have t1 : (t == 255) = false := beq_eq_false_iff_ne.mpr ht
  have d1 : decide (i < 0) = false := decide_eq_false (by omega)
  have d2 : decide (40 < i) = false := decide_eq_false (by omega)
  obtain ⟨m', hm'⟩ : ∃ m', flp m i = m' := ⟨_, rfl⟩
  by_cases hi : l ≤ i
  · rw [if_neg (flp_out l m i hm hlt s2 hi)] at hr
    rw [hm'] at HX hr
    have c2 := Lib.hid (fun w => right_is t l m' 8 hr w)
    clear hr hlt s0 s1 s2 s3 s4 s5 h ht hm hm'
    go_enter Try.func7, Try.ntmps7
    go_wp2_with (fail)
    refine (shown_any _).mono ?_
    rintro e w1 ⟨rfl, h1⟩
    have A1 := (Blk.new w 24 #[.int .i64 t, .int .i64 l, .int .u64 m]).up h1
    have U1 := ((Up.refl w).alloc (.cells #[.int .i64 t, .int .i64 l, .int .u64 m] 24)).trans h1
    clear h1
    have A1c := A1.cell
    go_wp2_with (fail)
    refine (c1.out _).mono ?_
    rintro e w2 ⟨rfl, h2'⟩
    have A2 := A1.up h2'
    have U2 := U1.trans h2'
    clear h2' U1 A1 A1c
    have A2c := A2.cell
    have A2l := A2.lt
    go_wp2_with (fail)
    go_region
    rw [HX.out]
    go_wp2_with (fail)
    refine (c2.out _).mono ?_
    rintro e w3 ⟨rfl, h3⟩
    have A3 := (A2.alloc _).drew.up h3
    have U3 := ((U2.alloc _).drew).trans h3
    have A3c := A3.cell
    clear A2 A2c A2l U2 h3
    go_wp2
    go_ret
    exact ⟨rfl, U3⟩
  · rw [if_pos (flp_in l m i hm hlt i0 (by omega))] at hr
    have hb := flp_ptb l m i hm i0 (by omega)
    obtain ⟨b, hbb⟩ : ∃ b, ptb l m i = b := ⟨_, rfl⟩
    rw [hbb] at hb
    have hmx := flp_in l m i hm hlt i0 (by omega)
    have hn := flp_nn m i
    have h16 := pow16 l (by omega)
    rw [hm'] at HX hr hb hmx hn
    have c2 := Lib.hid (fun w => right_is t l m' 0 hr w)
    have c3 := fun w => ptr_any t l m' i hn (by omega) (by omega) w
    rw [hb] at c3
    have c3 := Lib.hid c3
    have c4 := fun w => ptr_any t l m i hm (by omega) (by omega) w
    rw [hbb] at c4
    have c4 := Lib.hid c4
    have d3 : decide (l ≤ i) = false := decide_eq_false hi
    clear hr hlt s0 s1 s2 s3 s4 s5 h ht hm hm' hb hbb hmx hn h16
    cases b
    all_goals
      go_enter Try.func7, Try.ntmps7
      go_wp2_with (fail)
      refine (shown_any _).mono ?_
      rintro e w1 ⟨rfl, h1⟩
      have A1 := (Blk.new w 24 #[.int .i64 t, .int .i64 l, .int .u64 m]).up h1
      have U1 := ((Up.refl w).alloc (.cells #[.int .i64 t, .int .i64 l, .int .u64 m] 24)).trans h1
      clear h1
      have A1c := A1.cell
      go_wp2_with (fail)
      refine (c1.out _).mono ?_
      rintro e w2 ⟨rfl, h2'⟩
      have A2 := A1.up h2'
      have U2 := U1.trans h2'
      clear h2' U1 A1 A1c
      have A2c := A2.cell
      have A2l := A2.lt
      go_wp2_with (fail)
      go_region
      rw [HX.out]
      go_wp2_with (fail)
      refine (c2.out _).mono ?_
      rintro e w3 ⟨rfl, h3⟩
      have A3 := (A2.alloc (.cells #[.int .i64 t, .int .i64 l, .int .u64 m'] 24)).drew.up h3
      have K3 := (Blk.new w2 24 #[.int .i64 t, .int .i64 l, .int .u64 m']).drew.up h3
      have U3 := ((U2.alloc (.cells #[.int .i64 t, .int .i64 l, .int .u64 m'] 24)).drew).trans h3
      have A3c := A3.cell
      have K3c := K3.cell
      clear A2 A2c A2l U2 h3
      go_wp2_with (fail)
      have A0 := A3.drew
      have K0 := K3.drew
      have UW := U3.drew
      have U0 := Up.refl w3.drew
      clear A3 A3c U3 K3 K3c
      go_region_held3 (fun w' => (∀ i, w'.cell? ⟨w.heap.size, i, none⟩ = (#[.int .i64 t, .int .i64 l, .int .u64 m] : Array Value)[i]?) ∧ (∀ i, w'.cell? ⟨w2.heap.size, i, none⟩ = (#[.int .i64 t, .int .i64 l, .int .u64 m'] : Array Value)[i]?))
        (exact ⟨fun i => (Blk.up A0 (by assumption)).cell i, fun i => (Blk.up K0 (by assumption)).cell i⟩)
        (first
          | (go_at_call 17; ((with_reducible refine (c3.out _).mono ?_); rintro e wz ⟨rfl, hz⟩; have UZ := Up.trans (a := w3.drew) (by assumption) hz))
          | (go_at_call 17; ((with_reducible refine (c4.out _).mono ?_); rintro e wz ⟨rfl, hz⟩; have UZ := Up.trans (a := w3.drew) (by assumption) hz)))
      all_goals
        go_wp2
        go_ret
        exact ⟨rfl, UW.trans UZ⟩

set_option maxHeartbeats 4000000 in
theorem walk_no (t l m i x : Int) (h : rte t l m = x) (hx : x ≠ 0 ∨ (x = 0 ∧ (t = 255 ∨ (t ≠ 255 ∧ (i < 0 ∨ (0 ≤ i ∧ 40 < i)))))) (w : World) :
    Calls Try.prog 7 #[hdv t l m, .int .i64 i] w fun e w' => e = .returned (.bool true) ∧ Up w w' := by
  have c1 := Lib.hid (fun w => right_is t l m x h w)
  clear h
  rcases hx with hx | ⟨rfl, ht | ⟨ht, hi | ⟨h0, hi⟩⟩⟩
  · have n1 : (x != 0) = true := bne_iff_ne.mpr hx
    clear hx
    go_enter Try.func7, Try.ntmps7
    go_wp2_with (fail)
    refine (shown_any _).mono ?_
    rintro e w1 ⟨rfl, h1⟩
    have A1 := (Blk.new w 24 #[.int .i64 t, .int .i64 l, .int .u64 m]).up h1
    have U1 := ((Up.refl w).alloc (.cells #[.int .i64 t, .int .i64 l, .int .u64 m] 24)).trans h1
    clear h1
    have A1c := A1.cell
    go_wp2_with (fail)
    refine (c1.out _).mono ?_
    rintro e w2 ⟨rfl, h2'⟩
    have A2 := A1.up h2'
    have U2 := U1.trans h2'
    clear h2' U1 A1 A1c
    have A2c := A2.cell
    go_wp2
    go_ret
    exact ⟨rfl, U2⟩
  · have t1 : (t == 255) = true := beq_iff_eq.mpr ht
    clear ht
    go_enter Try.func7, Try.ntmps7
    go_wp2_with (fail)
    refine (shown_any _).mono ?_
    rintro e w1 ⟨rfl, h1⟩
    have A1 := (Blk.new w 24 #[.int .i64 t, .int .i64 l, .int .u64 m]).up h1
    have U1 := ((Up.refl w).alloc (.cells #[.int .i64 t, .int .i64 l, .int .u64 m] 24)).trans h1
    clear h1
    have A1c := A1.cell
    go_wp2_with (fail)
    refine (c1.out _).mono ?_
    rintro e w2 ⟨rfl, h2'⟩
    have A2 := A1.up h2'
    have U2 := U1.trans h2'
    clear h2' U1 A1 A1c
    have A2c := A2.cell
    go_wp2
    go_ret
    exact ⟨rfl, U2⟩
  · have t1 : (t == 255) = false := beq_eq_false_iff_ne.mpr ht
    have d1 : decide (i < 0) = true := decide_eq_true hi
    clear ht
    go_enter Try.func7, Try.ntmps7
    go_wp2_with (fail)
    refine (shown_any _).mono ?_
    rintro e w1 ⟨rfl, h1⟩
    have A1 := (Blk.new w 24 #[.int .i64 t, .int .i64 l, .int .u64 m]).up h1
    have U1 := ((Up.refl w).alloc (.cells #[.int .i64 t, .int .i64 l, .int .u64 m] 24)).trans h1
    clear h1
    have A1c := A1.cell
    go_wp2_with (fail)
    refine (c1.out _).mono ?_
    rintro e w2 ⟨rfl, h2'⟩
    have A2 := A1.up h2'
    have U2 := U1.trans h2'
    clear h2' U1 A1 A1c
    have A2c := A2.cell
    go_wp2
    go_ret
    exact ⟨rfl, U2⟩
  · have t1 : (t == 255) = false := beq_eq_false_iff_ne.mpr ht
    have d1 : decide (i < 0) = false := decide_eq_false (by omega)
    have d2 : decide (40 < i) = true := decide_eq_true hi
    clear ht
    go_enter Try.func7, Try.ntmps7
    go_wp2_with (fail)
    refine (shown_any _).mono ?_
    rintro e w1 ⟨rfl, h1⟩
    have A1 := (Blk.new w 24 #[.int .i64 t, .int .i64 l, .int .u64 m]).up h1
    have U1 := ((Up.refl w).alloc (.cells #[.int .i64 t, .int .i64 l, .int .u64 m] 24)).trans h1
    clear h1
    have A1c := A1.cell
    go_wp2_with (fail)
    refine (c1.out _).mono ?_
    rintro e w2 ⟨rfl, h2'⟩
    have A2 := A1.up h2'
    have U2 := U1.trans h2'
    clear h2' U1 A1 A1c
    have A2c := A2.cell
    go_wp2
    go_ret
    exact ⟨rfl, U2⟩

theorem walk (t l m i : Int) (ht : I64 t) (hl : I64 l) (hm : U64 m) (hi : I64 i) (w : World) :
    Calls Try.prog 7 #[hdv t l m, .int .i64 i] w fun e w' => e = .returned (.bool true) ∧ Up w w' := by
  by_cases h : rte t l m = 0
  · by_cases ht' : t = 255
    · exact walk_no t l m i 0 h (.inr ⟨rfl, .inl ht'⟩) w
    · by_cases h0 : i < 0
      · exact walk_no t l m i 0 h (.inr ⟨rfl, .inr ⟨ht', .inl h0⟩⟩) w
      · by_cases h1 : 40 < i
        · exact walk_no t l m i 0 h (.inr ⟨rfl, .inr ⟨ht', .inr ⟨by omega, h1⟩⟩⟩) w
        · exact walk_go t l m i hm.1 h ht' (by omega) (by omega) w
  · exact walk_no t l m i _ rfl (.inl h) w

set_option maxRecDepth 100000 in
theorem lifted (os : Os) (started : os.Started) (H : Type) (enc : TypeId × Value → H) :
    ReturnsInHanded {} Try.checked os 7 .any (Rows.headMapsSpec.pre6 enc Try.prog Try.f7 Rows.headMapsRow.domain false) (Rows.headMapsSpec.post enc Try.prog Try.f7 false true false false) := by
  refine returnsInHanded_of_change (C := Try.checked) own started (by kernel_rfl) Try.func7
    (ChangeSpec.witness6 (enc := enc) (C := Try.checked) false ⟨#[], #[.agg #[.int .i64 0, .int .i64 0, .int .u64 0], .int .i64 0], []⟩ 8 (by kernel_rfl) (by kernel_rfl) (by kernel_rfl) (by kernel_rfl)) ?_
  intro W base args ds gs before hval0 hW hcnd _
  have hval : ∀ (j : Nat) t v, Try.f7.params[j]? = some t → args[j]? = some v → Value.okWide Try.prog W .any base t v := hval0
  have hW' := hW
  obtain ⟨p, q, hA0, hV, rfl, hfz, hnd⟩ := hW
  have hA : DataW.TrodAll enc Try.prog W 0 (fun _ => true) true Try.f7.params.toList args.toList ds p := hA0
  rw [Try.params7] at hA hval
  obtain ⟨v0, vs0, d0, ds0, p0, q0, hargs, rfl, rfl, h0, r0⟩ := trodAll_cons hA
  obtain ⟨v1, vs1, d1, ds1, p1, q1, rfl, rfl, rfl, h1, r1⟩ := trodAll_cons r0
  obtain ⟨rfl, rfl, rfl⟩ := trodAll_nil r1
  obtain rfl : args = #[v0, v1] := by cases args; simp_all
  obtain ⟨rfl, rfl⟩ := trodVars_none hV
  obtain ⟨t0, l0, m0, rfl, rfl, rfl, wt0, wl0, wm0⟩ := head_open (hval 0 24 v0 rfl rfl) h0
  obtain ⟨a1, rfl, rfl, rfl, w1⟩ := open_int Try.underlying3 (hval 1 3 v1 rfl rfl) h1
  clear hA0 hval0
  simp only [List.append_nil] at hW'
  refine (walk t0 l0 m0 a1 (i64_of_wf wt0) (i64_of_wf wl0) (u64_of_wf wm0) (i64_of_wf w1) W).mono fun e W' ⟨he, hg⟩ => ?_
  subst he
  exact ⟨_, rfl, post_below (pa := []) (pv := []) hW' (fun _ _ _ => (trodAll_cons_mk (shut_bool Try.underlying4 _) trodAll_mk0)) (fun sp _ => (trodAll_cons_mk (shut_head wt0 wl0 wm0) (trodAll_cons_mk (shut_int Try.underlying3 w1) trodAll_mk0))) (fun _ _ => rfl) rfl
    hg (ok_one (by kernel_rfl) rfl (okWide_bool_mk Try.underlying4 _))⟩

theorem over : Rows.headMapsRow.holds Try.pinned (OpenSpec.ofChange Rows.headMapsSpec) :=
  OpenClaim.holds_of_wide 7 Try.f7 rfl rfl rfl rfl rfl rfl rfl ⟨rfl, rfl, rfl, rfl, rfl⟩ rfl rfl rfl rfl rfl (by kernel_rfl) Try.func7 (by kernel_rfl)
    (of_decide_eq_true (by kernel_rfl)) (by unfold Func.isWrapper; first | (rw [if_pos (by decide +kernel)]; kernel_rfl) | (rw [if_neg (by decide +kernel)]; exact ⟨rfl, rfl⟩))
    (fun os started H enc _ => lifted os started H enc)

theorem proved : Rows.HeadMapsSaid :=
  over
#print axioms proved
end Go.Proofs.Ytelchfmfioofmaa.LHeadMaps
