/- The statement StackActs is proved for every input whose reading is of bulk at most 1048576 (its Upto form), from contracts of the functions that it calls; no other condition is added. -/
import Derived.Test.YtpbbbgcafphplaaSk10
import Derived.BigQuiet
namespace Go.Proofs.Ytpbbbgcafphplaa.LStackActs
open Go.Joins Go.ChangeShapes Go.Shelf Go.Maps Go.WideShapes Go.ChangeAt Go.RowKit Go.Deep
set_option linter.unusedVariables false
set_option linter.unusedSimpArgs false

set_option maxRecDepth 100000 in
set_option maxHeartbeats 4000000 in
theorem walk (v r : Value) (xs : List Int) (L : List (List Int)) (a h : Int) (w : World) (hx : Sl w v xs) (hL : Rw w r L) (hu : ∀ xs ∈ L, ∀ x ∈ xs, U64 x) (hl : xs.length ≤ 17592186044416) (hN : L.flatten.length ≤ 17592186044415) :
    Calls Try.prog 3 #[.agg #[v, .int .u64 a, .int .i64 h, r]] w (fun e w' => e = .returned (.bool true) ∧ Up w w') := by
  have h1 := Lib.hid (fun w' (k : Up w w') => push_any v xs a w' (hx.up k))
  have h2 := Lib.hid (fun w' (k : Up w w') => rpush_any v xs a w' (hx.up k))
  have h3 := Lib.hid (fun w' (k : Up w w') => pop_any v xs w' (hx.up k) hl)
  have h4 := Lib.hid (fun w' (k : Up w w') => rpop_any v xs w' (hx.up k) hl)
  have h5 := Lib.hid (fun w' (k : Up w w') => get_any v xs h w' (hx.up k))
  have h6 := Lib.hid (fun w' (k : Up w w') => rget_any v xs h w' (hx.up k))
  have h7 := Lib.hid (fun w' (k : Up w w') => real_any v xs h w' (hx.up k))
  have h8 := Lib.hid (fun w' (k : Up w w') => rreal_any v xs h w' (hx.up k))
  have h9 := Lib.hid (fun w' (k : Up w w') => all_any r L w' (hL.up k) hu hN)
  have h10 := Lib.hid (fun w' (k : Up w w') => rall_any r L w' (hL.up k) hN)
  generalize pus xs a = P1 at *
  generalize pue xs = e1 at *
  generalize pos xs = P2 at *
  generalize poe xs = e2 at *
  generalize gtv xs h = g1 at *
  generalize gte xs h = e3 at *
  generalize rle xs h = e4 at *
  generalize unq L.flatten = P3 at *
  obtain ⟨A, c, rfl, -⟩ := hx
  obtain ⟨B, d, rfl, -⟩ := hL
  generalize xs.length = n at *
  generalize L.length = m at *
  clear hu hl hN
  go_enter Try.func3, Try.ntmps3
  have U0 : Up w w := Up.refl w
  go_wp2_with (fail)
  refine (shown_any _).mono ?_
  rintro e w1 ⟨rfl, k1⟩
  have U1 : Up w w1 := ((Up.refl w).alloc _).trans k1
  clear k1 U0
  go_wp2_with (fail)
  refine (h1.out _ U1).mono ?_
  rintro e w2 ⟨x1, rfl, hs, k2⟩
  have U2 := U1.trans k2
  clear k2
  have Hsa := Lib.hid hs
  obtain ⟨A1, c1, rfl, -⟩ := hs
  generalize P1.length = l1 at *
  go_wp2_with (fail)
  refine (h2.out _ U2).mono ?_
  rintro e w3 ⟨x2, rfl, hs, k3⟩
  have U3 := U2.trans k3
  replace Hsa := Lib.hid (Hsa.out.up k3)
  clear k3
  have Hsb := Lib.hid hs
  obtain ⟨A2, c2, rfl, -⟩ := hs
  generalize P1.length = l2 at *
  go_wp2_with (fail)
  refine (h3.out _ U3).mono ?_
  rintro e w4 ⟨x3, rfl, hs, k4⟩
  have U4 := U3.trans k4
  replace Hsa := Lib.hid (Hsa.out.up k4)
  replace Hsb := Lib.hid (Hsb.out.up k4)
  clear k4
  have Hsc := Lib.hid hs
  obtain ⟨A3, c3, rfl, -⟩ := hs
  generalize P2.length = l3 at *
  go_wp2_with (fail)
  refine (h4.out _ U4).mono ?_
  rintro e w5 ⟨x4, rfl, hs, k5⟩
  have U5 := U4.trans k5
  replace Hsa := Lib.hid (Hsa.out.up k5)
  replace Hsb := Lib.hid (Hsb.out.up k5)
  replace Hsc := Lib.hid (Hsc.out.up k5)
  clear k5
  have Hsd := Lib.hid hs
  obtain ⟨A4, c4, rfl, -⟩ := hs
  generalize P2.length = l4 at *
  go_wp2_with (fail)
  refine (h5.out _ U5).mono ?_
  rintro e w6 ⟨rfl, k6⟩
  have U6 := U5.trans k6
  replace Hsa := Lib.hid (Hsa.out.up k6)
  replace Hsb := Lib.hid (Hsb.out.up k6)
  replace Hsc := Lib.hid (Hsc.out.up k6)
  replace Hsd := Lib.hid (Hsd.out.up k6)
  clear k6
  go_wp2_with (fail)
  refine (h6.out _ U6).mono ?_
  rintro e w7 ⟨rfl, k7⟩
  have U7 := U6.trans k7
  replace Hsa := Lib.hid (Hsa.out.up k7)
  replace Hsb := Lib.hid (Hsb.out.up k7)
  replace Hsc := Lib.hid (Hsc.out.up k7)
  replace Hsd := Lib.hid (Hsd.out.up k7)
  clear k7
  go_wp2_with (fail)
  refine (h7.out _ U7).mono ?_
  rintro e w8 ⟨rfl, k8⟩
  have U8 := U7.trans k8
  replace Hsa := Lib.hid (Hsa.out.up k8)
  replace Hsb := Lib.hid (Hsb.out.up k8)
  replace Hsc := Lib.hid (Hsc.out.up k8)
  replace Hsd := Lib.hid (Hsd.out.up k8)
  clear k8
  go_wp2_with (fail)
  refine (h8.out _ U8).mono ?_
  rintro e w9 ⟨rfl, k9⟩
  have U9 := U8.trans k9
  replace Hsa := Lib.hid (Hsa.out.up k9)
  replace Hsb := Lib.hid (Hsb.out.up k9)
  replace Hsc := Lib.hid (Hsc.out.up k9)
  replace Hsd := Lib.hid (Hsd.out.up k9)
  clear k9
  have hw := words_any' _ _ P1 P1 w9 Hsa.out Hsb.out
  rw [decide_eq_true rfl] at hw
  have HW := Lib.hid hw
  clear hw
  go_wp2_with (fail)
  refine (HW.out).mono ?_
  rintro e w10 ⟨rfl, k10⟩
  have U10 := U9.trans k10
  replace Hsc := Lib.hid (Hsc.out.up k10)
  replace Hsd := Lib.hid (Hsd.out.up k10)
  clear k10
  clear HW Hsa Hsb
  have hw := words_any' _ _ P2 P2 w10 Hsc.out Hsd.out
  rw [decide_eq_true rfl] at hw
  have HW := Lib.hid hw
  clear hw
  go_wp2_with (fail)
  refine (HW.out).mono ?_
  rintro e w11 ⟨rfl, k11⟩
  have U11 := U10.trans k11
  clear k11
  clear HW Hsc Hsd
  go_wp2_with (fail)
  refine (h9.out _ U11).mono ?_
  rintro e w12 ⟨x, rfl, hs, k12⟩
  have U12 := U11.trans k12
  clear k12
  have Hse := Lib.hid (Sl.of_lo hs)
  clear hs
  have hs := Hse.out
  obtain ⟨A5, c5, rfl, -⟩ := hs
  generalize P3.length = l5 at *
  go_wp2_with (fail)
  refine (h10.out _ U12).mono ?_
  rintro e w13 ⟨x, rfl, hs, k13⟩
  have U13 := U12.trans k13
  replace Hse := Lib.hid (Hse.out.up k13)
  clear k13
  have Hsf := Lib.hid (Sl.of_lo hs)
  clear hs
  have hs := Hsf.out
  obtain ⟨A6, c6, rfl, -⟩ := hs
  generalize P3.length = l6 at *
  have hw := words_any' _ _ P3 P3 w13 Hse.out Hsf.out
  rw [decide_eq_true rfl] at hw
  have HW := Lib.hid hw
  clear hw
  go_wp2_with (fail)
  refine (HW.out).mono ?_
  rintro e w14 ⟨rfl, k14⟩
  have U14 := U13.trans k14
  clear k14
  go_wp2
  go_ret
  exact ⟨rfl, U14⟩

theorem cells : Try.prog.cellsOf 26 = 4 := by kernel_rfl
set_option maxRecDepth 100000 in
theorem opened {H : Type} {enc : TypeId × Value → H} {w : World} {r : Reach} {b0 : Nat} {v : Value} {d : DataW H} {p : List MemPlace} (hv : Value.okWide Try.prog w r b0 26 v) (h : DataW.Trod enc Try.prog w 0 (fun _ => true) true 26 v d p) :
    ∃ (u q : Value) (a i : Int) (xs : List Int) (L : List (List Int)), v = .agg #[u, .int .u64 a, .int .i64 i, q] ∧ Sl w u xs ∧ Rw w q L ∧ (∀ xs ∈ L, ∀ y ∈ xs, U64 y) ∧ xs.length + L.flatten.length ≤ Rows.uptoBulk d := by
  obtain ⟨⟨l⟩, rfl, hsz⟩ := okWide_struct Try.underlying26 hv
  match l, hsz.trans cells with
  | [z0, z1, z2, z3], _ =>
    obtain ⟨fuel, hf⟩ := h
    obtain ⟨ys, n, _, hd, _, hlen, hg⟩ := DataW.trod_struct Try.underlying26 hf
    have f0 := hg 0 _ rfl
    have f1 := hg 1 _ rfl
    have f2 := hg 2 _ rfl
    have f3 := hg 3 _ rfl
    match ys, hlen with
    | [y0, y1, y2, y3], _ =>
      change DataW.trod enc Try.prog w 0 (fun _ => true) true n 22 (([z0, z1, z2, z3].drop 0).take (Try.prog.cellsOf 22)) = some y0 at f0
      rw [cells_words] at f0
      change DataW.trod enc Try.prog w 0 (fun _ => true) true n 23 (([z0, z1, z2, z3].drop 1).take (Try.prog.cellsOf 23)) = some y1 at f1
      rw [cells_u64] at f1
      change DataW.trod enc Try.prog w 0 (fun _ => true) true n 3 (([z0, z1, z2, z3].drop 2).take (Try.prog.cellsOf 3)) = some y2 at f2
      rw [cells_int] at f2
      change DataW.trod enc Try.prog w 0 (fun _ => true) true n 24 (([z0, z1, z2, z3].drop 3).take (Try.prog.cellsOf 24)) = some y3 at f3
      rw [cells_rows] at f3
      obtain ⟨xs, s0, u0, b0, _⟩ := words_sl (v := z0) f0
      obtain ⟨a, rfl, ha⟩ := u64_open (v := z1) f1
      obtain ⟨i, rfl, hi⟩ := int_open (v := z2) f2
      obtain ⟨L, s3, u3, b3, _⟩ := rows_rw (v := z3) f3
      refine ⟨z0, z3, a, i, xs, L, rfl, s0, s3, u3, ?_⟩
      obtain ⟨rfl, -⟩ := Prod.mk.injEq _ _ _ _ ▸ hd
      simp only [Rows.uptoBulk, Rows.uptoBulkAll, List.map_cons, List.map_nil]
      omega

theorem own : ownKnob Try.prog.godebug = none := by kernel_rfl
set_option maxRecDepth 100000 in
theorem contract (H : Type) (enc : TypeId × Value → H) (W : World) (base : Nat) (args : Array Value) (ds gs : List (DataW H)) (before : List MemPlace)
    (hval0 : ∀ (j : Nat) t v, Try.f3.params[j]? = some t → args[j]? = some v → Value.okWide Try.prog W .any base t v)
    (hW : DataW.Whole enc Try.prog Try.f3.params.toList Rows.stackActsSpec.vars false W args.toList ds gs before) (hk : Rows.uptoSmall H (ds ++ gs) = true) :
    Calls Try.prog 3 args W fun e W' => ∃ v, e = .returned v ∧ Rows.stackActsSpec.post enc Try.prog Try.f3 false true false false W args v W' := by
  have hval : ∀ (j : Nat) t v, Try.f3.params[j]? = some t → args[j]? = some v → Value.okWide Try.prog W .any base t v := hval0
  have hW' := hW
  obtain ⟨p, q, hA0, hV, rfl, hfz, hnd⟩ := hW
  have hA : DataW.TrodAll enc Try.prog W 0 (fun _ => true) true Try.f3.params.toList args.toList ds p := hA0
  rw [Try.params3] at hA hval
  obtain ⟨v0, vs0, d0, ds0, p0, q0, hargs, rfl, rfl, h0, r0⟩ := trodAll_cons hA
  obtain ⟨rfl, rfl, rfl⟩ := trodAll_nil r0
  obtain rfl : args = #[v0] := by cases args; simp_all
  obtain ⟨rfl, rfl⟩ := trodVars_none hV
  have hbk : Rows.uptoBulkAll [d0] ≤ 1048576 := of_decide_eq_true hk
  simp only [Rows.uptoBulkAll] at hbk
  clear hk
  have h0k := h0
  obtain ⟨u, q, a, i, xs, L, rfl, s0, s1, u1, b0⟩ := opened (hval 0 26 v0 rfl rfl) h0
  clear hA0 hval0
  simp only [List.append_nil, List.nil_append] at hW'
  refine (walk u q xs L a i W s0 s1 u1 (by omega) (by omega)).mono fun e W' ⟨he, hg⟩ => ?_
  subst he
  exact ⟨_, rfl, post_below (pa := p0) (pv := []) hW' (fun _ _ _ => (trodAll_cons_mk (shut_bool Try.underlying4 _) trodAll_mk0))
    (fun sp hsp => by
      have t := (trodAll_cons_mk (trod_keeps (sp := sp) (by kernel_rfl) (of_decide_eq_true (by kernel_rfl)) h0k hg (fun x hx => hW'.lt x (by simp [hx])) (fun x hx => hsp x (by simp [hx]))) trodAll_mk0)
      simp only [List.append_nil, List.nil_append] at t
      exact t) (fun _ _ => rfl) (by simp)
    hg (ok_one (by kernel_rfl) rfl (okWide_bool_mk Try.underlying4 _))⟩

set_option maxRecDepth 100000 in
theorem lifted (os : Os) (started : os.Started) (H : Type) (enc : TypeId × Value → H) (F : Stop.Interp) :
    ReturnsInHanded {} Try.checked os 3 .any ((Rows.OpenSpec.upto Rows.stackActsSpec).pre6 enc Try.prog Try.f3 Rows.stackActsUptoRow.domain false) (((Rows.OpenSpec.upto Rows.stackActsSpec).at F).post enc Try.prog Try.f3 false true false false) := by
  refine returnsInHanded_of_cond (C := Try.checked) (s := Rows.OpenSpec.upto Rows.stackActsSpec) (k := Rows.uptoSmall) rfl own started (by kernel_rfl) Try.func3
    (OpenSpec.witness (enc := enc) (C := Try.checked) (s := Rows.OpenSpec.upto Rows.stackActsSpec) (k := Rows.uptoSmall) rfl false ⟨#[], #[.agg #[.slice none 0 0, .int .u64 0, .int .i64 0, .slice none 0 0]], []⟩ 8 (by kernel_rfl) (by kernel_rfl) (by kernel_rfl)
      (x := ([.agg [.nil, .lit (.int .u64 0), .lit (.int .i64 0), .nil]], [], [])) (by kernel_rfl) rfl (by kernel_rfl)) ?_
  intro W base args ds gs before hval hW _ hk _
  exact contract H enc W base args ds gs before hval hW hk

set_option maxRecDepth 100000 in
theorem over : Rows.stackActsUptoRow.holds Try.pinned (Rows.OpenSpec.upto Rows.stackActsSpec) :=
  OpenClaim.holds_of_cond 3 Try.f3 rfl rfl rfl rfl rfl rfl rfl ⟨rfl, rfl, rfl, rfl, rfl⟩ rfl rfl rfl rfl rfl (by kernel_rfl) Try.func3 (by kernel_rfl)
    (of_decide_eq_true (by kernel_rfl)) (by unfold Func.isWrapper; first | (rw [if_pos (by decide +kernel)]; kernel_rfl) | (rw [if_neg (by decide +kernel)]; exact ⟨rfl, rfl⟩))
    (fun os started H enc _ F => lifted os started H enc F)

theorem proved : Rows.StackActsUptoSaid :=
  over
#print axioms proved
end Go.Proofs.Ytpbbbgcafphplaa.LStackActs
