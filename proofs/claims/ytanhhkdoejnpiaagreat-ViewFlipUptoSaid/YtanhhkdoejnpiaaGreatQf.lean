/- Rows of numbers turned into rows of addresses (view.turned, the other way), by the closure: contract. -/
import Derived.Test.YtanhhkdoejnpiaaGreatQd
namespace Go.Proofs.YtanhhkdoejnpiaaGreat.G
open Go.Joins Go.ChangeShapes Go.WideShapes Go.ChangeAt Go.RowKit Go.Deep Go.Shelf Go.Maps
set_option linter.unusedVariables false
set_option linter.unusedSimpArgs false

/-- An append of one or more onto a row of the call's own, as long as any row can be. -/
theorem run_anyB {T e : TypeId} {size bytes : Nat} (E : El T e size bytes) {w : World} (ty : TypeId) (n₀ n : Nat) (v : Value) (xs : List Value) (hx : w.ownsRow n₀ e size v n xs) (A : Option Addr) (m c : Nat) (ys : List Value) (hl : ys.length = m * size) (hy : RV w A ys) (h1 : ∀ u ∈ ys, u.oneCell' = true)
    (hm : 0 < m) (hb0 : n + m ≤ 17592186044416) (hb : (n + m) * bytes ≤ 140737488355328) (hbase : n₀ ≤ w.heap.size) :
    ∃ v' w', (Builtin.append_ #[T, T] ty #[v, .slice A m c]).run Tryz.prog w = .ok v' w' ∧ w'.ownsRow n₀ e size v' (n + m) (xs ++ ys) ∧ w.grownBy w' v.ownBlock := by
  have hs := E.pos
  obtain ⟨p, rfl, hp, hc⟩ := hy (fun q => by rw [q] at hl; have := Nat.mul_pos hm hs; simp at hl; omega)
  obtain ⟨⟨i0, z, hi, hz0, hz1, hz2, hz3⟩, hu, _, _⟩ := E
  obtain ⟨g, cap, w', r1, r2, r3, _⟩ := run_append_lies (P := Tryz.prog) w T ty n₀ e i0 z size bytes hu hi hz0 hz1 hz2 hz3 hs v n xs hx p m c ys hl hc h1 hm (by unfold maxLen; omega) hb hbase w.heap.size rfl
  exact ⟨_, w', r1, r2, r3⟩
set_option maxRecDepth 100000 in
set_option maxHeartbeats 16000000 in
theorem turnedU_any (v : Value) (L : List (List Int)) (F : Int → Int) (B : Nat) (N : Int) (w0 w : World) (hL : Rw .i64 w0 v L) (hU : Up w0 w) (hN : ∀ row ∈ L, ∀ h ∈ row, 0 ≤ h ∧ h ≤ N) (hN9 : N ≤ 1048576) (hs : L.length ≤ 1048576) (hll : ∀ row ∈ L, row.length ≤ 17592186044416) (hF : ∀ h, U64 (F h))
    (hA : ∀ a V, U64 a → Up w V → Calls Tryz.prog 40 #[.int .u64 a, bx B] V fun e w' => e = .returned (.int .u64 (F a)) ∧ w' = V) :
    Calls Tryz.prog 42 #[v, .func (.func 40) #[] #[bx B]] w (TvPost F L w) := by
  obtain ⟨A, c, rfl, hmx⟩ := hL.slice
  have HRW : Hid (∀ x, x < L.length → ∃ p A1 c1, A = some p ∧ ∀ W, Up w W → p.block < W.heap.size ∧ W.cell? (p.add x) = some (.slice A1 (L.getD x []).length c1) ∧ Sl .i64 W (.slice A1 (L.getD x []).length c1) (L.getD x [])) := Lib.hid (fun x hx => by
    obtain ⟨p, u, e, h1, h2⟩ := hL.at_ hx
    obtain ⟨A1, c1, rfl⟩ := h2.slice
    have hl := lt_of_cell h1
    rw [block_of_add] at hl
    exact ⟨p, A1, c1, e, fun W k => ⟨(hU.trans k).lt hl, (hU.trans k).cell h1, h2.up (hU.trans k)⟩⟩)
  have HAD := Lib.hid hA
  have HOU : Hid (∀ x h, x < L.length → h < (L.getD x []).length → 0 ≤ (L.getD x []).getD h 0 ∧ (L.getD x []).getD h 0 ≤ N) := Lib.hid (fun x h h1 h2 => hN _ (getD_mem [] h1) _ (getD_mem 0 h2))
  have HOL : Hid (∀ x, x < L.length → (L.getD x []).length ≤ 17592186044416) := Lib.hid (fun x h1 => hll _ (getD_mem [] h1))
  have HF := Lib.hid hF
  have HSS := Lib.hid hs
  have hmk := fun W => run_makeRowsU L.length hs W
  clear hL hU hN hll hF hA
  obtain ⟨n, hn⟩ : ∃ n, L.length = n := ⟨_, rfl⟩
  have HPO : Hid (∀ e w', TvPost F L w e w' → TvPost F L w e w') := Lib.hid (fun _ _ h => h)
  rw [hn] at HRW hmk hs HOU HOL ⊢
  have HNN := Lib.hid hn
  clear hn
  go_enter Tryz.func42, Tryz.ntmps42
  go_wp2_with (fail)
  obtain ⟨W1, hW1⟩ : ∃ W1, W1 = w.alloc (.cells (Array.replicate n (Value.slice none 0 0)) 22) := ⟨_, rfl⟩
  rw [← hW1]
  have hst : TvI w.heap.size w (List.replicate n (.slice none 0 0)) (partR F L 0) W1 := by
    have k1 : Up w W1 := by rw [hW1]; exact (Up.refl w).alloc _
    refine ⟨by rw [hW1, List.toArray_replicate]; exact Blk.new w _ _, ?_, k1⟩
    rw [partR_0, HNN.out]
    exact OwU.nils _ _ _
  have HST := Lib.hid hst
  clear hst hW1 hmk
  go_loopw [15] (fun i wr => TvO_ F L w.heap.size w i wr) (fun i _ => n - (intOf i).toNat)
  case atStart => exact ⟨0, _, Nat.zero_le _, rfl, fun j _ hj => by rw [HNN.out] at hj; simp [hj], HST.out⟩
  case round =>
    rename World => wb
    obtain ⟨x, us, hx, rfl, hz, hI⟩ := hrel
    rw [HNN.out] at hx hz
    by_cases hlt : x < n
    · have hlx : x < L.length := by rw [HNN.out]; exact hlt
      obtain ⟨p, Ar, cr, e1, hat⟩ := HRW.out x hlt
      subst e1
      obtain ⟨hll, hcl, hsl⟩ := hat wb hI.up
      have HSL := Lib.hid (fun W k => (hat W k).2.2)
      have HU0 := Lib.hid (fun h h2 => HOU.out x h hlt h2)
      have hrl := HOL.out x hlt
      have HPS := Lib.hid (partR_step F L hlx)
      have hGl := hI.bG.lt
      have hxu : x < us.length := by have := hI.rows.1; rw [partR_len, HNN.out] at this; omega
      obtain ⟨row, hrow⟩ : ∃ row, L.getD x [] = row := ⟨_, rfl⟩
      rw [hrow] at HU0 hrl HPS HSL hcl
      obtain ⟨k, hk⟩ : ∃ k, row.length = k := ⟨_, rfl⟩
      rw [hk] at HU0 hrl HSL hcl
      have HK := Lib.hid hk
      have hst2 : TvN_ F row w.heap.size x us w wb (.int .i64 ((0 : Nat) : Int)) wb := by
        refine ⟨0, .slice none 0 0, Nat.zero_le _, rfl, by simpa using World.ownsRow_nil _ _ _ _, ?_, hI.up, Kp.refl _ _⟩
        rw [show us.set x (.slice none 0 0) = us from List.ext_getElem? fun j => by
          rw [List.getElem?_set]
          split
          · rename_i e
            subst e
            exact (hz x (Nat.le_refl _) hlt).symm
          · rfl]
        exact hI.bG
      have HST2 := Lib.hid hst2
      have HI := Lib.hid hI
      have HZ := Lib.hid hz
      have hwl := hI.up.size
      clear hst2 hrow hk hsl hat hI hz
      go_wp2_with (fail)
      go_loopw [22] (fun i wr => TvN_ F row w.heap.size x us w wb i wr) (fun i _ => k - (intOf i).toNat)
      case atStart => exact HST2.out
      case round =>
        rename World => wr
        obtain ⟨h, u, hh, rfl, ho, bG, up, kb⟩ := hrel
        rw [HK.out] at hh
        have hwb := kb.size
        by_cases hlh : h < k
        · obtain ⟨pe, rfl, hce⟩ := (HSL.out wr up).at_ hlh
          have hle := lt_of_cell hce
          rw [block_of_add] at hle
          have hyu := HU0.out h hlh
          have hlr : h < row.length := by rw [HK.out]; exact hlh
          have HTK := Lib.hid (take_snoc' hlr)
          obtain ⟨y, hy⟩ : ∃ y, row.getD h 0 = y := ⟨_, rfl⟩
          rw [hy] at hce hyu HTK
          obtain ⟨A1, c1, rfl⟩ := own_slice ho
          have hcx : (us.set x (Value.slice A1 h c1)).toArray[x]? = some (.slice A1 h c1) := by
            rw [List.getElem?_toArray, List.getElem?_set_self hxu]
          have hGc := (bG.cell x).trans hcx
          have hGf := bG.frozen
          have hGl2 := bG.lt
          have HBG := Lib.hid bG
          have HKB := Lib.hid kb
          have HUPR := Lib.hid up
          have hwp : IntKind.u64.wrap y = y := by rw [IntKind.wrap_u64]; omega
          have HCL := Lib.hid (HAD.out y wr.drew (by unfold U64; omega) up.drew)
          have HAP : Hid (∀ w4, w4 = wr.drew → w4.cell? ⟨w.heap.size, x, none⟩ = some (.slice A1 h c1) ∧ (∀ i, w4.frozen? ⟨w.heap.size, i, none⟩ = false) ∧ w.heap.size < w4.heap.size ∧
              ∃ A2 c2 wz, (Builtin.append_ #[22, 22] 22 #[.slice A1 h c1, .slice (some ⟨w4.heap.size, 0, none⟩) 1 1]).run Tryz.prog (w4.alloc (.cells #[.int .u64 (F y)] 67)) = .ok (.slice A2 (h + 1) c2) wz ∧
              (Blk wz w.heap.size 22 (us.set x (Value.slice A1 h c1)).toArray ∧ wz.ownsRow wb.heap.size 67 1 (.slice A2 (h + 1) c2) (h + 1) (((row.take (h + 1)).map F).map (Value.int .u64)) ∧ Up w wz ∧ Kp [w.heap.size] wb wz)) := Lib.hid (by
            rintro w4 rfl
            have kd : Up wr (wr.drew.alloc (.cells #[.int .u64 (F y)] 67)) := (Up.refl wr).drew.alloc _
            have ho5 := own_up ho kd
            have bG5 := bG.up kd
            obtain ⟨v2, wz, hr2, ho6, hg6⟩ := run_anyB el_u64 (w := wr.drew.alloc (.cells #[.int .u64 (F y)] 67)) 22 wb.heap.size h _ _ ho5 (some ⟨wr.drew.heap.size, 0, none⟩) 1 1 [.int .u64 (F y)] rfl (rv_of_blk (Blk.new wr.drew _ _) (fun i u hi => by simpa using hi)) (fun u hu => by rw [List.mem_singleton] at hu; subst hu; rfl) (by omega) (by omega) (by omega) (Nat.le_trans hwb kd.size)
            obtain ⟨A2, c2, rfl⟩ := own_slice ho6
            refine ⟨(bG.drew.cell x).trans hcx, bG.drew.frozen, bG.drew.lt, A2, c2, wz, hr2, bG5.grown hg6 (own_row_ne ho5 bG5 (by decide)), ?_, ?_, ?_⟩
            · rw [HTK.out, List.map_append, List.map_append]
              exact ho6
            · exact (up.trans kd).grown hg6 (fun g e => Nat.le_trans hwl (World.ownsRow.lt ho5 g e).1)
            · exact kp_grown (kb.up kd) hg6 (fun g e => (World.ownsRow.lt ho5 g e).1))
          clear bG kb ho up hcl hy hyu
          go_wp2_with (fail)
          go_region_law (first
            | (refine step_run (by rfl) _ _ (by rfl) _ _ (by rfl) (by rfl) _ wz hr2 ?_)
            | (go_simp; go_wp2_with (go_at_call 40; (with_reducible refine HCL.out.mono ?_); rintro e w4 ⟨rfl, h4⟩; obtain ⟨hGc4, hGf4, hGl4, A2, c2, wz, hr2, bz1, HZ4⟩ := HAP.out w4 h4; have hGc5 := (bz1.cell x).trans hcx; have hGf5 := bz1.frozen; have hGl5 := bz1.lt; have HZ5 := Lib.hid HZ4; have HBZ := Lib.hid bz1; clear HZ4 bz1 h4)))
          all_goals
            have HPR : Hid (TvN_ F row w.heap.size x us w wb (.int .i64 ((h + 1 : Nat) : Int)) (wz.setCell ⟨w.heap.size, x, none⟩ (.slice A2 (h + 1) c2))) := Lib.hid (by
              obtain ⟨z1, z2, z3⟩ := HZ5.out
              refine ⟨h + 1, .slice A2 (h + 1) c2, by rw [HK.out]; omega, rfl, own_keep z1 (fun g cs hb => hb.far (p := ⟨w.heap.size, x, none⟩) (hb.ne_type HBZ.out (by decide)) _), ?_, z2.setCell (Nat.le_refl _) _, z3.set_ (by simp) _⟩
              have := HBZ.out.set_ x (.slice A2 (h + 1) c2)
              simpa using this)
            clear HZ5 HBZ HAP HCL hGc hGf hGl2 hGc4 hGf4 hGl4 hGc5 hGf5 hGl5 hr2
            go_wp2
            exact ⟨HPR.out, by simp [intOf]; omega⟩
        · obtain rfl : h = k := by omega
          have hrow : row.take h = row := List.take_of_length_le (by rw [HK.out]; exact Nat.le_refl _)
          rw [hrow] at ho
          have HPR : Hid (TvO_ F L w.heap.size w (.int .i64 ((x + 1 : Nat) : Int)) wr) := Lib.hid (by
            refine ⟨x + 1, us.set x u, by rw [HNN.out]; omega, rfl, fun j h1 h2 => ?_, bG, ?_, up⟩
            · rw [HNN.out] at h2
              rw [List.getElem?_set_ne (by omega)]
              exact HZ.out j (by omega) h2
            · rw [← HPS.out]
              refine OwU.set (HI.out.rows.keep (fun g cs hb => hb.kp kb (by
                simp only [List.mem_cons, List.not_mem_nil, or_false]
                exact hb.ne_type HI.out.bG (by decide)))) x ?_
              rw [List.length_map, HK.out]
              exact own_le ho hwl)
          clear bG kb ho up hrow
          go_wp2
          exact ⟨HPR.out, by simp [intOf]; omega⟩
    · obtain rfl : x = n := by omega
      have HI := Lib.hid hI
      have HPA := Lib.hid (partR_all F L (x := x) HNN.out.symm)
      clear hI hz HST
      go_wp2
      go_ret
      refine ⟨w.heap.size, by rw [HNN.out]; rfl, ?_, HI.out.up⟩
      have h := HI.out
      rw [HPA.out] at h
      exact fun V k => h.rwk HSS.out k
end Go.Proofs.YtanhhkdoejnpiaaGreat.G
