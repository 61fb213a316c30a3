/- The document's example (dovecotelaw16.shown): contract. -/
import Derived.Test.YtanhhkdoejnpiaaGreatPc
import Derived.Test.YtanhhkdoejnpiaaGreatRh
namespace Go.Proofs.YtanhhkdoejnpiaaGreat.G
open Go.Joins Go.ChangeShapes Go.WideShapes Go.ChangeAt Go.RowKit Go.Deep Go.Shelf Go.Maps
set_option linter.unusedVariables false
set_option linter.unusedSimpArgs false

abbrev ex1 : Gr := ([((1, 1, 1), [1])], [[1]])
theorem ex_rg : Rg ex1 := by
  refine ⟨fun n hn => ?_, fun n hn => ?_, fun n hn x hx => ?_, fun n hn i hi hp => ?_, fun row hr h hh => ?_⟩
  · obtain rfl : n = ((1, 1, 1), [1]) := by simpa using hn
    decide
  · obtain rfl : n = ((1, 1, 1), [1]) := by simpa using hn
    decide
  · obtain rfl : n = ((1, 1, 1), [1]) := by simpa using hn
    obtain rfl : x = 1 := by simpa using hx
    unfold U64; decide
  · obtain rfl : n = ((1, 1, 1), [1]) := by simpa using hn
    have : i = 0 := by simp at hi; omega
    subst this
    decide
  · obtain rfl : row = [1] := by simpa using hr
    obtain rfl : h = 1 := by simpa using hh
    decide
theorem ex_can : canon ex1 = ex1 := by decide
theorem ex_ord : (ord ex1).length = 1 := by decide
theorem ex_pte : pte ex1 16 0 = 0 := by decide
theorem ex_grv {w : World} {b1 b2 b3 b4 : Nat} (h1 : Blk w b1 67 #[.int .u64 1]) (h2 : Blk w b2 71 #[.int .i64 1, .int .i64 1, .int .u64 1, .slice (some ⟨b1, 0, none⟩) 1 1]) (h3 : Blk w b3 3 #[.int .i64 1]) (h4 : Blk w b4 72 #[.slice (some ⟨b3, 0, none⟩) 1 1]) :
    GrV w (.agg #[.slice (some ⟨b2, 0, none⟩) 1 1, .slice (some ⟨b4, 0, none⟩) 1 1]) ex1 := by
  have s1 : Sl .u64 w (.slice (some ⟨b1, 0, none⟩) 1 1) [1] := ⟨some ⟨b1, 0, none⟩, 1, rfl, Nat.le_refl _, by unfold maxLen; omega, fun e => (by cases e), rv_of_blk h1 (fun i u hi => by simpa using hi)⟩
  have s3 : Sl .i64 w (.slice (some ⟨b3, 0, none⟩) 1 1) [1] := ⟨some ⟨b3, 0, none⟩, 1, rfl, Nat.le_refl _, by unfold maxLen; omega, fun e => (by cases e), rv_of_blk h3 (fun i u hi => by simpa using hi)⟩
  refine ⟨_, _, rfl, ⟨[.slice (some ⟨b1, 0, none⟩) 1 1], some ⟨b2, 0, none⟩, 1, rfl, Nat.le_refl _, by unfold maxLen; omega, fun e => (by cases e), rv_of_blk h2 (fun i u hi => by simpa [nvs] using hi), rfl, fun j u xs ha hb => ?_⟩, [.slice (some ⟨b3, 0, none⟩) 1 1], some ⟨b4, 0, none⟩, 1, rfl, Nat.le_refl _, by unfold maxLen; omega, fun e => (by cases e), rv_of_blk h4 (fun i u hi => by simpa using hi), rfl, fun j u xs ha hb => ?_⟩
  · match j, ha, hb with
    | 0, ha, hb => simp at ha hb; subst ha; subst hb; exact s1
    | j + 1, ha, hb => simp at ha
  · match j, ha, hb with
    | 0, ha, hb => simp at ha hb; subst ha; subst hb; exact s3
    | j + 1, ha, hb => simp at ha
theorem putR_ok {g : Gr} {s : Int} (hs : s = 0 ∨ s = 1) (hT : tot g.1 ≤ 4096) (hl : g.2.flatten.length ≤ 1048576) : RwOk (putR g s) := by
  have e : (putR g s).flatten = g.2.flatten.map (Adr s g.1) := by unfold putR; rw [List.map_flatten]
  refine ⟨fun x hx => ?_, ?_⟩
  · rw [e] at hx
    obtain ⟨y, _, rfl⟩ := List.mem_map.1 hx
    exact Adr_u64 hs hT
  · rw [e, List.length_map]; exact hl
set_option maxRecDepth 100000 in
set_option maxHeartbeats 4000000 in
theorem shown_any (w : World) : Calls Tryz.prog 8 #[] w fun e w' => e = .returned (.bool true) ∧ Up w w' := by
  have HPT := Lib.hid (fun V u (h : GrV V u ex1) => by
    exact (rput16_any u ex1 16 0 V h ex_rg (by decide) (by decide)).mono (R' := PutYes ex1 16 0 V) fun e w' hp => by
      unfold Put16 at hp
      rw [if_pos ex_pte] at hp
      exact hp)
  have HOF := Lib.hid (fun V P Q c d B k (hm : Sits V (putG ex1 16 0) P Q c d) (hwf : (putG ex1 16 0).wf) (hr : Rw .u64 V (.slice B 1 k) (putR ex1 0)) => by
    have h := of_any (putG ex1 16 0) P Q c d (.slice B 1 k) (putR ex1 0) V hm hwf hr (putR_ok (.inl rfl) (by decide) (by decide)) (by decide)
    obtain ⟨p1, p2, p3⟩ := put_of (W := 16) ex_rg (by decide) (by decide) (by decide) (.inl rfl) (by decide)
    rw [p3] at h
    rw [show (putG ex1 16 0).n = 16 from mk_n _ _ _] at h
    refine h.mono (R' := fun e w' => ∃ A c B d, e = .returned (.tuple #[.agg #[.slice A 1 c, .slice B 1 d], .int .i64 0]) ∧ GrV w' (.agg #[.slice A 1 c, .slice B 1 d]) ex1 ∧ Up V w') fun e w' hp => ?_
    rw [if_pos rfl] at hp
    obtain ⟨A, c, B, d, rfl, hg, hu⟩ := hp
    have hl : ((putG ex1 16 0).rch (putR ex1 0).flatten).length = 1 := by rw [p1, List.length_map]; exact ex_ord
    rw [p2, ex_can, hl] at hg
    rw [hl]
    exact ⟨A, c, B, d, rfl, hg, hu⟩)
  go_enter Tryz.func8, Tryz.ntmps8
  go_wp2_with (fail)
  refine calls_at (fun V1 hV => ?_)
  have kv : Up w V1 := by rw [hV]; (repeat (first | with_reducible exact Up.refl _ | with_reducible refine Up.alloc ?_ _))
  have b1 : Blk V1 (w.heap.size + 1) 67 #[.int .u64 1] := by rw [hV]; (repeat (first | with_reducible exact Blk.new' _ (by simp) _ _ | with_reducible refine Blk.alloc ?_ _))
  have b2 : Blk V1 (w.heap.size + 1 + 1) 71 #[.int .i64 1, .int .i64 1, .int .u64 1, .slice (some ⟨w.heap.size + 1, 0, none⟩) 1 1] := by rw [hV]; (repeat (first | with_reducible exact Blk.new' _ (by simp) _ _ | with_reducible refine Blk.alloc ?_ _))
  have b3 : Blk V1 (w.heap.size + 1 + 1 + 1) 3 #[.int .i64 1] := by rw [hV]; (repeat (first | with_reducible exact Blk.new' _ (by simp) _ _ | with_reducible refine Blk.alloc ?_ _))
  have b4 : Blk V1 (w.heap.size + 1 + 1 + 1 + 1) 72 #[.slice (some ⟨w.heap.size + 1 + 1 + 1, 0, none⟩) 1 1] := by rw [hV]; (repeat (first | with_reducible exact Blk.new' _ (by simp) _ _ | with_reducible refine Blk.alloc ?_ _))
  have HG := Lib.hid (ex_grv b1 b2 b3 b4)
  have HU1 := Lib.hid kv
  clear hV kv b1 b2 b3 b4
  refine (HPT.out V1 _ HG.out).mono ?_
  rintro e w1 ⟨P, Q, cp, cq, B, k, rfl, hs, hwf, hrw, k1⟩
  have HU2 := Lib.hid (HU1.out.trans k1)
  have HSI := Lib.hid hs
  have HWF := Lib.hid hwf
  have HRW := Lib.hid hrw
  clear HG HPT hs hwf hrw k1
  go_wp2_with (fail)
  refine calls_at (fun V2 hV => ?_)
  have kv : Up w1 V2 := by rw [hV]; (repeat (first | with_reducible exact Up.refl _ | with_reducible refine Up.alloc ?_ _))
  have HK2 := Lib.hid kv
  clear hV kv
  refine (HOF.out V2 P Q cp cq B k (HSI.out.up HK2.out) HWF.out (HRW.out.up HK2.out)).mono ?_
  rintro e w2 ⟨A, c, B2, d, rfl, hg, k2⟩
  have HU3 := Lib.hid ((HU2.out.trans HK2.out).trans k2)
  obtain ⟨va, vb, e1, ⟨us0, hns⟩, hrw2⟩ := hg
  simp only [Value.agg.injEq, Array.mk.injEq, List.cons.injEq, and_true] at e1
  obtain ⟨rfl, rfl⟩ := e1
  obtain ⟨p, u, rfl, -, ⟨z1, z2, z3, z4⟩, z5⟩ := hns.at_ (x := 0) (by decide)
  obtain ⟨Af, cf, rfl⟩ := z5.slice
  obtain ⟨pf, rfl, z6⟩ := z5.at_ (x := 0) (by decide)
  obtain ⟨q, u2, rfl, y1, y2⟩ := hrw2.at_ (x := 0) (by decide)
  obtain ⟨Ar, cr, rfl⟩ := y2.slice
  obtain ⟨pr, rfl, y3⟩ := y2.at_ (x := 0) (by decide)
  have l1 := lt_of_cell z1
  have l2 := lt_of_cell z6
  have l3 := lt_of_cell y1
  have l4 := lt_of_cell y3
  rw [block_of_add] at l1 l2 l3 l4
  have e0 : ∀ a : Addr, a.add 0 = a := fun a => by simp [Addr.add]
  simp only [Nat.zero_mul, e0] at z1 z2 z3 z4 z6 y1 y3
  have z1' : w2.cell? p = some (.int .i64 1) := z1
  have z2' : w2.cell? ⟨p.block, p.off + 1, none⟩ = some (.int .i64 1) := z2
  have z3' : w2.cell? ⟨p.block, p.off + 2, none⟩ = some (.int .u64 1) := z3
  have z4' : w2.cell? ⟨p.block, p.off + 3, none⟩ = some (.slice (some pf) 1 cf) := z4
  have z6' : w2.cell? pf = some (.int .u64 1) := z6
  have y1' : w2.cell? q = some (.slice (some pr) 1 cr) := y1
  have y3' : w2.cell? pr = some (.int .i64 1) := y3
  clear HSI HWF HRW HOF k2 hns hrw2 z5 y2 z1 z2 z3 z4 z6 y1 y3 e0
  go_wp2
  go_ret
  exact ⟨rfl, HU3.out.alloc _⟩
end Go.Proofs.YtanhhkdoejnpiaaGreat.G
