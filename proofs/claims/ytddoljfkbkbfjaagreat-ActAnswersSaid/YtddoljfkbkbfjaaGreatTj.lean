/- A field is written (act's step: write): contract. -/
import Derived.Test.YtddoljfkbkbfjaaGreatTi
import Derived.Test.YtddoljfkbkbfjaaGreatNm
import Derived.Deep.CutRange
import Derived.BigQuiet
namespace Go.Proofs.YtddoljfkbkbfjaaGreat.T
open G
open Go.Joins Go.ChangeShapes Go.WideShapes Go.ChangeAt Go.RowKit Go.Deep Go.Shelf Go.Maps
set_option linter.unusedVariables false
set_option linter.unusedSimpArgs false

/-- A heap in which a field is written. -/
def wrH (h : Hp) (j : Nat) (t : Th) (a i v : Int) : Hp := { h with m := h.m.setm a i v, th := h.th.set j { t with pd := if h.ph = 1 then [(a, i)] else t.pd } }
theorem wrH_no {h : Hp} {j : Nat} {t : Th} (ht : h.th[j]? = some t) (hp : h.ph ≠ 1) (a i v : Int) : wrH h j t a i v = { h with m := h.m.setm a i v } := by
  unfold wrH
  rw [if_neg hp]
  have : h.th.set j t = h.th := by
    apply List.ext_getElem?
    intro k
    by_cases e : j = k
    · subst e
      have hj : j < h.th.length := by
        rcases Nat.lt_or_ge j h.th.length with q | q
        · exact q
        · rw [List.getElem?_eq_none q] at ht; cases ht
      rw [List.getElem?_set_self hj, ht]
    · rw [List.getElem?_set_ne e]
  show ({ h with m := _, th := h.th.set j t } : Hp) = _
  rw [this]
section
variable {base D T : Nat} {S3 : List Nat} {h : Hp} {j : Nat} {o : Op} {s : Ks} {w : World} {t : Th}
/-- A pending entry. -/
theorem St.pend (hS : St base D T S3 h j o s w) (ht : h.th[j]? = some t) (a i : Int) {wz : World} (hz : wz = (w.alloc (.cells #[.int .u64 a, .int .i64 i] 66)).drew) :
    Kp [D, T] w (wz.setCell ⟨T, j * 8 + 5, none⟩ (.slice (some ⟨w.heap.size, 0, none⟩) 1 1)) ∧ St base D T S3 { h with th := h.th.set j { t with pd := [(a, i)] } } j o s (wz.setCell ⟨T, j * 8 + 5, none⟩ (.slice (some ⟨w.heap.size, 0, none⟩) 1 1)) := by
  have hU : Up w wz := by rw [hz]; exact ((Up.refl w).alloc _).drew
  have hb : Blk wz w.heap.size 66 #[.int .u64 a, .int .i64 i] := by rw [hz]; exact (Blk.new w _ _).drew
  refine hS.setT hU 5 (by decide) _ ht (t' := { t with pd := [(a, i)] }) fun u hO => ⟨{ u with pd := .slice (some ⟨w.heap.size, 0, none⟩) 1 1 }, rfl, hO.st, hO.sta, hO.ba, hO.be, hO.lg, hO.lf, hO.lfa, ⟨_, 1, rfl, Nat.le_refl _, by unfold maxLen; simp, fun q => (by cases q), rv_of_blk hb fun k v hk => ?_⟩, fun p n c e hn q => ?_, hO.wt, hO.dn⟩
  · simpa [enc] using hk
  · cases e
    have := hS.lt _ q
    exact absurd this (Nat.lt_irrefl _)
set_option maxRecDepth 100000 in
set_option maxHeartbeats 4000000 in
theorem write_4 (hS : St base D T S3 h j o s w) (ht : h.th[j]? = some t) (hwf : h.m.wf) (ha : U64 s.h) (hk : o.kd = 4) :
    Calls Tryz.prog 76 #[.pointer (some ⟨D, 0, none⟩)] w (Sp base D T S3 (h.m.gete s.h o.i) (wrH h j t s.h o.i o.v) j o s w) := by
  obtain ⟨us, P, Q, c, d, A, co, cT, hD, hT, hc1, hc2, hbD, hbT, hR⟩ := id hS
  have HSET := fun W (v : Int) (k : Kp [D, T] w W) => set_any h.m s.h o.i v P Q c d W (hR.kp k).sits ha hwf
  have HST := Lib.hid (fun W wz m (P' Q' : Addr) (c' d' : Nat) (s1 : St base D T S3 h j o s W) (k : Up W wz) (hm : Sits wz m P' Q' c' d') (hn : m.n = h.m.n) => s1.mem k hm hn)
  replace HSET := Lib.hid HSET
  have hcD := hD.cell
  unfold stc at hcD
  rw [hk] at hcD
  have hlD := hD.lt
  have HD := Lib.hid hD
  have HS := Lib.hid hS
  have HT := Lib.hid ht
  have HKD := Lib.hid hk
  generalize hpo : wrH h j t s.h o.i o.v = h' 
  have HPO := Lib.hid hpo
  generalize hge : h.m.gete s.h o.i = er at *
  clear hS hT hR hD hc1 hc2 hbD hbT ht hwf ha hk hpo hge
  go_enter Tryz.func76, Tryz.ntmps76
  go_wp2_with (fail)
  go_quiet (fail)
  go_upto_region 11 with fail
  obtain ⟨w1, hw1⟩ : ∃ w1 : World, w1 = w.drewN nq := ⟨_, rfl⟩
  have hU1 : Up w w1 := by rw [hw1]; exact Up.drewN (Up.refl w) _
  rw [← hw1]
  clear hw1
  have HS1 := Lib.hid (HS.out.up hU1)
  have HDD := Lib.hid (HD.out.up hU1)
  have HU1 := Lib.hid hU1
  clear hcD hlD HD hU1
  go_cut [2] from 38 to 60 (fun e2 w5 => e2 = .int .i64 er ∧ Kp [D, T] w w5 ∧ St base D T S3 { h with m := h.m.setm s.h o.i o.v } j o s w5)
  case first =>
    have UW := (Up.refl w1).drew
    have D1 := HDD.out.drew
    have D1c := D1.cell
    unfold stc at D1c
    rw [HKD.out] at D1c
    have D1l := D1.lt
    go_region_with (go_at_call 101; (refine (HSET.out _ o.v (.of_up (HU1.out.trans UW))).mono ?_); rintro e wz ⟨P', Q', c', d', rfl, sz, hz⟩; have hZ := D1.up hz; have hcZ := hZ.cell; unfold stc at hcZ; have hlZ := hZ.lt; have hfZ := hZ.frozen)
    all_goals
      have HSZ := Lib.hid sz
      have hn : (h.m.setm s.h o.i o.v).n = h.m.n := set_n _ _ _ _
      have HN := Lib.hid hn
      rw [hn]
      clear sz hn
      go_wp2_with (fail)
      go_meet
      obtain ⟨k5, s5⟩ := HST.out _ _ _ P' Q' c' d' HS1.out (UW.trans hz) HSZ.out HN.out
      exact ⟨rfl, (Kp.of_up HU1.out).trans k5, s5⟩
  case rest =>
    obtain ⟨rfl, k5, s5⟩ := hcut
    rename World => w5
    obtain ⟨us5, P5, Q5, c5, d5, A5, co5, cT5, hD5, hT5, -, -, -, -, hR5⟩ := id s5
    obtain ⟨u5, hu5, -⟩ := hR5.at_ (t := t) HT.out
    have tc5 := (tcs hT5 hu5).2.2.2.2.2.1
    have tc5a := fun ob => (tcs (hT5.alloc ob).drew hu5).2.2.2.2.2.1
    clear hR5 hu5
    have d5c := hD5.cell
    unfold stc at d5c
    have d5l := hD5.lt
    have d5a := fun ob => (hD5.alloc ob).drew.cell
    unfold stc at d5a
    have d5al := fun ob => (hD5.alloc ob).drew.lt
    have d5d := hD5.drew.cell
    unfold stc at d5d
    have d5dl := hD5.drew.lt
    have tl := hT5.lt
    have tla := fun ob => (hT5.alloc ob).drew.lt
    have tfa := fun ob => (hT5.alloc ob).drew.frozen
    have tf := hT5.drew.frozen
    have HK5 := Lib.hid k5
    have HS5 := Lib.hid s5
    by_cases hp : h.ph = 1
    · rw [hp] at d5c d5a d5d
      have HE : Hid ({ h with m := h.m.setm s.h o.i o.v, th := h.th.set j { t with pd := [(s.h, o.i)] } } = h') := Lib.hid (by rw [← HPO.out]; unfold wrH; rw [if_pos hp])
      clear hp hD5 hT5 k5 s5
      go_wp2_with (fail)
      go_region
      all_goals
        go_wp2
        go_ret
        obtain ⟨k6, s6⟩ := HS5.out.pend HT.out s.h o.i rfl
        rw [World.setCell_drew, World.setCell_alloc_past _ _ _ _ tl] at k6 s6
        refine ⟨rfl, HK5.out.trans k6, ?_⟩
        rw [← HE.out]
        exact s6
    · have hpb : (h.ph == 1) = false := beq_eq_false_iff_ne.2 hp
      have e5 := HPO.out
      rw [wrH_no HT.out hp] at e5
      have HE := Lib.hid e5
      clear hp e5 hD5 hT5 k5 s5 tc5 tc5a d5a d5al d5d d5dl tla tfa tf
      go_wp2
      go_ret
      rw [← HE.out]
      exact ⟨rfl, HK5.out, HS5.out⟩
set_option maxRecDepth 100000 in
set_option maxHeartbeats 4000000 in
theorem write_5 (hS : St base D T S3 h j o s w) (ht : h.th[j]? = some t) (hwf : h.m.wf) (ha : U64 s.h) (hk : o.kd = 5) :
    Calls Tryz.prog 76 #[.pointer (some ⟨D, 0, none⟩)] w (Sp base D T S3 (h.m.gete s.h o.i) (wrH h j t s.h o.i s.k) j o s w) := by
  obtain ⟨us, P, Q, c, d, A, co, cT, hD, hT, hc1, hc2, hbD, hbT, hR⟩ := id hS
  have HSET := fun W (v : Int) (k : Kp [D, T] w W) => set_any h.m s.h o.i v P Q c d W (hR.kp k).sits ha hwf
  have HST := Lib.hid (fun W wz m (P' Q' : Addr) (c' d' : Nat) (s1 : St base D T S3 h j o s W) (k : Up W wz) (hm : Sits wz m P' Q' c' d') (hn : m.n = h.m.n) => s1.mem k hm hn)
  replace HSET := Lib.hid HSET
  have hcD := hD.cell
  unfold stc at hcD
  rw [hk] at hcD
  have hlD := hD.lt
  have HD := Lib.hid hD
  have HS := Lib.hid hS
  have HT := Lib.hid ht
  have HKD := Lib.hid hk
  generalize hpo : wrH h j t s.h o.i s.k = h' 
  have HPO := Lib.hid hpo
  generalize hge : h.m.gete s.h o.i = er at *
  clear hS hT hR hD hc1 hc2 hbD hbT ht hwf ha hk hpo hge
  go_enter Tryz.func76, Tryz.ntmps76
  go_wp2_with (fail)
  go_quiet (fail)
  go_upto_region 11 with fail
  obtain ⟨w1, hw1⟩ : ∃ w1 : World, w1 = w.drewN nq := ⟨_, rfl⟩
  have hU1 : Up w w1 := by rw [hw1]; exact Up.drewN (Up.refl w) _
  rw [← hw1]
  clear hw1
  have HS1 := Lib.hid (HS.out.up hU1)
  have HDD := Lib.hid (HD.out.up hU1)
  have HU1 := Lib.hid hU1
  clear hcD hlD HD hU1
  go_cut [2] from 38 to 60 (fun e2 w5 => e2 = .int .i64 er ∧ Kp [D, T] w w5 ∧ St base D T S3 { h with m := h.m.setm s.h o.i s.k } j o s w5)
  case first =>
    have UW := (Up.refl w1).drew
    have D1 := HDD.out.drew
    have D1c := D1.cell
    unfold stc at D1c
    rw [HKD.out] at D1c
    have D1l := D1.lt
    go_region_with (go_at_call 101; (refine (HSET.out _ s.k (.of_up (HU1.out.trans UW))).mono ?_); rintro e wz ⟨P', Q', c', d', rfl, sz, hz⟩; have hZ := D1.up hz; have hcZ := hZ.cell; unfold stc at hcZ; have hlZ := hZ.lt; have hfZ := hZ.frozen)
    all_goals
      have HSZ := Lib.hid sz
      have hn : (h.m.setm s.h o.i s.k).n = h.m.n := set_n _ _ _ _
      have HN := Lib.hid hn
      rw [hn]
      clear sz hn
      go_wp2_with (fail)
      go_meet
      obtain ⟨k5, s5⟩ := HST.out _ _ _ P' Q' c' d' HS1.out (UW.trans hz) HSZ.out HN.out
      exact ⟨rfl, (Kp.of_up HU1.out).trans k5, s5⟩
  case rest =>
    obtain ⟨rfl, k5, s5⟩ := hcut
    rename World => w5
    obtain ⟨us5, P5, Q5, c5, d5, A5, co5, cT5, hD5, hT5, -, -, -, -, hR5⟩ := id s5
    obtain ⟨u5, hu5, -⟩ := hR5.at_ (t := t) HT.out
    have tc5 := (tcs hT5 hu5).2.2.2.2.2.1
    have tc5a := fun ob => (tcs (hT5.alloc ob).drew hu5).2.2.2.2.2.1
    clear hR5 hu5
    have d5c := hD5.cell
    unfold stc at d5c
    have d5l := hD5.lt
    have d5a := fun ob => (hD5.alloc ob).drew.cell
    unfold stc at d5a
    have d5al := fun ob => (hD5.alloc ob).drew.lt
    have d5d := hD5.drew.cell
    unfold stc at d5d
    have d5dl := hD5.drew.lt
    have tl := hT5.lt
    have tla := fun ob => (hT5.alloc ob).drew.lt
    have tfa := fun ob => (hT5.alloc ob).drew.frozen
    have tf := hT5.drew.frozen
    have HK5 := Lib.hid k5
    have HS5 := Lib.hid s5
    by_cases hp : h.ph = 1
    · rw [hp] at d5c d5a d5d
      have HE : Hid ({ h with m := h.m.setm s.h o.i s.k, th := h.th.set j { t with pd := [(s.h, o.i)] } } = h') := Lib.hid (by rw [← HPO.out]; unfold wrH; rw [if_pos hp])
      clear hp hD5 hT5 k5 s5
      go_wp2_with (fail)
      go_region
      all_goals
        go_wp2
        go_ret
        obtain ⟨k6, s6⟩ := HS5.out.pend HT.out s.h o.i rfl
        rw [World.setCell_drew, World.setCell_alloc_past _ _ _ _ tl] at k6 s6
        refine ⟨rfl, HK5.out.trans k6, ?_⟩
        rw [← HE.out]
        exact s6
    · have hpb : (h.ph == 1) = false := beq_eq_false_iff_ne.2 hp
      have e5 := HPO.out
      rw [wrH_no HT.out hp] at e5
      have HE := Lib.hid e5
      clear hp e5 hD5 hT5 k5 s5 tc5 tc5a d5a d5al d5d d5dl tla tfa tf
      go_wp2
      go_ret
      rw [← HE.out]
      exact ⟨rfl, HK5.out, HS5.out⟩
set_option maxRecDepth 100000 in
set_option maxHeartbeats 4000000 in
theorem write_6 (hS : St base D T S3 h j o s w) (ht : h.th[j]? = some t) (hwf : h.m.wf) (ha : U64 s.h) (hk : o.kd = 6) (hv0 : 0 ≤ s.v) (hv1 : 0 ≤ o.v) :
    Calls Tryz.prog 76 #[.pointer (some ⟨D, 0, none⟩)] w (Sp base D T S3 (h.m.gete s.h o.i) (wrH h j t s.h o.i (Nm.addw s.v o.v)) j o s w) := by
  obtain ⟨us, P, Q, c, d, A, co, cT, hD, hT, hc1, hc2, hbD, hbT, hR⟩ := id hS
  have HSET := fun W (v : Int) (k : Kp [D, T] w W) => set_any h.m s.h o.i v P Q c d W (hR.kp k).sits ha hwf
  have HST := Lib.hid (fun W wz m (P' Q' : Addr) (c' d' : Nat) (s1 : St base D T S3 h j o s W) (k : Up W wz) (hm : Sits wz m P' Q' c' d') (hn : m.n = h.m.n) => s1.mem k hm hn)
  replace HSET := Lib.hid HSET
  have hcD := hD.cell
  unfold stc at hcD
  rw [hk] at hcD
  have hlD := hD.lt
  have HD := Lib.hid hD
  have HS := Lib.hid hS
  have HT := Lib.hid ht
  have HKD := Lib.hid hk
  generalize hpo : wrH h j t s.h o.i (Nm.addw s.v o.v) = h' 
  have HPO := Lib.hid hpo
  generalize hge : h.m.gete s.h o.i = er at *
  clear hS hT hR hD hc1 hc2 hbD hbT ht hwf ha hk hpo hge
  go_enter Tryz.func76, Tryz.ntmps76
  go_wp2_with (fail)
  go_quiet (fail)
  go_wp2_with (fail)
  refine (Nm.add_any s.v o.v hv0 hv1 _).mono ?_
  rintro e w1 ⟨rfl, k1⟩
  have hU1 : Up w w1 := (Up.drewN (Up.refl w) _).trans k1
  clear k1
  go_upto_region 11 with fail
  have HS1 := Lib.hid (HS.out.up hU1)
  have HDD := Lib.hid (HD.out.up hU1)
  have HU1 := Lib.hid hU1
  clear hcD hlD HD hU1
  go_cut [2] from 38 to 60 (fun e2 w5 => e2 = .int .i64 er ∧ Kp [D, T] w w5 ∧ St base D T S3 { h with m := h.m.setm s.h o.i (Nm.addw s.v o.v) } j o s w5)
  case first =>
    have UW := (Up.refl w1).drew
    have D1 := HDD.out.drew
    have D1c := D1.cell
    unfold stc at D1c
    rw [HKD.out] at D1c
    have D1l := D1.lt
    go_region_with (go_at_call 101; (refine (HSET.out _ (Nm.addw s.v o.v) (.of_up (HU1.out.trans UW))).mono ?_); rintro e wz ⟨P', Q', c', d', rfl, sz, hz⟩; have hZ := D1.up hz; have hcZ := hZ.cell; unfold stc at hcZ; have hlZ := hZ.lt; have hfZ := hZ.frozen)
    all_goals
      have HSZ := Lib.hid sz
      have hn : (h.m.setm s.h o.i (Nm.addw s.v o.v)).n = h.m.n := set_n _ _ _ _
      have HN := Lib.hid hn
      rw [hn]
      clear sz hn
      go_wp2_with (fail)
      go_meet
      obtain ⟨k5, s5⟩ := HST.out _ _ _ P' Q' c' d' HS1.out (UW.trans hz) HSZ.out HN.out
      exact ⟨rfl, (Kp.of_up HU1.out).trans k5, s5⟩
  case rest =>
    obtain ⟨rfl, k5, s5⟩ := hcut
    rename World => w5
    obtain ⟨us5, P5, Q5, c5, d5, A5, co5, cT5, hD5, hT5, -, -, -, -, hR5⟩ := id s5
    obtain ⟨u5, hu5, -⟩ := hR5.at_ (t := t) HT.out
    have tc5 := (tcs hT5 hu5).2.2.2.2.2.1
    have tc5a := fun ob => (tcs (hT5.alloc ob).drew hu5).2.2.2.2.2.1
    clear hR5 hu5
    have d5c := hD5.cell
    unfold stc at d5c
    have d5l := hD5.lt
    have d5a := fun ob => (hD5.alloc ob).drew.cell
    unfold stc at d5a
    have d5al := fun ob => (hD5.alloc ob).drew.lt
    have d5d := hD5.drew.cell
    unfold stc at d5d
    have d5dl := hD5.drew.lt
    have tl := hT5.lt
    have tla := fun ob => (hT5.alloc ob).drew.lt
    have tfa := fun ob => (hT5.alloc ob).drew.frozen
    have tf := hT5.drew.frozen
    have HK5 := Lib.hid k5
    have HS5 := Lib.hid s5
    by_cases hp : h.ph = 1
    · rw [hp] at d5c d5a d5d
      have HE : Hid ({ h with m := h.m.setm s.h o.i (Nm.addw s.v o.v), th := h.th.set j { t with pd := [(s.h, o.i)] } } = h') := Lib.hid (by rw [← HPO.out]; unfold wrH; rw [if_pos hp])
      clear hp hD5 hT5 k5 s5
      go_wp2_with (fail)
      go_region
      all_goals
        go_wp2
        go_ret
        obtain ⟨k6, s6⟩ := HS5.out.pend HT.out s.h o.i rfl
        rw [World.setCell_drew, World.setCell_alloc_past _ _ _ _ tl] at k6 s6
        refine ⟨rfl, HK5.out.trans k6, ?_⟩
        rw [← HE.out]
        exact s6
    · have hpb : (h.ph == 1) = false := beq_eq_false_iff_ne.2 hp
      have e5 := HPO.out
      rw [wrH_no HT.out hp] at e5
      have HE := Lib.hid e5
      clear hp e5 hD5 hT5 k5 s5 tc5 tc5a d5a d5al d5d d5dl tla tfa tf
      go_wp2
      go_ret
      rw [← HE.out]
      exact ⟨rfl, HK5.out, HS5.out⟩
set_option maxRecDepth 100000 in
set_option maxHeartbeats 4000000 in
theorem write_7 (hS : St base D T S3 h j o s w) (ht : h.th[j]? = some t) (hwf : h.m.wf) (ha : U64 s.h) (hk : o.kd = 7) (hv0 : 0 ≤ s.v) (hv1 : 0 ≤ o.v) :
    Calls Tryz.prog 76 #[.pointer (some ⟨D, 0, none⟩)] w (Sp base D T S3 (h.m.gete s.h o.i) (wrH h j t s.h o.i (Nm.mulw s.v o.v)) j o s w) := by
  obtain ⟨us, P, Q, c, d, A, co, cT, hD, hT, hc1, hc2, hbD, hbT, hR⟩ := id hS
  have HSET := fun W (v : Int) (k : Kp [D, T] w W) => set_any h.m s.h o.i v P Q c d W (hR.kp k).sits ha hwf
  have HST := Lib.hid (fun W wz m (P' Q' : Addr) (c' d' : Nat) (s1 : St base D T S3 h j o s W) (k : Up W wz) (hm : Sits wz m P' Q' c' d') (hn : m.n = h.m.n) => s1.mem k hm hn)
  replace HSET := Lib.hid HSET
  have hcD := hD.cell
  unfold stc at hcD
  rw [hk] at hcD
  have hlD := hD.lt
  have HD := Lib.hid hD
  have HS := Lib.hid hS
  have HT := Lib.hid ht
  have HKD := Lib.hid hk
  generalize hpo : wrH h j t s.h o.i (Nm.mulw s.v o.v) = h' 
  have HPO := Lib.hid hpo
  generalize hge : h.m.gete s.h o.i = er at *
  clear hS hT hR hD hc1 hc2 hbD hbT ht hwf ha hk hpo hge
  go_enter Tryz.func76, Tryz.ntmps76
  go_wp2_with (fail)
  go_quiet (fail)
  go_wp2_with (fail)
  refine (Nm.mul_any s.v o.v hv0 hv1 _).mono ?_
  rintro e w1 ⟨rfl, k1⟩
  have hU1 : Up w w1 := (Up.drewN (Up.refl w) _).trans k1
  clear k1
  go_upto_region 11 with fail
  have HS1 := Lib.hid (HS.out.up hU1)
  have HDD := Lib.hid (HD.out.up hU1)
  have HU1 := Lib.hid hU1
  clear hcD hlD HD hU1
  go_cut [2] from 38 to 60 (fun e2 w5 => e2 = .int .i64 er ∧ Kp [D, T] w w5 ∧ St base D T S3 { h with m := h.m.setm s.h o.i (Nm.mulw s.v o.v) } j o s w5)
  case first =>
    have UW := (Up.refl w1).drew
    have D1 := HDD.out.drew
    have D1c := D1.cell
    unfold stc at D1c
    rw [HKD.out] at D1c
    have D1l := D1.lt
    go_region_with (go_at_call 101; (refine (HSET.out _ (Nm.mulw s.v o.v) (.of_up (HU1.out.trans UW))).mono ?_); rintro e wz ⟨P', Q', c', d', rfl, sz, hz⟩; have hZ := D1.up hz; have hcZ := hZ.cell; unfold stc at hcZ; have hlZ := hZ.lt; have hfZ := hZ.frozen)
    all_goals
      have HSZ := Lib.hid sz
      have hn : (h.m.setm s.h o.i (Nm.mulw s.v o.v)).n = h.m.n := set_n _ _ _ _
      have HN := Lib.hid hn
      rw [hn]
      clear sz hn
      go_wp2_with (fail)
      go_meet
      obtain ⟨k5, s5⟩ := HST.out _ _ _ P' Q' c' d' HS1.out (UW.trans hz) HSZ.out HN.out
      exact ⟨rfl, (Kp.of_up HU1.out).trans k5, s5⟩
  case rest =>
    obtain ⟨rfl, k5, s5⟩ := hcut
    rename World => w5
    obtain ⟨us5, P5, Q5, c5, d5, A5, co5, cT5, hD5, hT5, -, -, -, -, hR5⟩ := id s5
    obtain ⟨u5, hu5, -⟩ := hR5.at_ (t := t) HT.out
    have tc5 := (tcs hT5 hu5).2.2.2.2.2.1
    have tc5a := fun ob => (tcs (hT5.alloc ob).drew hu5).2.2.2.2.2.1
    clear hR5 hu5
    have d5c := hD5.cell
    unfold stc at d5c
    have d5l := hD5.lt
    have d5a := fun ob => (hD5.alloc ob).drew.cell
    unfold stc at d5a
    have d5al := fun ob => (hD5.alloc ob).drew.lt
    have d5d := hD5.drew.cell
    unfold stc at d5d
    have d5dl := hD5.drew.lt
    have tl := hT5.lt
    have tla := fun ob => (hT5.alloc ob).drew.lt
    have tfa := fun ob => (hT5.alloc ob).drew.frozen
    have tf := hT5.drew.frozen
    have HK5 := Lib.hid k5
    have HS5 := Lib.hid s5
    by_cases hp : h.ph = 1
    · rw [hp] at d5c d5a d5d
      have HE : Hid ({ h with m := h.m.setm s.h o.i (Nm.mulw s.v o.v), th := h.th.set j { t with pd := [(s.h, o.i)] } } = h') := Lib.hid (by rw [← HPO.out]; unfold wrH; rw [if_pos hp])
      clear hp hD5 hT5 k5 s5
      go_wp2_with (fail)
      go_region
      all_goals
        go_wp2
        go_ret
        obtain ⟨k6, s6⟩ := HS5.out.pend HT.out s.h o.i rfl
        rw [World.setCell_drew, World.setCell_alloc_past _ _ _ _ tl] at k6 s6
        refine ⟨rfl, HK5.out.trans k6, ?_⟩
        rw [← HE.out]
        exact s6
    · have hpb : (h.ph == 1) = false := beq_eq_false_iff_ne.2 hp
      have e5 := HPO.out
      rw [wrH_no HT.out hp] at e5
      have HE := Lib.hid e5
      clear hp e5 hD5 hT5 k5 s5 tc5 tc5a d5a d5al d5d d5dl tla tfa tf
      go_wp2
      go_ret
      rw [← HE.out]
      exact ⟨rfl, HK5.out, HS5.out⟩
end
end Go.Proofs.YtddoljfkbkbfjaaGreat.T
