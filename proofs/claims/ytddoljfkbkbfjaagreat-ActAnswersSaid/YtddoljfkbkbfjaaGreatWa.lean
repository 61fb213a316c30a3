/- A pending entry goes behind the log (a piece of act.Do): contract, over letters. A pending entry goes behind the log (a piece of act.Do): contract, over letters. -/
import Derived.Test.YtddoljfkbkbfjaaGreatTx
import Derived.Deep.CutRange
import Derived.BigRegion
import Derived.Deep.RegionHeld3
namespace Go.Proofs.YtddoljfkbkbfjaaGreat.T
open G
open Go.Joins Go.ChangeShapes Go.WideShapes Go.ChangeAt Go.RowKit Go.Deep Go.Shelf Go.Maps
set_option linter.unusedVariables false
set_option linter.unusedSimpArgs false

/-- The pending entry stands behind the log. -/
def logH (h : Hp) (j : Nat) (t : Th) (e : Ent) : Hp := { h with th := h.th.set j { t with lg := t.lg ++ [e], pd := [] } }
/-- What a step leaves whose thread's log is longer. -/
theorem St.log {base D T : Nat} {S3 : List Nat} {h : Hp} {j : Nat} {o : Op} {s : Ks} {w : World} {t : Th} (hS : St base D T S3 h j o s w) (ht : h.th[j]? = some t) {e : Ent} {A' : Option Addr} {cap' : Nat} {w5 : World}
    (hown : w5.ownsRow base 66 2 (.slice A' (t.lg.length + 1) cap') (t.lg.length + 1) ((t.lg ++ [e]).flatMap enc)) (hK : Kp S3 w w5) (hT5 : ∀ g ty cs, ty ≠ 66 → Blk w g ty cs → Blk w5 g ty cs) {w6 : World} (h6 : w6 = (w5.setCell ⟨T, j * 8 + 3, none⟩ (.slice A' (t.lg.length + 1) cap')).setCell ⟨T, j * 8 + 5, none⟩ (.slice none 0 0)) :
    Kp (D :: T :: S3) w w6 ∧ Fin base D (logH h j t e) w6 := by
  obtain ⟨us, P, Q, c, d, A, co, cT, hD, hT, hc1, hc2, hbD, hbT, hR⟩ := hS
  obtain ⟨u, hu, hO⟩ := hR.at_ ht
  have hDT : D ≠ T := hD.ne_type hT (by decide)
  have hj : j < us.length := hR.lt
  have hD5 := hT5 _ _ _ (by decide) hD
  have hTb5 := hT5 _ _ _ (by decide) hT
  have a1 := tset (u' := { u with lg := .slice A' (t.lg.length + 1) cap' }) (v := .slice A' (t.lg.length + 1) cap') hTb5 hu 3 (by decide) rfl
  have a2 := tset (u' := { u with lg := .slice A' (t.lg.length + 1) cap', pd := .slice none 0 0 }) (v := .slice none 0 0) a1 (List.getElem?_set_self hj) 5 (by decide) rfl
  rw [List.set_set] at a2
  rw [← h6] at a2
  have hK6 : Kp (D :: T :: S3) w w6 := by
    rw [h6]
    exact ((hK.mono (fun x hx => by simp [hx])).set_ (by simp) _).set_ (by simp) _
  have hD6 : Blk w6 D 78 (stc h P Q c d (.slice (some ⟨T, 0, none⟩) us.length cT) (.slice A h.od.length co) j ⟨T, j * 8, none⟩ o s) := by
    rw [h6]
    exact (hD5.far (p := ⟨T, j * 8 + 3, none⟩) hDT _).far (p := ⟨T, j * 8 + 5, none⟩) hDT _
  have hown6 : w6.ownsRow base 66 2 (.slice A' (t.lg.length + 1) cap') (t.lg.length + 1) ((t.lg ++ [e]).flatMap enc) := by
    rw [h6]
    exact own_far (own_far hown hTb5 (by decide) _ _) a1 (by decide) _ _
  have hkeep : ∀ g ty cs, ty ≠ 66 → ty ≠ 44 → Blk w g ty cs → Blk w6 g ty cs := fun g ty cs q1 q2 hb => by
    rw [h6]
    have hb5 := hT5 g ty cs q1 hb
    have n1 := hb5.ne_type hTb5 q2
    exact (hb5.far (p := ⟨T, j * 8 + 3, none⟩) n1 _).far (p := ⟨T, j * 8 + 5, none⟩) n1 _
  have hord : Cs base S3 3 inc 0 w6 (.slice A h.od.length co) h.od := hR.ord.keep fun g cs hb _ => hkeep g _ cs (by decide) (by decide) hb
  have hdn : Cs base S3 56 anc az w6 u.dn t.dn := hO.dn.keep fun g cs hb _ => hkeep g _ cs (by decide) (by decide) hb
  refine ⟨hK6, P, Q, c, d, .slice (some ⟨T, 0, none⟩) us.length cT, .slice A h.od.length co, us.set j { u with lg := .slice A' (t.lg.length + 1) cap', pd := .slice none 0 0 }, j, _, o, s, hD6, Sits.kpA hR.sits hK6 hR.pa hR.qa, ?_, ⟨?_, fun i u' t' hu' ht' => ?_⟩, hord.rc, fun p n c e hn => ?_⟩
  · refine ⟨some ⟨T, 0, none⟩, cT, by rw [List.length_set], by rw [List.length_set]; exact hc1, hc2, fun q => (by cases q), rv_of_blk a2 fun i v hv => ?_⟩
    rw [List.getElem?_toArray, List.flatMap_append, List.getElem?_append_left ?_]
    · exact hv
    · rcases Nat.lt_or_ge i ((us.set j { u with lg := .slice A' (t.lg.length + 1) cap', pd := .slice none 0 0 }).flatMap tvc).length with q | q
      · exact q
      · rw [List.getElem?_eq_none q] at hv; cases hv
  · show (us.set j _).length = (h.th.set j _).length
    rw [List.length_set, List.length_set]
    exact hR.len
  · have ht2 : (h.th.set j { t with lg := t.lg ++ [e], pd := [] })[i]? = some t' := ht'
    by_cases e : i = j
    · subst e
      rw [List.getElem?_set_self hj] at hu'
      rw [List.getElem?_set_self (by rw [← hR.len]; exact hj)] at ht2
      cases hu'
      cases ht2
      exact ⟨hO.st.kp hO.sta hK6, hO.ba, hO.be, rc_of_own hown6 len_e (by simp), hO.lf.kp hO.lfa hK6, Rc.nil _ _, hO.wt, hdn.rc⟩
    · rw [List.getElem?_set_ne (fun q => e q.symm)] at hu' ht2
      exact ((hR.oth i u' t' e hu' ht2).kp hK6 (fun g hg => hg)).r
  · rcases hR.ord with ⟨h0, A', e2⟩ | ⟨h0, g, cap, e2, g1, -⟩
    · rw [e2] at e
      injection e with _ q _
      exact absurd q.symm hn
    · rw [e2] at e
      injection e with q
      injection q with q
      rw [← q]
      exact g1
end Go.Proofs.YtddoljfkbkbfjaaGreat.T

namespace Go.Proofs.YtddoljfkbkbfjaaGreat.T
open G
open Go.Joins Go.ChangeShapes Go.WideShapes Go.ChangeAt Go.RowKit Go.Deep Go.Shelf Go.Maps
set_option linter.unusedVariables false
set_option linter.unusedSimpArgs false

noncomputable def do5 : Code := ((Tryz.f11.body.bind (findReg 5)).getD .skip)
set_option maxRecDepth 100000 in
set_option maxHeartbeats 8000000 in
theorem do5_wp {base D T : Nat} {S3 : List Nat} {h : Hp} {j : Nat} {o : Op} {s : Ks} {w : World} {t : Th} {e : Ent} (hS : St base D T S3 h j o s w) (ht : h.th[j]? = some t) (hpd : t.pd = [e]) (hlg : (t.lg.length + 1) * 16 ≤ 140737488355328) (hbase : base ≤ w.heap.size)
    (u0 u1 u2 u3 u4 u6 u7 u8 u9 u10 u11 u12 u13 u14 u15 u16 u17 u18 u19 u20 u21 u22 u23 u24 u25 u26 u27 u28 u29 u30 u31 u32 u33 u34 u35 u36 u37 u38 u39 u40 u41 u42 u43 u44 u45 u46 u47 u48 u49 u50 u51 u52 u53 u54 u55 u56 u57 u58 u59 u60 u61 u62 u63 u64 : Value) (K : Act → World → Prop) (Q0 : Exit → Act → World → Prop)
    (HK : Hid (∀ (y23 y24 y25 y26 y27 y28 y29 y30 y31 y32 y33 y34 y35 y36 y37 y38 y39 y40 y41 y42 y43 y44 y45 y46 y47 y48 y49 : Value) (w5 : World), Kp (D :: T :: S3) w w5 → Fin base D (logH h j t e) w5 → K ⟨(u0 :: u1 :: u2 :: u3 :: u4 :: .pointer (some ⟨D, 0, none⟩) :: u6 :: u7 :: u8 :: u9 :: u10 :: u11 :: u12 :: u13 :: u14 :: u15 :: u16 :: u17 :: u18 :: u19 :: u20 :: u21 :: u22 :: y23 :: y24 :: y25 :: y26 :: y27 :: y28 :: y29 :: y30 :: y31 :: y32 :: y33 :: y34 :: y35 :: y36 :: y37 :: y38 :: y39 :: y40 :: y41 :: y42 :: y43 :: y44 :: y45 :: y46 :: y47 :: y48 :: y49 :: u50 :: u51 :: u52 :: u53 :: u54 :: u55 :: u56 :: u57 :: u58 :: u59 :: u60 :: u61 :: u62 :: u63 :: u64 :: []).toArray, []⟩ w5)) :
    Code.wp Tryz.prog do5 (Exit.then K Q0) ⟨(u0 :: u1 :: u2 :: u3 :: u4 :: .pointer (some ⟨D, 0, none⟩) :: u6 :: u7 :: u8 :: u9 :: u10 :: u11 :: u12 :: u13 :: u14 :: u15 :: u16 :: u17 :: u18 :: u19 :: u20 :: u21 :: u22 :: u23 :: u24 :: u25 :: u26 :: u27 :: u28 :: u29 :: u30 :: u31 :: u32 :: u33 :: u34 :: u35 :: u36 :: u37 :: u38 :: u39 :: u40 :: u41 :: u42 :: u43 :: u44 :: u45 :: u46 :: u47 :: u48 :: u49 :: u50 :: u51 :: u52 :: u53 :: u54 :: u55 :: u56 :: u57 :: u58 :: u59 :: u60 :: u61 :: u62 :: u63 :: u64 :: []).toArray, []⟩ w := by
  obtain ⟨us, P, Q, c, d, A, co, cT, hD, hT, hc1, hc2, hbD, hbT, hR⟩ := id hS
  obtain ⟨u, hu, hO⟩ := hR.at_ ht
  have HS := Lib.hid hS
  have HT := Lib.hid ht
  obtain ⟨ust, uba, ube, ulg, ulf, upd, uwt, udn⟩ := u
  obtain ⟨A3, c3, e3⟩ := hO.lg.slice
  obtain ⟨A5, c5, e5⟩ := hO.pd.slice
  simp only at e3 e5
  subst e3
  subst e5
  have hpr := hO.pd
  rw [hpd] at hpr
  obtain ⟨B, rfl, hBl, hBc⟩ := Rc.at_ (k := 2) (j := 0) (x := e) (hpr : Rc enc w (.slice A5 1 c5) [e]) (fun _ => rfl) (by decide) rfl
  rw [show t.pd.length = 1 from by rw [hpd]; rfl] at hu hO
  have HO := Lib.hid hO
  have UD : Up w w.drew := (Up.refl w).drew
  obtain ⟨A', cap', w5, hrun, hown, hK5, hT5⟩ := cs_push ez_e len_e (hO.lg.keep (w' := w.drew) (fun g cs hb _ => hb.up UD)) (by have := UD.size; omega) B c5 e (by have := UD.size; omega) (fun i v hv => by
    have := UD.cell (hBc i v hv)
    rwa [Nat.zero_mul, Nat.zero_add] at this) (fun v hv => by simp [enc] at hv; rcases hv with rfl | rfl <;> rfl) hlg (by unfold maxLen; omega) 40
  simp only at hrun
  have HRUN := Lib.hid hrun
  have HL := Lib.hid (fun w6 h6 => hS.log (e := e) (A' := A') (cap' := cap') (w5 := w5) ht hown ((Kp.of_up UD).trans hK5) (fun g ty cs q hb => hT5 g ty cs q (hb.up UD)) (w6 := w6) h6)
  have hTn : T ∉ S3 := hR.nT
  have hDn : D ∉ S3 := hR.nD
  have hDd := hD.up UD
  have hTd := hT.up UD
  have hD5 := hDd.kp hK5 hDn
  have hTb5 := hTd.kp hK5 hTn
  have hDT : D ≠ T := hD.ne_type hT (by decide)
  have HS6 := Lib.hid (fun v => (hD5.far (p := ⟨T, j * 8 + 3, none⟩) hDT v).cell 18)
  have HS7 := Lib.hid (fun v v' => ((hD5.far (p := ⟨T, j * 8 + 3, none⟩) hDT v).far (p := ⟨T, j * 8 + 5, none⟩) hDT v').cell 18)
  have dc := hDd.cell
  unfold stc at dc
  have dl := hDd.lt
  have d5c := hD5.cell
  unfold stc at d5c
  have d5l := hD5.lt
  obtain ⟨t0, t1, t2, t3, t4, t5, t6, t7⟩ := tcs hTd hu
  have tl := hTd.lt
  have tf := hTd.frozen
  obtain ⟨q0, q1, q2, q3, q4, q5, q6, q7⟩ := tcs hTb5 hu
  have ql := hTb5.lt
  have qf := hTb5.frozen
  simp only at t3 t5 q3 q5
  have hn3 : t.lg.length + 1 ≤ 9223372036854775807 := by omega
  clear hS ht hD hT hR hO hpr hBl hBc hrun hown hK5 hT5 hTn hDn hDd hTd hD5 hTb5 hc1 hc2 hbD hbT hbase hlg hu hpd t0 t1 t2 t4 t6 t7 q0 q1 q2 q4 q6 q7 UD
  generalize hnn : t.lg.length = nn at *
  clear hnn
  conv => arg 2; whnf
  refine wp_region_noPanic ?_
  have s0 : w.drew.cell? ⟨D, 18, none⟩ = some (.pointer (some ⟨T, j * 8, none⟩)) := dc 18
  have s5 : w5.cell? ⟨D, 18, none⟩ = some (.pointer (some ⟨T, j * 8, none⟩)) := d5c 18
  have s6 : (w5.setCell ⟨T, j * 8 + 3, none⟩ (.slice A' (nn + 1) cap')).cell? ⟨D, 18, none⟩ = some (.pointer (some ⟨T, j * 8, none⟩)) := HS6.out _
  have s7 : ((w5.setCell ⟨T, j * 8 + 3, none⟩ (.slice A' (nn + 1) cap')).setCell ⟨T, j * 8 + 5, none⟩ (.slice none 0 0)).cell? ⟨D, 18, none⟩ = some (.pointer (some ⟨T, j * 8, none⟩)) := HS7.out _ _
  clear dc d5c
  refine wp_region_held_drew (S := fun W' => W'.cell? ⟨D, 18, none⟩ = some (.pointer (some ⟨T, j * 8, none⟩))) (by kernel_rfl) s0 (fun hHeld => ?_)
  refine wpAnyH_take (i := 0) (v := ?_) rfl (by kernel_rfl) (by kernel_rfl) (by kernel_rfl) (fun _ _ _ h => h) (Or.inl ⟨by rfl, ?_⟩) (by assumption) ?_
  rotate_left
  · intro w' hSw
    (try dsimp only at hSw)
    go_simp
    first
      | done
      | with_reducible rfl
  simp only [Act.put, List.setIfInBounds_toArray, List.set_cons_zero, List.set_cons_succ]
  refine wpAnyH_take (i := 1) (v := ?_) rfl (by kernel_rfl) (by kernel_rfl) (by kernel_rfl) (fun _ _ _ h => h) (Or.inl ⟨by rfl, ?_⟩) (by assumption) ?_
  rotate_left
  · intro w' hSw
    (try dsimp only at hSw)
    go_simp
    first
      | done
      | with_reducible rfl
  simp only [Act.put, List.setIfInBounds_toArray, List.set_cons_zero, List.set_cons_succ]
  refine wpAnyH_take (i := 2) (v := ?_) rfl (by kernel_rfl) (by kernel_rfl) (by kernel_rfl) (fun _ _ _ h => h) (Or.inl ⟨by rfl, ?_⟩) (by assumption) ?_
  rotate_left
  · intro w' hSw
    (try dsimp only at hSw)
    go_simp
    first
      | done
      | with_reducible rfl
  simp only [Act.put, List.setIfInBounds_toArray, List.set_cons_zero, List.set_cons_succ]
  refine wpAnyH_take (i := 3) (v := ?_) rfl (by kernel_rfl) (by kernel_rfl) (by kernel_rfl) (fun _ _ _ h => h) (Or.inl ⟨by rfl, ?_⟩) (by assumption) ?_
  rotate_left
  · intro w' hSw
    (try dsimp only at hSw)
    go_simp
    first
      | done
      | with_reducible rfl
  simp only [Act.put, List.setIfInBounds_toArray, List.set_cons_zero, List.set_cons_succ]
  refine wpAnyH_take (i := 4) (v := ?_) rfl (by kernel_rfl) (by kernel_rfl) (by kernel_rfl) (fun _ _ _ h => h) (Or.inl ⟨by rfl, ?_⟩) (by assumption) ?_
  rotate_left
  · intro w' hSw
    (try dsimp only at hSw)
    go_simp
    first
      | done
      | with_reducible rfl
  simp only [Act.put, List.setIfInBounds_toArray, List.set_cons_zero, List.set_cons_succ]
  refine wpAnyH_take (i := 5) (v := ?_) rfl (by kernel_rfl) (by kernel_rfl) (by kernel_rfl) (fun _ _ _ h => h) (Or.inl ⟨by rfl, ?_⟩) (by assumption) ?_
  rotate_left
  · intro w' hSw
    (try dsimp only at hSw)
    go_simp
    first
      | done
      | with_reducible rfl
  simp only [Act.put, List.setIfInBounds_toArray, List.set_cons_zero, List.set_cons_succ]
  refine wpAnyH_take (i := 6) (v := ?_) rfl (by kernel_rfl) (by kernel_rfl) (by kernel_rfl) (fun _ _ _ h => h) (Or.inl ⟨by rfl, ?_⟩) (by assumption) ?_
  rotate_left
  · intro w' hSw
    (try dsimp only at hSw)
    go_simp
    first
      | done
      | with_reducible rfl
  simp only [Act.put, List.setIfInBounds_toArray, List.set_cons_zero, List.set_cons_succ]
  refine wpAnyH_take (i := 7) (v := ?_) rfl (by kernel_rfl) (by kernel_rfl) (by kernel_rfl) (fun _ _ _ h => h) (Or.inl ⟨by rfl, ?_⟩) (by assumption) ?_
  rotate_left
  · intro w' hSw
    (try dsimp only at hSw)
    go_simp
    first
      | done
      | with_reducible rfl
  simp only [Act.put, List.setIfInBounds_toArray, List.set_cons_zero, List.set_cons_succ]
  refine wpAnyH_take (i := 8) (v := ?_) rfl (by kernel_rfl) (by kernel_rfl) (by kernel_rfl) (fun _ _ _ h => h) (Or.inl ⟨by rfl, ?_⟩) (by assumption) ?_
  rotate_left
  · intro w' hSw
    (try dsimp only at hSw)
    go_simp
    first
      | done
      | with_reducible rfl
  simp only [Act.put, List.setIfInBounds_toArray, List.set_cons_zero, List.set_cons_succ]
  refine wpAnyH_take (i := 9) (v := ?_) rfl (by kernel_rfl) (by kernel_rfl) (by kernel_rfl) (fun _ _ _ h => h) (Or.inl ⟨by rfl, ?_⟩) (by assumption) ?_
  rotate_left
  · intro w' hSw
    (try dsimp only at hSw)
    go_simp
    first
      | done
      | with_reducible rfl
  simp only [Act.put, List.setIfInBounds_toArray, List.set_cons_zero, List.set_cons_succ]
  refine wpAnyH_take (i := 10) (v := ?_) rfl (by kernel_rfl) (by kernel_rfl) (by kernel_rfl) (fun _ _ _ h => h) (Or.inl ⟨by rfl, ?_⟩) (by assumption) ?_
  rotate_left
  · intro w' hSw
    (try dsimp only at hSw)
    go_simp
    first
      | done
      | with_reducible rfl
  simp only [Act.put, List.setIfInBounds_toArray, List.set_cons_zero, List.set_cons_succ]
  refine wpAnyH_take (i := 11) (v := ?_) rfl (by kernel_rfl) (by kernel_rfl) (by kernel_rfl) (fun _ _ _ h => h) (Or.inl ⟨by rfl, ?_⟩) (by assumption) ?_
  rotate_left
  · intro w' hSw
    (try dsimp only at hSw)
    go_simp
    first
      | done
      | with_reducible rfl
  simp only [Act.put, List.setIfInBounds_toArray, List.set_cons_zero, List.set_cons_succ]
  refine wpAnyH_take (i := 12) (v := ?_) rfl (by kernel_rfl) (by kernel_rfl) (by kernel_rfl) (fun _ _ _ h => h) (Or.inl ⟨by rfl, ?_⟩) (by assumption) ?_
  rotate_left
  · intro w' hSw
    (try dsimp only at hSw)
    go_simp
    first
      | done
      | with_reducible rfl
  simp only [Act.put, List.setIfInBounds_toArray, List.set_cons_zero, List.set_cons_succ]
  refine wpAnyH_take (i := 13) (v := ?_) rfl (by kernel_rfl) (by kernel_rfl) (by kernel_rfl) (fun _ _ _ h => h) (Or.inl ⟨by rfl, ?_⟩) (by assumption) ?_
  rotate_left
  · intro w' hSw
    (try dsimp only at hSw)
    go_simp
    first
      | done
      | with_reducible rfl
  simp only [Act.put, List.setIfInBounds_toArray, List.set_cons_zero, List.set_cons_succ]
  refine wpAnyH_take (i := 15) (v := ?_) rfl (by kernel_rfl) (by kernel_rfl) (by kernel_rfl) (fun _ _ _ h => h) (Or.inl ⟨by rfl, ?_⟩) (by assumption) ?_
  rotate_left
  · intro w' hSw
    (try dsimp only at hSw)
    go_simp
    first
      | done
      | with_reducible rfl
  simp only [Act.put, List.setIfInBounds_toArray, List.set_cons_zero, List.set_cons_succ]
  refine wpAnyH_take (i := 16) (v := ?_) rfl (by kernel_rfl) (by kernel_rfl) (by kernel_rfl) (fun _ _ _ h => h) (Or.inl ⟨by rfl, ?_⟩) (by assumption) ?_
  rotate_left
  · intro w' hSw
    (try dsimp only at hSw)
    go_simp
    first
      | done
      | with_reducible rfl
  simp only [Act.put, List.setIfInBounds_toArray, List.set_cons_zero, List.set_cons_succ]
  refine wpAnyH_take (i := 17) (v := ?_) rfl (by kernel_rfl) (by kernel_rfl) (by kernel_rfl) (fun _ _ _ h => h) (Or.inl ⟨by rfl, ?_⟩) (by assumption) ?_
  rotate_left
  · intro w' hSw
    (try dsimp only at hSw)
    go_simp
    first
      | done
      | with_reducible rfl
  simp only [Act.put, List.setIfInBounds_toArray, List.set_cons_zero, List.set_cons_succ]
  refine wpAnyH_take (i := 18) (v := ?_) rfl (by kernel_rfl) (by kernel_rfl) (by kernel_rfl) (fun _ _ _ h => h) (Or.inl ⟨by rfl, ?_⟩) (by assumption) ?_
  rotate_left
  · intro w' hSw
    (try dsimp only at hSw)
    go_simp
    first
      | done
      | with_reducible rfl
  simp only [Act.put, List.setIfInBounds_toArray, List.set_cons_zero, List.set_cons_succ]
  refine wpAnyH_take (i := 19) (v := ?_) rfl (by kernel_rfl) (by kernel_rfl) (by kernel_rfl) (fun _ _ _ h => h) (Or.inl ⟨by rfl, ?_⟩) (by assumption) ?_
  rotate_left
  · intro w' hSw
    (try dsimp only at hSw)
    go_simp
    first
      | done
      | with_reducible rfl
  simp only [Act.put, List.setIfInBounds_toArray, List.set_cons_zero, List.set_cons_succ]
  refine wpAnyH_take (i := 20) (v := ?_) rfl (by kernel_rfl) (by kernel_rfl) (by kernel_rfl) (fun _ _ _ h => h) (Or.inl ⟨by rfl, ?_⟩) (by assumption) ?_
  rotate_left
  · intro w' hSw
    (try dsimp only at hSw)
    go_simp
    first
      | done
      | with_reducible rfl
  simp only [Act.put, List.setIfInBounds_toArray, List.set_cons_zero, List.set_cons_succ]
  refine wpAnyH_ready (rs := [14, 21]) (by kernel_rfl) (by simp) ?_
  refine AllReadyH.cons (o := _) rfl (fun K' hK => ?_) ?_
  · go_simp
    refine hK.out _ _ (s0) (fun hHeld => ?_)
    clear hK K'
    (try simp only [Act.put, List.setIfInBounds_toArray, List.set_cons_zero, List.set_cons_succ])
    refine wpAnyH_ready (rs := [21]) (by kernel_rfl) (by simp) ?_
    refine AllReadyH.cons (o := _) rfl (fun K' hK => ?_) ?_
    · go_simp
      refine hK.out _ _ (s0) (fun hHeld => ?_)
      clear hK K'
      (try simp only [Act.put, List.setIfInBounds_toArray, List.set_cons_zero, List.set_cons_succ])
      refine wpAnyH_ready (rs := [22]) (by kernel_rfl) (by simp) ?_
      refine AllReadyH.cons (o := _) rfl (fun K' hK => ?_) ?_
      · refine step_run (by rfl) _ _ (by rfl) _ _ (by rfl) (by rfl) _ _ HRUN.out ?_
        refine hK.out _ _ (s5) (fun hHeld => ?_)
        clear hK K'
        (try simp only [Act.put, List.setIfInBounds_toArray, List.set_cons_zero, List.set_cons_succ])
        refine wpAnyH_take (i := 23) (v := ?_) rfl (by kernel_rfl) (by kernel_rfl) (by kernel_rfl) (fun _ _ _ h => h) (Or.inl ⟨by rfl, ?_⟩) (by assumption) ?_
        rotate_left
        · intro w' hSw
          (try dsimp only at hSw)
          go_simp
          first
            | done
            | with_reducible rfl
        simp only [Act.put, List.setIfInBounds_toArray, List.set_cons_zero, List.set_cons_succ]
        refine wpAnyH_take (i := 24) (v := ?_) rfl (by kernel_rfl) (by kernel_rfl) (by kernel_rfl) (fun _ _ _ h => h) (Or.inl ⟨by rfl, ?_⟩) (by assumption) ?_
        rotate_left
        · intro w' hSw
          (try dsimp only at hSw)
          go_simp
          first
            | done
            | with_reducible rfl
        simp only [Act.put, List.setIfInBounds_toArray, List.set_cons_zero, List.set_cons_succ]
        refine wpAnyH_ready (rs := [25]) (by kernel_rfl) (by simp) ?_
        refine AllReadyH.cons (o := _) rfl (fun K' hK => ?_) ?_
        · go_simp
          refine hK.out _ _ (s6) (fun hHeld => ?_)
          clear hK K'
          (try simp only [Act.put, List.setIfInBounds_toArray, List.set_cons_zero, List.set_cons_succ])
          refine wpAnyH_take (i := 26) (v := ?_) rfl (by kernel_rfl) (by kernel_rfl) (by kernel_rfl) (fun _ _ _ h => h) (Or.inl ⟨by rfl, ?_⟩) (by assumption) ?_
          rotate_left
          · intro w' hSw
            (try dsimp only at hSw)
            go_simp
            first
              | done
              | with_reducible rfl
          simp only [Act.put, List.setIfInBounds_toArray, List.set_cons_zero, List.set_cons_succ]
          refine wpAnyH_take (i := 27) (v := ?_) rfl (by kernel_rfl) (by kernel_rfl) (by kernel_rfl) (fun _ _ _ h => h) (Or.inl ⟨by rfl, ?_⟩) (by assumption) ?_
          rotate_left
          · intro w' hSw
            (try dsimp only at hSw)
            go_simp
            first
              | done
              | with_reducible rfl
          simp only [Act.put, List.setIfInBounds_toArray, List.set_cons_zero, List.set_cons_succ]
          refine wpAnyH_ready (rs := [28]) (by kernel_rfl) (by simp) ?_
          refine AllReadyH.cons (o := _) rfl (fun K' hK => ?_) ?_
          · go_simp
            refine hK.out _ _ (s7) (fun hHeld => ?_)
            clear hK K'
            (try simp only [Act.put, List.setIfInBounds_toArray, List.set_cons_zero, List.set_cons_succ])
            refine wpAnyH_done (by kernel_rfl) ?_ _
            refine NoPanic.normal ?_
            obtain ⟨r1, r2⟩ := HL.out _ rfl
            exact HK.out _ _ _ _ _ _ _ _ _ _ _ _ _ _ _ _ _ _ _ _ _ _ _ _ _ _ _ _ r1 r2
          exact AllReadyH.nil
        exact AllReadyH.nil
      exact AllReadyH.nil
    exact AllReadyH.nil
  refine AllReadyH.cons (o := _) rfl (fun K' hK => ?_) ?_
  · go_simp
    refine hK.out _ _ (s0) (fun hHeld => ?_)
    clear hK K'
    (try simp only [Act.put, List.setIfInBounds_toArray, List.set_cons_zero, List.set_cons_succ])
    refine wpAnyH_ready (rs := [14]) (by kernel_rfl) (by simp) ?_
    refine AllReadyH.cons (o := _) rfl (fun K' hK => ?_) ?_
    · go_simp
      refine hK.out _ _ (s0) (fun hHeld => ?_)
      clear hK K'
      (try simp only [Act.put, List.setIfInBounds_toArray, List.set_cons_zero, List.set_cons_succ])
      refine wpAnyH_ready (rs := [22]) (by kernel_rfl) (by simp) ?_
      refine AllReadyH.cons (o := _) rfl (fun K' hK => ?_) ?_
      · refine step_run (by rfl) _ _ (by rfl) _ _ (by rfl) (by rfl) _ _ HRUN.out ?_
        refine hK.out _ _ (s5) (fun hHeld => ?_)
        clear hK K'
        (try simp only [Act.put, List.setIfInBounds_toArray, List.set_cons_zero, List.set_cons_succ])
        refine wpAnyH_take (i := 23) (v := ?_) rfl (by kernel_rfl) (by kernel_rfl) (by kernel_rfl) (fun _ _ _ h => h) (Or.inl ⟨by rfl, ?_⟩) (by assumption) ?_
        rotate_left
        · intro w' hSw
          (try dsimp only at hSw)
          go_simp
          first
            | done
            | with_reducible rfl
        simp only [Act.put, List.setIfInBounds_toArray, List.set_cons_zero, List.set_cons_succ]
        refine wpAnyH_take (i := 24) (v := ?_) rfl (by kernel_rfl) (by kernel_rfl) (by kernel_rfl) (fun _ _ _ h => h) (Or.inl ⟨by rfl, ?_⟩) (by assumption) ?_
        rotate_left
        · intro w' hSw
          (try dsimp only at hSw)
          go_simp
          first
            | done
            | with_reducible rfl
        simp only [Act.put, List.setIfInBounds_toArray, List.set_cons_zero, List.set_cons_succ]
        refine wpAnyH_ready (rs := [25]) (by kernel_rfl) (by simp) ?_
        refine AllReadyH.cons (o := _) rfl (fun K' hK => ?_) ?_
        · go_simp
          refine hK.out _ _ (s6) (fun hHeld => ?_)
          clear hK K'
          (try simp only [Act.put, List.setIfInBounds_toArray, List.set_cons_zero, List.set_cons_succ])
          refine wpAnyH_take (i := 26) (v := ?_) rfl (by kernel_rfl) (by kernel_rfl) (by kernel_rfl) (fun _ _ _ h => h) (Or.inl ⟨by rfl, ?_⟩) (by assumption) ?_
          rotate_left
          · intro w' hSw
            (try dsimp only at hSw)
            go_simp
            first
              | done
              | with_reducible rfl
          simp only [Act.put, List.setIfInBounds_toArray, List.set_cons_zero, List.set_cons_succ]
          refine wpAnyH_take (i := 27) (v := ?_) rfl (by kernel_rfl) (by kernel_rfl) (by kernel_rfl) (fun _ _ _ h => h) (Or.inl ⟨by rfl, ?_⟩) (by assumption) ?_
          rotate_left
          · intro w' hSw
            (try dsimp only at hSw)
            go_simp
            first
              | done
              | with_reducible rfl
          simp only [Act.put, List.setIfInBounds_toArray, List.set_cons_zero, List.set_cons_succ]
          refine wpAnyH_ready (rs := [28]) (by kernel_rfl) (by simp) ?_
          refine AllReadyH.cons (o := _) rfl (fun K' hK => ?_) ?_
          · go_simp
            refine hK.out _ _ (s7) (fun hHeld => ?_)
            clear hK K'
            (try simp only [Act.put, List.setIfInBounds_toArray, List.set_cons_zero, List.set_cons_succ])
            refine wpAnyH_done (by kernel_rfl) ?_ _
            refine NoPanic.normal ?_
            obtain ⟨r1, r2⟩ := HL.out _ rfl
            exact HK.out _ _ _ _ _ _ _ _ _ _ _ _ _ _ _ _ _ _ _ _ _ _ _ _ _ _ _ _ r1 r2
          exact AllReadyH.nil
        exact AllReadyH.nil
      exact AllReadyH.nil
    exact AllReadyH.nil
  exact AllReadyH.nil
end Go.Proofs.YtddoljfkbkbfjaaGreat.T
