/- The document's walk: what is reached (visit, Reach), its words: contracts. -/
import Derived.Test.YtanhhkdoejnpiaaGreatGc
namespace Go.Proofs.YtanhhkdoejnpiaaGreat.G
open Go.Joins Go.ChangeShapes Go.WideShapes Go.ChangeAt Go.RowKit Go.Deep Go.Shelf Go.Maps
set_option linter.unusedVariables false
set_option linter.unusedSimpArgs false

abbrev mev (n : Nat) (P Q : Addr) (c d : Nat) : Value := .agg #[.int .i64 n, .slice (some P) n c, .slice (some Q) n d]
/-- What is told and what isn't told yet are as many as can be. -/
def Bd (m : Me) (o : List Int) : Prop := o.length + m.lft o ≤ 8192
theorem Bd.nil {m : Me} (hn : m.n ≤ 4096) : Bd m [] := by
  have := lft_le m []
  unfold Bd
  simp
  omega
theorem vis_bd (m : Me) : ∀ (f : Nat) (a : Int) (o : List Int), Bd m o → Bd m (m.vis f a o)
  | 0, _, _, h => h
  | f + 1, a, o, h => by
    unfold Me.vis
    split
    · rename_i k
      have hl := lft_snoc k.1 k.2
      exact fold_all (R := Bd m) (T := fun _ => True) (fun o p ho _ => vis_bd m f p o ho) _ _ (by unfold Bd at *; simp; omega) (fun _ _ => trivial)
    · exact h
def visl (m : Me) (f : Nat) (ps : List Int) (o : List Int) : List Int := ps.foldl (fun o p => m.vis f p o) o
theorem visl_snoc (m : Me) (f : Nat) (ps : List Int) (p : Int) (o : List Int) : visl m f (ps ++ [p]) o = m.vis f p (visl m f ps o) := by simp [visl]
theorem visl_bd (m : Me) (f : Nat) (ps o : List Int) (h : Bd m o) : Bd m (visl m f ps o) := fold_all (R := Bd m) (T := fun _ => True) (fun o p ho _ => vis_bd m f p o ho) _ _ h (fun _ _ => trivial)
theorem visl_lft (m : Me) (f : Nat) (ps o : List Int) : m.lft (visl m f ps o) ≤ m.lft o := lft_mono fun x hx => (fold_pre (fun o p => vis_pre m f p o) ps o).subset hx
def RmPost (o' : List Int) (w : World) (e : Ending) (w' : World) : Prop := ∃ u, e = .returned u ∧ Sl .u64 w' u o' ∧ Up w w'
def RmAll (m : Me) (f : Nat) : Prop := ∀ (P Q : Addr) (c d : Nat) (u : Value) (a : Int) (o : List Int) (w : World), Sits w m P Q c d → Sl .u64 w u o → U64 a → Bd m o → m.lft o < f →
  Calls Tryz.prog 61 #[mev m.n P Q c d, .int .u64 a, u] w (RmPost (m.vis f a o) w)
theorem rd_sl {w : World} {A : Option Addr} {n c : Nat} {xs : List Int} (h : Sl .u64 w (.slice A n c) xs) : Rd w A n xs := by
  obtain ⟨hl, hr, -, -, -⟩ := h.rv
  refine ⟨hl, fun hp => ?_⟩
  obtain ⟨p, e, hb, hc⟩ := hr (by intro q; simp only [List.map_eq_nil_iff] at q; subst q; simp at hl; omega)
  exact ⟨p, e, hb, fun j x hj => hc j _ (by simp [hj])⟩
theorem sl_ow {k : IntKind} {w : World} {n₀ n : Nat} {e : TypeId} {u : Value} {xs : List Int} (h : w.ownsRow n₀ e 1 u n (xs.map (Value.int k))) (hl : xs.length = n) : Sl k w u xs := by
  obtain ⟨A, c, rfl⟩ := own_slice h
  obtain ⟨_, q1, q2, q3, q4⟩ := rv_of_own h (by simp [hl])
  exact ⟨A, c, by rw [hl], by omega, q2, q3, q4⟩
theorem sl_lo {w : World} {n₀ : Nat} {v : Value} {xs : List Int} (h : Lo w n₀ v xs) : Sl .u64 w v xs := sl_ow (e := 67) (n₀ := n₀) (n := xs.length) h rfl
set_option maxRecDepth 100000 in
set_option maxHeartbeats 4000000 in
theorem rvisitm_no (m : Me) (P Q : Addr) (c d : Nat) (u : Value) (a : Int) (o : List Int) (w : World) (hm : Sits w m P Q c d) (hwf : m.wf) (hu : Sl .u64 w u o) (ha : U64 a) (hno : m.real a = false ∨ a ∈ o) :
    Calls Tryz.prog 61 #[mev m.n P Q c d, .int .u64 a, u] w (RmPost o w) := by
  have HRE := Lib.hid (fun W (k : Up w W) => rreal_any m a P Q c d W (hm.up k) ha hwf)
  have hmx := hu.max
  have HU := Lib.hid hu
  obtain ⟨Au, cu, rfl⟩ := hu.slice
  have HHA := Lib.hid (fun W (k : Up w W) => rhas_any Au o.length cu o a W (rd_sl (hu.up k)) hmx)
  have hb : ∃ x y, m.real a = x ∧ decide (a ∈ o) = y ∧ (x = false ∨ y = true) := ⟨_, _, rfl, rfl, hno.imp id (fun h => decide_eq_true h)⟩
  obtain ⟨x, y, hx, hy, hxy⟩ := hb
  rw [hx] at HRE
  rw [hy] at HHA
  clear hm hu hno hx hy ha hwf
  generalize m.n = n at *
  generalize o.length = lo at *
  go_enter Tryz.func61, Tryz.ntmps61
  go_wp2_with (fail)
  refine (HRE.out _ ((Up.refl w).alloc _)).mono ?_
  rintro e w1 ⟨rfl, k1⟩
  have K1 := ((Up.refl w).alloc (.cells #[.int .i64 n, .slice (some P) n c, .slice (some Q) n d] 25)).trans k1
  go_wp2_with (fail)
  refine (HHA.out _ K1).mono ?_
  rintro e w2 ⟨rfl, rfl⟩
  rcases hxy with rfl | rfl
  · go_wp2
    go_ret
    exact ⟨_, rfl, HU.out.up K1, K1⟩
  · cases x
    · go_wp2
      go_ret
      exact ⟨_, rfl, HU.out.up K1, K1⟩
    · go_wp2
      go_ret
      exact ⟨_, rfl, HU.out.up K1, K1⟩
def VmR (m : Me) (f : Nat) (o1 ps : List Int) (w w3 : World) (P Q : Addr) (c d : Nat) (u i : Value) (wr : World) : Prop :=
  ∃ x : Nat, x ≤ ps.length ∧ i = .int .i64 x ∧ Sl .u64 wr u (visl m f (ps.take x) o1) ∧ Blk wr w.heap.size 25 #[.int .i64 m.n, .slice (some P) m.n c, .slice (some Q) m.n d] ∧ Up w wr ∧ Up w3 wr
set_option maxRecDepth 100000 in
set_option maxHeartbeats 4000000 in
theorem rvisitm_new (m : Me) (hwf : m.wf) (f : Nat) (ih : RmAll m f) (P Q : Addr) (c d : Nat) (u : Value) (a : Int) (o : List Int) (w : World) (hm : Sits w m P Q c d) (hu : Sl .u64 w u o) (ha : U64 a) (hbd : Bd m o) (hl : m.lft o < f + 1) (hr : m.real a = true) (hno : a ∉ o) :
    Calls Tryz.prog 61 #[mev m.n P Q c d, .int .u64 a, u] w (RmPost (visl m f (m.ptv a) (o ++ [a])) w) := by
  have hmx := hu.max
  have HSI := Lib.hid (fun W (k : Up w W) => hm.up k)
  have HRE := Lib.hid (fun W (k : Up w W) => rreal_any m a P Q c d W (hm.up k) ha hwf)
  rw [hr] at HRE
  obtain ⟨Au, cu, rfl⟩ := hu.slice
  have HHA := Lib.hid (fun W (k : Up w W) => rhas_any Au o.length cu o a W (rd_sl (hu.up k)) hmx)
  rw [decide_eq_false hno] at HHA
  obtain ⟨-, hrv, -, -, -⟩ := hu.rv
  have HRV := Lib.hid (fun W (k : Up w W) => hrv.up k)
  have HPT := Lib.hid (fun W (k : Up w W) => rpointers_any m P Q c d a W (hm.up k) ha hwf (of_decide_eq_true hr))
  have hlt := lft_snoc hr hno
  have hbd1 : Bd m (o ++ [a]) := by unfold Bd at *; simp; omega
  have HBD := Lib.hid hbd1
  have HLF : Hid (m.lft (o ++ [a]) < f) := Lib.hid (by omega)
  have hol : o.length ≤ 8192 := by unfold Bd at hbd; omega
  have HPU := Lib.hid (ptv_u64 hwf a)
  have hpl := ptv_len m a
  have HX := Lib.hid ih
  generalize hps : m.ptv a = ps at *
  generalize hlo : o.length = lo at *
  have HLO := Lib.hid hlo
  clear hm hu ha hbd hl hr hno hlt hbd1 hrv ih hlo hps hwf hmx
  generalize hmn : m.n = n at *
  have bG1 := Blk.new w 25 #[.int .i64 n, .slice (some P) n c, .slice (some Q) n d]
  go_enter Tryz.func61, Tryz.ntmps61
  go_wp2_with (fail)
  refine (HRE.out _ ((Up.refl w).alloc _)).mono ?_
  rintro e w0 ⟨rfl, k0⟩
  have h1 := k0
  have K0 := ((Up.refl w).alloc (.cells #[.int .i64 n, .slice (some P) n c, .slice (some Q) n d] 25)).trans k0
  have bG1 := bG1.up k0
  go_wp2_with (fail)
  refine (HHA.out _ K0).mono ?_
  rintro e w1 ⟨rfl, rfl⟩
  have k1 := K0
  have bG2 := bG1
  have ke : Up w0 (w0.alloc (.cells #[] 67)) := (Up.refl w0).alloc _
  have bE := Blk.new w0 67 #[]
  have oE := own_empty (n₀ := w0.heap.size) (size := 1) bE (Nat.le_refl _)
  obtain ⟨v1, wa, hrun1, ho1, hga, -⟩ := run_any el_u64 (w := w0.alloc (.cells #[] 67)) 22 w0.heap.size 0 _ [] oE Au lo cu (o.map (Value.int .u64)) (by rw [List.length_map, HLO.out]; omega) (HRV.out _ (k1.trans ke)) (one_ints _ _) (by omega) ke.size
  rw [Nat.zero_add, List.nil_append] at ho1
  have ka := up_own ke oE hga
  obtain ⟨A1, c1, rfl⟩ := own_slice ho1
  have kb := ka.alloc (.cells #[.int .u64 a] 67)
  have ho1' := own_up ho1 ((Up.refl wa).alloc (.cells #[.int .u64 a] 67))
  obtain ⟨v2, wb, hrun2, ho2, hgb, -⟩ := run_any el_u64 (w := wa.alloc (.cells #[.int .u64 a] 67)) 22 w0.heap.size lo _ _ ho1' (some ⟨wa.heap.size, 0, none⟩) 1 1 [.int .u64 a] rfl (rv_of_blk (Blk.new wa _ _) (fun i u hi => by simpa using hi)) (fun u hu => by rw [List.mem_singleton] at hu; subst hu; rfl) (by omega) kb.size
  have kwb := k1.trans (up_own kb ho1' hgb)
  have bGb := bG2.up (up_own kb ho1' hgb)
  obtain ⟨A2, c2, rfl⟩ := own_slice ho2
  have HS2 : Hid (Sl .u64 wb (.slice A2 (lo + 1) c2) (o ++ [a])) := Lib.hid (sl_ow (e := 67) (by rw [List.map_append]; exact ho2) (by rw [List.length_append, HLO.out]; rfl))
  have qGb := bGb.cell
  have lGb := bGb.lt
  have BGB := Lib.hid bGb
  have KWB := Lib.hid kwb
  have qG1 := bG2.cell
  have lG1 := bG2.lt
  have HPT2 := Lib.hid (HPT.out wb kwb)
  clear ho1 ho1' ho2 hga hgb oE bE ke ka kb kwb bG1 bG2 bGb k1 h1 k0
  go_wp2_with (first
    | (with_reducible refine halt_at (o := ⟨some 25, _, _, _, _, _⟩) ?_)
    | (at_builtin; refine Lib.wpList_append_run _ rfl _ _ _ _ rfl _ _ rfl rfl _ _ hrun1 ?_))
  unfold Halt
  refine Lib.wpList_append_run _ rfl _ _ _ _ rfl _ _ rfl rfl _ _ hrun1 ?_
  go_wp2_with (with_reducible refine halt_at (o := ⟨some 28, _, _, _, _, _⟩) ?_)
  unfold Halt
  refine Lib.wpList_append_run _ rfl _ _ _ _ rfl _ _ rfl rfl _ _ hrun2 ?_
  go_wp2_with (fail)
  refine HPT2.out.mono ?_
  rintro e w3 ⟨v8, rfl, hlo8, k3⟩
  obtain ⟨Al, cl, rfl, hl1, hl2, hrd⟩ := hlo8.sl
  have bG3 := Lib.hid (BGB.out.up k3)
  have HS3 := Lib.hid (HS2.out.up k3)
  have U3 := Lib.hid (KWB.out.trans k3)
  have HLA := Lib.hid (fun W (k : Up w3 W) => hrd.up k)
  clear hrd hlo8 k3 qGb lGb qG1 lG1 hrun1 hrun2 HPT HPT2
  obtain ⟨pn, hpn⟩ : ∃ pn, ps.length = pn := ⟨_, rfl⟩
  rw [hpn] at HLA hpl hl1 ⊢
  have HPN := Lib.hid hpn
  clear hpn hl1 hl2
  subst hmn
  go_wp2_with (fail)
  go_loopw [2, 10] (fun u i wr => VmR m f (o ++ [a]) ps w w3 P Q c d u i wr) (fun _ i _ => pn - (intOf i).toNat)
  case atStart => exact ⟨0, Nat.zero_le _, rfl, HS3.out, bG3.out, U3.out, Up.refl _⟩
  case round =>
    rename World => wr
    obtain ⟨x, hx, rfl, hs, bG, U, UL⟩ := hrel
    rw [HPN.out] at hx
    by_cases hlt : x < pn
    · obtain ⟨pp, e1, hcl⟩ := (HLA.out wr UL).at_ hlt
      subst e1
      have hlx : x < ps.length := by rw [HPN.out]; exact hlt
      have HST := Lib.hid (take_snoc' hlx)
      have hau := getD_u64 HPU.out x
      generalize ps.getD x 0 = b at hcl HST hau
      have hll := lt_of_cell hcl
      rw [block_of_add] at hll
      have qG := bG.cell
      have lG := bG.lt
      have HBG := Lib.hid bG
      have HU := Lib.hid U
      have HUL := Lib.hid UL
      have hb2 := visl_bd m f (ps.take x) _ HBD.out
      have hb3 := visl_lft m f (ps.take x) (o ++ [a])
      have hb4 := HLF.out
      have HCL := Lib.hid (HX.out P Q c d _ b _ wr.drew (HSI.out _ U.drew) (hs.up ((Up.refl wr).drew)) hau hb2 (by omega))
      clear hs bG U UL hb2 hb3 hb4
      go_wp2_with (fail)
      go_region_with (go_at_call 61; (with_reducible refine HCL.out.mono ?_); rintro e w5 ⟨u5, rfl, hs5, k5⟩)
      all_goals
        have HS5 : Hid (Sl .u64 w5 u5 (visl m f (ps.take (x + 1)) (o ++ [a]))) := Lib.hid (by rw [HST.out, visl_snoc]; exact hs5)
        have K5 := Lib.hid ((Up.refl wr).drew.trans k5)
        clear hs5 k5
        go_wp2
        exact ⟨⟨x + 1, by rw [HPN.out]; omega, by go_num, HS5.out, HBG.out.up K5.out, HU.out.trans K5.out, HUL.out.trans K5.out⟩, by simp [intOf]; omega⟩
    · obtain rfl : x = pn := by omega
      have HS5 := Lib.hid hs
      have HU := Lib.hid U
      have HPA : Hid (ps.take x = ps) := Lib.hid (List.take_of_length_le (by rw [HPN.out]; exact Nat.le_refl _))
      clear hs bG U UL
      go_wp2
      go_ret
      exact ⟨_, rfl, by have h5 := HS5.out; rw [HPA.out] at h5; exact h5, HU.out⟩
theorem rvisitm_any (m : Me) (hwf : m.wf) : ∀ f, RmAll m f
  | 0 => fun P Q c d u a o w _ _ _ _ h => absurd h (Nat.not_lt_zero _)
  | f + 1 => fun P Q c d u a o w hm hu ha hb hl => by
    by_cases h : m.real a = true ∧ a ∉ o
    · rw [Go.Proofs.YtanhhkdoejnpiaaGreat.vis_yes h.1 h.2]
      exact rvisitm_new m hwf f (rvisitm_any m hwf f) P Q c d u a o w hm hu ha hb hl h.1 h.2
    · have h2 : m.real a = false ∨ a ∈ o := by
        by_cases k : m.real a = true
        · exact .inr (Classical.byContradiction fun z => h ⟨k, z⟩)
        · exact .inl (by simpa using k)
      rw [Go.Proofs.YtanhhkdoejnpiaaGreat.vis_no h2]
      exact rvisitm_no m P Q c d u a o w hm hwf hu ha h2
def RrR_ (m : Me) (xs : List Int) (w : World) (P Q : Addr) (c d : Nat) (u i : Value) (wr : World) : Prop :=
  ∃ x : Nat, x ≤ xs.length ∧ i = .int .i64 x ∧ Sl .u64 wr u (m.rch (xs.take x)) ∧ Blk wr w.heap.size 25 #[.int .i64 m.n, .slice (some P) m.n c, .slice (some Q) m.n d] ∧ Up w wr
theorem rch_visl (m : Me) (xs : List Int) : m.rch xs = visl m (2 * m.n + 1) xs [] := rfl
set_option maxRecDepth 100000 in
set_option maxHeartbeats 4000000 in
theorem rreach_any (m : Me) (P Q : Addr) (c d : Nat) (v : Value) (xs : List Int) (w : World) (hm : Sits w m P Q c d) (hwf : m.wf) (hx : Sl .u64 w v xs) (hu : ∀ x ∈ xs, U64 x) :
    Calls Tryz.prog 25 #[mev m.n P Q c d, v] w (RmPost (m.rch xs) w) := by
  have hmx := hx.max
  unfold maxLen at hmx
  have hn : m.n ≤ 4096 := hm.1.2.1
  have HSI := Lib.hid (fun W (k : Up w W) => hm.up k)
  obtain ⟨A, cu, rfl⟩ := hx.slice
  have HRD := Lib.hid (fun W (k : Up w W) => rd_sl (hx.up k))
  have HX := Lib.hid (rvisitm_any m hwf (2 * m.n + 1))
  have HBN := Lib.hid (Bd.nil hn)
  have HLL := Lib.hid (lft_le m [])
  have HUX := Lib.hid hu
  clear hm hx hu hwf
  obtain ⟨pn, hpn⟩ : ∃ pn, xs.length = pn := ⟨_, rfl⟩
  rw [hpn] at HRD hmx ⊢
  have HPN := Lib.hid hpn
  clear hpn
  go_enter Tryz.func25, Tryz.ntmps25
  go_wp2_with (fail)
  go_loopw [5, 6] (fun u i wr => RrR_ m xs w P Q c d u i wr) (fun _ i _ => pn - (intOf i).toNat)
  case atStart => exact ⟨0, Nat.zero_le _, rfl, Sl.nil _ _, Blk.new' _ rfl _ _, (Up.refl w).alloc _⟩
  case round =>
    rename World => wr
    obtain ⟨x, hx, rfl, hs, bG, U⟩ := hrel
    rw [HPN.out] at hx
    by_cases hlt : x < pn
    · obtain ⟨pp, e1, hcl⟩ := (HRD.out wr U).at_ hlt
      subst e1
      have hlx : x < xs.length := by rw [HPN.out]; exact hlt
      have HST := Lib.hid (take_snoc' hlx)
      have hau := getD_u64 HUX.out x
      generalize xs.getD x 0 = b at hcl HST hau
      have hll := lt_of_cell hcl
      rw [block_of_add] at hll
      have qG := bG.cell
      have lG := bG.lt
      have HBG := Lib.hid bG
      have HU := Lib.hid U
      have hb2 := visl_bd m (2 * m.n + 1) (xs.take x) _ HBN.out
      have hb3 := visl_lft m (2 * m.n + 1) (xs.take x) []
      have hb4 := HLL.out
      rw [rch_visl] at hs
      have HCL := Lib.hid (HX.out P Q c d _ b _ wr.drew (HSI.out _ U.drew) (hs.up ((Up.refl wr).drew)) hau hb2 (by omega))
      clear hs bG U hb2 hb3 hb4
      go_wp2_with (fail)
      go_region_with (go_at_call 61; (with_reducible refine HCL.out.mono ?_); rintro e w5 ⟨u5, rfl, hs5, k5⟩)
      all_goals
        have HS5 : Hid (Sl .u64 w5 u5 (m.rch (xs.take (x + 1)))) := Lib.hid (by rw [HST.out, rch_visl, visl_snoc]; exact hs5)
        have K5 := Lib.hid ((Up.refl wr).drew.trans k5)
        clear hs5 k5
        go_wp2
        exact ⟨⟨x + 1, by rw [HPN.out]; omega, by go_num, HS5.out, HBG.out.up K5.out, HU.out.trans K5.out⟩, by simp [intOf]; omega⟩
    · obtain rfl : x = pn := by omega
      have HS5 := Lib.hid hs
      have HU := Lib.hid U
      have HPA : Hid (xs.take x = xs) := Lib.hid (List.take_of_length_le (by rw [HPN.out]; exact Nat.le_refl _))
      clear hs bG U
      go_wp2
      go_ret
      exact ⟨_, rfl, by have h5 := HS5.out; rw [HPA.out] at h5; exact h5, HU.out⟩
end Go.Proofs.YtanhhkdoejnpiaaGreat.G
