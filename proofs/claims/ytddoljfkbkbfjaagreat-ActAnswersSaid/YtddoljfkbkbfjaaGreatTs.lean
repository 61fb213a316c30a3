/- A thread is answered (act's step: answer): contract. -/
import Derived.Test.YtddoljfkbkbfjaaGreatTq
import Derived.Deep.CutRange
import Derived.BigRegion
import Derived.Deep.AppendLies
namespace Go.Proofs.YtddoljfkbkbfjaaGreat.T
open G
open Go.Joins Go.ChangeShapes Go.WideShapes Go.ChangeAt Go.RowKit Go.Deep Go.Shelf Go.Maps
set_option linter.unusedVariables false
set_option linter.unusedSimpArgs false

/-- A thread is answered. -/
def ansH (h : Hp) (j : Nat) (t : Th) (a : An) : Hp := { h with th := h.th.set j { t with dn := t.dn ++ [a], lf := t.lf.drop 1 }, od := h.od ++ [(j : Int)] }
/-- A row that lies behind. -/
def Hi (base : Nat) (v : Value) : Prop := ∀ p n c, v = .slice (some p) n c → n ≠ 0 → base ≤ p.block
/-- A step at its end. -/
def Fin (base D : Nat) (h : Hp) (w : World) : Prop := ∃ P Q c d vt vo us j q o s, Blk w D 78 (stc h P Q c d vt vo j q o s) ∧ Sits w h.m P Q c d ∧ Rc tvc w vt us ∧ ThsR w us h.th ∧ Rc inc w vo h.od ∧ Hi base vo
theorem hi_of_own {w : World} {base : Nat} {e : TypeId} {size n : Nat} {v : Value} {xs : List Value} (h : w.ownsRow base e size v n xs) : Hi base v := fun p m c e1 hm => by
  obtain ⟨-, ⟨e2, -⟩ | ⟨g, cap, cur, e2, h2, -⟩⟩ := h
  · rw [e2] at e1; cases e1
  · rw [e2] at e1; cases e1; exact h2
theorem step_run {w : World} {T : TypeId} {ops : Array Oper} {o : Oper} {a : Act} {K : Act → World → Prop} {Q : Exit → Act → World → Prop} {F : Prop} (hgd : o.guard = none) (s x : Operand) (ho : o.op = .call { callee := .builtin .append, args := #[s, x], argTypes := #[T, T] })
    (u v : Value) (hs : a.eval s = u) (hx : a.eval x = v) (v' : Value) (w' : World) (hr : (Builtin.append_ #[T, T] o.type #[u, v]).run Tryz.prog w = .ok v' w') (h : K (a.put o.dst v') w') : if Region.wanted o (yielded ops a.tmps) = true then Oper.wp Tryz.prog o a w K Q else F := by
  have hw : Region.wanted o (yielded ops a.tmps) = true := by simp [Region.wanted, hgd]
  rw [if_pos hw]
  exact Lib.wp_append_run w s x T T ho _ _ hs hx _ w' hr h
theorem post_void {P : Program} {fn : Func} {R : Ending → World → Prop} {a : Act} {w : World} (hr : fn.results = #[]) (hd : a.defers = []) (h : R (.returned (.tuple #[])) w) : bodyPost P fn R .normal a w :=
  ⟨hd, .tuple #[], by simp [results, hr], h⟩
theorem rc_of_own {α : Type} {cv : α → List Value} {w : World} {base : Nat} {e : TypeId} {size n : Nat} {A : Option Addr} {c : Nat} {xs : List α} (h : w.ownsRow base e size (.slice A n c) n (xs.flatMap cv)) (hk : ∀ x, (cv x).length = size) (hl : xs.length = n) : Rc cv w (.slice A n c) xs := by
  obtain ⟨_, h1, h2, h3, h4⟩ := rv_of_own h (by rw [fm_len hk, hl])
  exact ⟨A, c, by rw [hl], by rw [hl]; exact h1, h2, h3, h4⟩
/-- The first one is gone. -/
theorem rc_drop {w : World} {A : Option Addr} {n c : Nat} {xs : List Op} (h : Rc opc w (.slice A n c) xs) : Rc opc w (.slice (if c = (min 1 (n : Int)).toNat then A else Option.map (fun x => x.add ((min 1 (n : Int)).toNat * 8)) A) (n - (min 1 (n : Int)).toNat) (c - (min 1 (n : Int)).toNat)) (xs.drop 1) := by
  obtain ⟨e, h1, h2, h3, h4⟩ := h.rv
  by_cases hn : n = 0
  · subst hn
    have hx : xs = [] := List.eq_nil_of_length_eq_zero e
    subst hx
    have hm : (min 1 ((0 : Nat) : Int)).toNat = 0 := by omega
    rw [hm]
    refine ⟨_, _, rfl, Nat.zero_le _, by omega, fun q => ?_, RV.nil _ _⟩
    by_cases hc : c = 0
    · omega
    · rw [if_neg hc] at q
      cases A with
      | none => have := h3 rfl; omega
      | some p => cases q
  · have hm : (min 1 (n : Int)).toNat = 1 := by omega
    rw [hm]
    have hl : (xs.drop 1).length = n - 1 := by rw [List.length_drop, e]
    refine ⟨_, _, by rw [hl], by rw [hl]; omega, by omega, fun q => ?_, fun hne => ?_⟩
    · by_cases hc : c = 1
      · omega
      · rw [if_neg hc] at q
        cases A with
        | none => have := h3 rfl; omega
        | some p => cases q
    · have hfl := fm_len (cv := opc) (k := 8) (fun _ => rfl) xs
      obtain ⟨p, rfl, hp, hcell⟩ := h4 (fun q => by rw [q] at hfl; simp at hfl; omega)
      have hn1 : n ≠ 1 := fun q => hne (by rw [List.eq_nil_of_length_eq_zero (show (xs.drop 1).length = 0 by omega)]; rfl)
      rw [if_neg (by omega)]
      refine ⟨p.add 8, rfl, by rw [block_of_add]; exact hp, fun i v hv => ?_⟩
      rw [add_add]
      refine hcell _ v ?_
      rcases xs with _ | ⟨x, r⟩
      · simp at hv
      · rw [List.flatMap_cons, List.getElem?_append_right (by show 8 ≤ _; omega)]
        simpa [opc] using hv
theorem ap_drop {X : List Nat} {A : Option Addr} {n c : Nat} (h : Ap X (.slice A n c)) (hnn : A = none → n = 0) : Ap X (.slice (if c = (min 1 (n : Int)).toNat then A else Option.map (fun x => x.add ((min 1 (n : Int)).toNat * 8)) A) (n - (min 1 (n : Int)).toNat) (c - (min 1 (n : Int)).toNat)) := fun p k d e hk q => by
  have hn : n ≠ 0 := fun z => by
    injection e with _ e2 _
    exact hk (by omega)
  cases A with
  | none => exact hn (hnn rfl)
  | some p0 =>
    have hb : p.block = p0.block := by
      injection e with e1
      split at e1
      · cases e1; rfl
      · simp at e1; rw [← e1, block_of_add]
    rw [hb] at q
    exact h p0 n c rfl hn q
section
variable {base D T : Nat} {S3 : List Nat} {h : Hp} {j : Nat} {o : Op} {s : Ks} {w : World} {t : Th}
set_option maxRecDepth 100000 in
set_option maxHeartbeats 4000000 in
theorem answer_st (hS : St base D T S3 h j o s w) (ht : h.th[j]? = some t) (a : An) (hdn : (t.dn.length + 1) * 24 ≤ 140737488355328) (hod : (h.od.length + 1) * 8 ≤ 140737488355328) (hbase : base ≤ w.heap.size) :
    Calls Tryz.prog 52 #[.pointer (some ⟨D, 0, none⟩), .agg #[.int .i64 a.1, .int .u64 a.2.1, .bool a.2.2]] w fun en w' => (∃ v, en = .returned v) ∧ Kp (D :: T :: S3) w w' ∧ Fin base D (ansH h j t a) w' := by
  obtain ⟨us, P, Q, c, d, A, co, cT, hD, hT, hc1, hc2, hbD, hbT, hR⟩ := id hS
  obtain ⟨u, hu, hO⟩ := hR.at_ ht
  obtain ⟨ust, uba, ube, ulg, ulf, upd, uwt, udn⟩ := u
  obtain ⟨A5, c5, e5⟩ := hO.lf.slice
  obtain ⟨A7, c7, e7⟩ := hO.dn.slice
  simp only at e5 e7
  subst e5
  subst e7
  generalize hW : w.alloc (.cells #[.int .i64 a.1, .int .u64 a.2.1, .bool a.2.2] 56) = W
  have UW : Up w W := by rw [← hW]; exact (Up.refl w).alloc _
  have bA : Blk W w.heap.size 56 #[.int .i64 a.1, .int .u64 a.2.1, .bool a.2.2] := by rw [← hW]; exact Blk.new _ _ _
  have HW := Lib.hid hW
  clear hW
  have hDW := hD.up UW
  have hTW := hT.up UW
  have hRW := hR.up UW
  obtain ⟨u2, hu2, hO2⟩ := hRW.at_ ht
  rw [hu] at hu2
  cases hu2
  -- the append
  have hbn : Blk (W.alloc (.cells #[.int .i64 a.1, .int .u64 a.2.1, .bool a.2.2] 56)).drew W.heap.size 56 #[.int .i64 a.1, .int .u64 a.2.1, .bool a.2.2] := (Blk.new _ _ _).drew
  have UA : Up W (W.alloc (.cells #[.int .i64 a.1, .int .u64 a.2.1, .bool a.2.2] 56)).drew := ((Up.refl W).alloc _).drew
  obtain ⟨A', cap', w5, hrun, hown, hK5, hT5⟩ := cs_push ez_a len_a (hO2.dn.keep (w' := (W.alloc (.cells #[.int .i64 a.1, .int .u64 a.2.1, .bool a.2.2] 56)).drew) (fun g cs hb _ => hb.up UA)) (by have := UW.size; have := UA.size; omega) ⟨W.heap.size, 0, none⟩ 1 a hbn.lt (fun i v hv => by rw [add_zero', hbn.cell]; simpa [anc] using hv) (fun v hv => by simp [anc] at hv; rcases hv with rfl | rfl | rfl <;> rfl) hdn (by unfold maxLen; omega) 42
  have HRUN := Lib.hid hrun
  have HOWN := Lib.hid hown
  have tcW := fun X (k : Up W X) => tcs (hTW.up k) hu
  simp only at tcW
  have HTC := Lib.hid tcW
  have hj : j < us.length := hR.lt
  have hTn : T ∉ S3 := hR.nT
  have hDn : D ∉ S3 := hR.nD
  have KA5 : Kp S3 W w5 := (Kp.of_up UA).trans hK5
  have hT5b := hTW.kp KA5 hTn
  have hD5b := hDW.kp KA5 hDn
  have tc5 := tcs hT5b hu
  simp only at tc5
  have HT5 := Lib.hid (fun g t cs (q : t ≠ 56) (hb : Blk W g t cs) => hT5 g t cs q (hb.up UA))
  have HK5 := Lib.hid KA5
  have HDT : Hid (D ≠ T) := Lib.hid (hD.ne_type hT (by decide))
  have Hu := Lib.hid hu
  have HO := Lib.hid hO
  have HR := Lib.hid hR
  have HT := Lib.hid ht
  have HTW := Lib.hid hTW
  have HDW := Lib.hid hDW
  have HUW := Lib.hid UW
  have HJ := Lib.hid hj
  have HT5B := Lib.hid hT5b
  have HD5B := Lib.hid hD5b
  have HC1 := Lib.hid hc1
  have HC2 := Lib.hid hc2
  have HBD := Lib.hid (And.intro hbD (And.intro hbT hbase))
  have HOD := Lib.hid hod
  have hn5 : t.dn.length + 1 ≤ 9223372036854775807 := by omega
  clear hS hT hD hR hO hO2 hTW hDW hRW ht hu hc1 hc2 hbD hbT hdn hod hbase UW hTn hDn hK5 hT5 hown KA5 hj
  generalize hn7 : t.dn.length = n7 at *
  generalize hn3 : t.lf.length = n3 at *
  have HN7 := Lib.hid hn7
  have HN3 := Lib.hid hn3
  clear hn7 hn3
  go_enter Tryz.func52, Tryz.ntmps52
  go_upto_region 1 with fail
  rw [HW.out]
  clear hrun
  have hDc := HDW.out.cell
  unfold stc at hDc
  have hDl := HDW.out.lt
  have bAc := bA.cell
  have bAl := bA.lt
  obtain ⟨t0, t1, t2, t3, t4, t5, t6, t7⟩ := HTC.out W (Up.refl W)
  have tl := HTW.out.lt
  have tf := HTW.out.frozen
  obtain ⟨q0, q1, q2, q3, q4, q5, q6, q7⟩ := tc5
  have ql := hT5b.lt
  have qf := hT5b.frozen
  have qDc := hD5b.cell
  unfold stc at qDc
  have qDl := hD5b.lt
  have oDc := fun ob => (HDW.out.alloc ob).drew.cell
  unfold stc at oDc
  have oDl := fun ob => (HDW.out.alloc ob).drew.lt
  have oT := fun ob => (HTC.out _ (((Up.refl W).alloc ob).drew))
  have oTl := fun ob => (HTW.out.alloc ob).drew.lt
  clear hT5b hD5b
  go_cut [17] from 4 to 19 (fun v17 w6 => v17 = .slice A' (n7 + 1) cap' ∧ w6 = w5.setCell ⟨T, j * 8 + 7, none⟩ (.slice A' (n7 + 1) cap'))
  case first =>
    go_region_law (refine step_run (by rfl) _ _ (by rfl) _ _ (by rfl) (by rfl) _ _ HRUN.out ?_)
    all_goals
      go_wp2_with (fail)
      go_meet
      exact ⟨rfl, rfl⟩
  case rest =>
    obtain ⟨rfl, hw6⟩ := hcut
    rename World => w6
    have hT6 : Blk w6 T 44 ((us.set j ⟨ust, uba, ube, ulg, .slice A5 n3 c5, upd, uwt, .slice A' (n7 + 1) cap'⟩ ++ List.replicate (cT - us.length) tz).flatMap tvc).toArray := by
      rw [hw6]
      exact tset HT5B.out Hu.out 7 (by decide) rfl
    have hK6 : Kp (D :: T :: S3) W w6 := by
      rw [hw6]
      exact (HK5.out.mono (fun x hx => by simp [hx])).set_ (by simp) _
    have hD6 := HD5B.out.far (p := ⟨T, j * 8 + 7, none⟩) HDT.out (.slice A' (n7 + 1) cap')
    rw [← hw6] at hD6
    have hown6 : w6.ownsRow base 56 3 (.slice A' (n7 + 1) cap') (n7 + 1) ((t.dn ++ [a]).flatMap anc) := by
      rw [hw6]
      exact own_far HOWN.out HT5B.out (by decide) _ _
    have hty6 : ∀ g ty cs, ty ≠ 56 → ty ≠ 44 → Blk W g ty cs → Blk w6 g ty cs := fun g ty cs q1 q2 hb => by
      rw [hw6]
      have hb5 := HT5.out g ty cs q1 hb
      exact hb5.far (p := ⟨T, j * 8 + 7, none⟩) (hb5.ne_type HT5B.out q2) _
    have hu6 : (us.set j ⟨ust, uba, ube, ulg, .slice A5 n3 c5, upd, uwt, .slice A' (n7 + 1) cap'⟩)[j]? = some ⟨ust, uba, ube, ulg, .slice A5 n3 c5, upd, uwt, .slice A' (n7 + 1) cap'⟩ := List.getElem?_set_self HJ.out
    have tc6 := tcs hT6 hu6
    simp only at tc6
    have HT6 := Lib.hid hT6
    have HK6 := Lib.hid hK6
    have HD6 := Lib.hid hD6
    have HOWN6 := Lib.hid hown6
    have HTY6 := Lib.hid hty6
    have Hu6 := Lib.hid hu6
    have d6c := hD6.cell
    unfold stc at d6c
    have d6l := hD6.lt
    have t6l := hT6.lt
    have t6f := hT6.frozen
    obtain ⟨r0, r1, r2, r3, r4, r5, r6, r7⟩ := tc6
    have hn3' : n3 ≤ 9223372036854775807 := by have := HO.out.lf.max; rw [HN3.out] at this; unfold maxLen at this; omega
    clear hT6 hK6 hD6 hown6 hty6 hu6 hw6 hDc hDl bAc bAl t0 t1 t2 t3 t4 t5 t6 t7 tl tf q0 q1 q2 q3 q4 q5 q6 q7 ql qf qDc qDl oDc oDl oT oTl
    go_upto_region 2 with fail
    go_region
    all_goals
      generalize hv5 : (Value.slice (if c5 = (min 1 (n3 : Int)).toNat then A5 else Option.map (fun x => x.add ((min 1 (n3 : Int)).toNat * 8)) A5) (n3 - (min 1 (n3 : Int)).toNat) (c5 - (min 1 (n3 : Int)).toNat)) = v5
      have HV5 := Lib.hid hv5
      clear hv5
      generalize hw7 : (w6.setCell ⟨T, j * 8 + 4, none⟩ v5).drew = w7
      have U67 : ∀ g ty cs, ty ≠ 44 → Blk w6 g ty cs → Blk w7 g ty cs := fun g ty cs q2 hb => by
        rw [← hw7]
        exact (hb.far (p := ⟨T, j * 8 + 4, none⟩) (hb.ne_type HT6.out q2) v5).drew
      have K67 : Kp (D :: T :: S3) w6 w7 := by rw [← hw7]; exact ((Kp.refl _ _).set_ (by simp) _).up (Up.refl _).drew
      have hT7 : Blk w7 T 44 ((us.set j ⟨ust, uba, ube, ulg, v5, upd, uwt, .slice A' (n7 + 1) cap'⟩ ++ List.replicate (cT - us.length) tz).flatMap tvc).toArray := by
        rw [← hw7]
        have q := tset (u' := ⟨ust, uba, ube, ulg, v5, upd, uwt, .slice A' (n7 + 1) cap'⟩) (v := v5) HT6.out Hu6.out 4 (by decide) rfl
        rw [List.set_set] at q
        exact q.drew
      have hD7 := U67 _ _ _ (by decide) HD6.out
      have hown7 : w7.ownsRow base 56 3 (.slice A' (n7 + 1) cap') (n7 + 1) ((t.dn ++ [a]).flatMap anc) := own_keep HOWN6.out (fun g cs hb => U67 g _ cs (by decide) hb)
      have hord7 : Cs base S3 3 inc 0 w7 (.slice A h.od.length co) h.od := HR.out.ord.keep fun g cs hb _ => U67 g _ cs (by decide) (HTY6.out g _ cs (by decide) (by decide) (hb.up HUW.out))
      have UB : Up w7 (w7.alloc (.cells #[.int .i64 (j : Int)] 3)).drew := ((Up.refl w7).alloc _).drew
      have hbn7 : Blk (w7.alloc (.cells #[.int .i64 (j : Int)] 3)).drew w7.heap.size 3 #[.int .i64 (j : Int)] := (Blk.new _ _ _).drew
      obtain ⟨A8, cap8, w8, hrun8, hown8, hK8, hT8⟩ := cs_push ez_n len_n (hord7.keep (w' := (w7.alloc (.cells #[.int .i64 (j : Int)] 3)).drew) (fun g cs hb _ => hb.up UB)) (by have := HUW.out.size; have := HK6.out.size; have := K67.size; have := UB.size; have := HBD.out.2.2; omega) ⟨w7.heap.size, 0, none⟩ 1 (j : Int) hbn7.lt (fun i v hv => by rw [add_zero', hbn7.cell]; simpa [inc] using hv) (fun v hv => by simp [inc] at hv; subst hv; rfl) HOD.out (by have := HOD.out; unfold maxLen; omega) 29
      have HRUN8 := Lib.hid hrun8
      have HOWN8 := Lib.hid hown8
      have KA8 : Kp S3 w7 w8 := (Kp.of_up UB).trans hK8
      have T78 : ∀ g ty cs, ty ≠ 3 → Blk w7 g ty cs → Blk w8 g ty cs := fun g ty cs q hb => hT8 g ty cs q (hb.up UB)
      have HK78 := Lib.hid ((K67.trans (KA8.mono (fun x hx => by simp [hx]))))
      have HT8 := Lib.hid (T78 _ _ _ (by decide) hT7)
      have HD8 := Lib.hid (T78 _ _ _ (by decide) hD7)
      have HDN8 := Lib.hid (own_keep hown7 (fun g cs hb => T78 g _ cs (by decide) hb))
      have HLG8 := Lib.hid (HO.out.lg.keep (w' := w8) fun g cs hb _ => T78 g _ cs (by decide) (U67 g _ cs (by decide) (HTY6.out g _ cs (by decide) (by decide) (hb.up HUW.out))))
      have HD7 := Lib.hid hD7
      have d7c := hD7.cell
      unfold stc at d7c
      have d7l := hD7.lt
      have o7c := fun ob => (HD7.out.alloc ob).drew.cell
      unfold stc at o7c
      have o7l := fun ob => (HD7.out.alloc ob).drew.lt
      have d8c := HD8.out.cell
      unfold stc at d8c
      have d8l := HD8.out.lt
      have d8f := HD8.out.frozen
      have hod9 : h.od.length + 1 ≤ 9223372036854775807 := by have := HOD.out; omega
      clear hrun8 hown8 hK8 hT8 hord7 hT7 hD7 hown7 U67 K67 KA8 T78 hw7 hbn7 UB r0 r1 r2 r3 r4 r5 r6 r7 d6c d6l t6l t6f
      generalize hno : h.od.length = no at *
      have HNO := Lib.hid hno
      clear hno
      go_upto_region 3 with fail
      go_region_law (refine step_run (by rfl) _ _ (by rfl) _ _ (by rfl) (by rfl) _ _ HRUN8.out ?_)
      all_goals
        go_wp2
        refine post_void (by kernel_rfl) rfl ?_
        have hK : Kp (D :: T :: S3) w (w8.setCell ⟨D, 15, none⟩ (.slice A8 (no + 1) cap8)) := ((Kp.of_up HUW.out).trans (HK6.out.trans HK78.out)).set_ (by simp) _
        have hO := HO.out
        have hR := HR.out
        refine ⟨⟨_, rfl⟩, hK, P, Q, c, d, .slice (some ⟨T, 0, none⟩) us.length cT, .slice A8 (no + 1) cap8, us.set j ⟨ust, uba, ube, ulg, v5, upd, uwt, .slice A' (n7 + 1) cap'⟩, j, ⟨T, j * 8, none⟩, o, s, ?_, ?_, ?_, ⟨?_, fun i u' t' hu' ht' => ?_⟩, ?_, ?_⟩
        · have q := HD8.out.set_ 15 (.slice A8 (no + 1) cap8)
          exact q
        · exact Sits.kpA hR.sits hK hR.pa hR.qa
        · refine ⟨some ⟨T, 0, none⟩, cT, by rw [List.length_set], by rw [List.length_set]; exact HC1.out, HC2.out, fun q => (by cases q), rv_of_blk (HT8.out.far (p := ⟨D, 15, none⟩) (fun e => HDT.out e.symm) _) fun i v hv => ?_⟩
          rw [List.getElem?_toArray, List.flatMap_append, List.getElem?_append_left ?_]
          · exact hv
          · rcases Nat.lt_or_ge i ((us.set j ⟨ust, uba, ube, ulg, v5, upd, uwt, .slice A' (n7 + 1) cap'⟩).flatMap tvc).length with q | q
            · exact q
            · rw [List.getElem?_eq_none q] at hv; cases hv
        · show (us.set j _).length = (h.th.set j _).length
          rw [List.length_set, List.length_set]
          exact hR.len
        · have ht2 : (h.th.set j { t with dn := t.dn ++ [a], lf := t.lf.drop 1 })[i]? = some t' := ht'
          by_cases e : i = j
          · subst e
            rw [List.getElem?_set_self HJ.out] at hu'
            rw [List.getElem?_set_self (by rw [← hR.len]; exact HJ.out)] at ht2
            cases hu'
            cases ht2
            have lf0 := rc_drop hO.lf
            have la0 := ap_drop hO.lfa (fun q => by have := hO.lf.rv; have := this.2.2.2.1 q; omega)
            rw [HV5.out] at lf0 la0
            refine ⟨hO.st.kp hO.sta hK, hO.ba, hO.be, ?_, lf0.kp la0 hK, hO.pd.kp hO.pda hK, hO.wt, ?_⟩
            · exact (HLG8.out.keep fun g cs hb _ => hb.far (p := ⟨D, 15, none⟩) (hb.ne_type HD8.out (by decide)) _).rc
            · exact rc_of_own (own_far HDN8.out HD8.out (by decide) _ _) len_a (by rw [List.length_append, HN7.out]; rfl)
          · rw [List.getElem?_set_ne (fun q => e q.symm)] at hu' ht2
            exact ((hR.oth i u' t' e hu' ht2).kp hK (fun g hg => hg)).r
        · have q := HOWN8.out
          exact rc_of_own (own_far q HD8.out (by decide) _ _) len_n (by show (h.od ++ [(j : Int)]).length = no + 1; rw [List.length_append, HNO.out]; rfl)
        · exact hi_of_own HOWN8.out
end
end Go.Proofs.YtddoljfkbkbfjaaGreat.T
