/- An object is made in a step (act's step: alloc): contract. -/
import Derived.Test.YtddoljfkbkbfjaaGreatTl
import Derived.Test.YtddoljfkbkbfjaaGreatTg
import Derived.Deep.CutRange
import Derived.Deep.RegionHeld3
import Derived.BigRegion
namespace Go.Proofs.YtddoljfkbkbfjaaGreat.T
open G
open Go.Joins Go.ChangeShapes Go.WideShapes Go.ChangeAt Go.RowKit Go.Deep Go.Shelf Go.Maps
set_option linter.unusedVariables false
set_option linter.unusedSimpArgs false

section
variable {base D T : Nat} {S3 : List Nat} {h : Hp} {j : Nat} {o : Op} {s : Ks} {w : World} {t : Th}
/-- Where the space goes on is another place. -/
theorem St.from_ {wz : World} (hS : St base D T S3 h j o s w) (k : Up w wz) (a : Int) :
    Kp [D, T] w (((wz.setCell ⟨D, 3, none⟩ (.int .i64 h.fs)).setCell ⟨D, 4, none⟩ (.int .i64 a)).setCell ⟨D, 5, none⟩ (.int .i64 h.fl)) ∧ St base D T S3 { h with fa := a } j o s (((wz.setCell ⟨D, 3, none⟩ (.int .i64 h.fs)).setCell ⟨D, 4, none⟩ (.int .i64 a)).setCell ⟨D, 5, none⟩ (.int .i64 h.fl)) := by
  obtain ⟨us, P', Q', c', d', A, co, cT, hD, hT, h1, h2, h3, h4, hR⟩ := hS
  have hne : D ≠ T := (hD.ne_type hT (by decide))
  have hK : Kp [D, T] wz (((wz.setCell ⟨D, 3, none⟩ (.int .i64 h.fs)).setCell ⟨D, 4, none⟩ (.int .i64 a)).setCell ⟨D, 5, none⟩ (.int .i64 h.fl)) := (((Kp.refl _ _).set_ (by simp) _).set_ (by simp) _).set_ (by simp) _
  refine ⟨(Kp.of_up k).trans hK, us, P', Q', c', d', A, co, cT, ?_, ?_, h1, h2, h3, h4, ((hR.up k).same (h' := { h with fa := a }) rfl rfl rfl).kp hK⟩
  · exact (((hD.up k).set_ 3 (.int .i64 h.fs)).set_ 4 (.int .i64 a)).set_ 5 (.int .i64 h.fl)
  · exact (((hT.up k).far (p := ⟨D, 3, none⟩) (fun e => hne e.symm) _).far (p := ⟨D, 4, none⟩) (fun e => hne e.symm) _).far (p := ⟨D, 5, none⟩) (fun e => hne e.symm) _
/-- The thread's piece is another one. -/
theorem St.buf {wz : World} (hS : St base D T S3 h j o s w) (k : Up w wz) (ht : h.th[j]? = some t) (x y : Int) :
    Kp [D, T] w ((wz.setCell ⟨T, j * 8 + 1, none⟩ (.int .i64 x)).setCell ⟨T, j * 8 + 2, none⟩ (.int .i64 y)) ∧ St base D T S3 { h with th := h.th.set j { t with ba := x, be := y } } j o s ((wz.setCell ⟨T, j * 8 + 1, none⟩ (.int .i64 x)).setCell ⟨T, j * 8 + 2, none⟩ (.int .i64 y)) := by
  have hj : j < h.th.length := by
    rcases Nat.lt_or_ge j h.th.length with q | q
    · exact q
    · rw [List.getElem?_eq_none q] at ht; cases ht
  obtain ⟨k1, s1⟩ := hS.setT k 1 (by decide) (.int .i64 x) ht (t' := { t with ba := x }) fun u hO => ⟨{ u with ba := x }, rfl, hO.st, hO.sta, rfl, hO.be, hO.lg, hO.lf, hO.lfa, hO.pd, hO.pda, hO.wt, hO.dn⟩
  obtain ⟨k2, s2⟩ := s1.setT (Up.refl _) 2 (by decide) (.int .i64 y) (t := { t with ba := x }) (List.getElem?_set_self hj) (t' := { t with ba := x, be := y }) fun u hO => ⟨{ u with be := y }, rfl, hO.st, hO.sta, hO.ba, rfl, hO.lg, hO.lf, hO.lfa, hO.pd, hO.pda, hO.wt, hO.dn⟩
  refine ⟨k1.trans k2, ?_⟩
  have e : (h.th.set j { t with ba := x }).set j { t with ba := x, be := y } = h.th.set j { t with ba := x, be := y } := List.set_set ..
  simp only [e] at s2
  exact s2
/-- A heap in which an object is made, ahead of its handle. -/
def alH (h : Hp) (j : Nat) (t : Th) (r : Mk) : Hp := { h with m := r.m, fa := r.a, th := h.th.set j { t with ba := r.x, be := r.y } }
theorem St.room {wz : World} (hS : St base D T S3 h j o s w) (k : Up w wz) (ht : h.th[j]? = some t) (r : Mk) {P Q : Addr} {c d : Nat} (hm : Sits wz r.m P Q c d) (hn : r.m.n = h.m.n) :
    let w1 := ((wz.setCell ⟨D, 0, none⟩ (.int .i64 h.m.n)).setCell ⟨D, 1, none⟩ (.slice (some P) h.m.n c)).setCell ⟨D, 2, none⟩ (.slice (some Q) h.m.n d)
    let w2 := ((w1.setCell ⟨D, 3, none⟩ (.int .i64 h.fs)).setCell ⟨D, 4, none⟩ (.int .i64 r.a)).setCell ⟨D, 5, none⟩ (.int .i64 h.fl)
    let w3 := (w2.setCell ⟨T, j * 8 + 1, none⟩ (.int .i64 r.x)).setCell ⟨T, j * 8 + 2, none⟩ (.int .i64 r.y)
    Kp [D, T] w w3 ∧ St base D T S3 (alH h j t r) j o s w3 := by
  obtain ⟨k1, s1⟩ := hS.mem k hm hn
  obtain ⟨k2, s2⟩ := s1.from_ (Up.refl _) r.a
  obtain ⟨k3, s3⟩ := s2.buf (Up.refl _) (t := t) ht r.x r.y
  exact ⟨(k1.trans k2).trans k3, s3⟩
set_option maxRecDepth 100000 in
set_option maxHeartbeats 8000000 in
theorem alloc_st (hS : St base D T S3 h j o s w) (ht : h.th[j]? = some t) (hmp : 0 ≤ o.m) (hh : rte o.t o.l o.m = 0) (h255 : o.t ≠ 255) (hs : rgt h.fs h.fa h.fl) (hl : h.fl = h.m.n) (hb : (t.ba = 0 ∧ t.be = 0) ∨ (0 ≤ t.ba ∧ t.ba ≤ t.be ∧ t.be ≤ h.fa)) (hmn : (mkr h.m h.fs h.fa h.fl t.ba t.be o.t o.l o.m h.sz).m.n = h.m.n) :
    Calls Tryz.prog 79 #[.pointer (some ⟨D, 0, none⟩)] w fun en w' => ∃ r, r = mkr h.m h.fs h.fa h.fl t.ba t.be o.t o.l o.m h.sz ∧ (r.e ≠ 0 → Sp base D T S3 11 (alH h j t r) j o s w en w') ∧ (r.e = 0 → Sp base D T S3 (K.pue t.st) { alH h j t r with th := h.th.set j { t with ba := r.x, be := r.y, st := K.pus t.st r.p } } j o s w en w') := by
  obtain ⟨us, P, Q, c, d, A, co, cT, hD, hT, hc1, hc2, hbD, hbT, hR⟩ := id hS
  obtain ⟨u, hu, hO⟩ := hR.at_ ht
  have HM := Lib.hid (fun W (k : Up w W) => make_any h.m P Q c d h.fs h.fa h.fl t.ba t.be o.t o.l o.m h.sz W (hR.sits.up k) hmp hh h255 hs hl hb)
  obtain ⟨ust, uba, ube, ulg, ulf, upd, uwt, udn⟩ := u
  obtain ⟨r1, rba, rbe, r2, r3, r4, rwt, r5⟩ := hO.r
  simp only at r1 rba rbe r2 r3 r4 rwt r5
  subst rba
  subst rbe
  subst rwt
  obtain ⟨A3, c3, rfl⟩ := r1.slice
  obtain ⟨A4, c4, rfl⟩ := r2.slice
  obtain ⟨A5, c5, rfl⟩ := r3.slice
  obtain ⟨A6, c6, rfl⟩ := r4.slice
  obtain ⟨A7, c7, rfl⟩ := r5.slice
  have htc := fun W (k : Up w W) => tcs (hT.up k) hu
  have HT := Lib.hid ht
  have HS := Lib.hid hS
  have HD := Lib.hid hD
  have HTB := Lib.hid hT
  have hj : j < h.th.length := by rw [← hR.len]; exact hR.lt
  have HJ := Lib.hid hj
  have hlD := hD.lt
  have hlT := hT.lt
  simp only at htc
  generalize hrr : mkr h.m h.fs h.fa h.fl t.ba t.be o.t o.l o.m h.sz = r at *
  have HRR := Lib.hid hrr
  have HMN := Lib.hid hmn
  generalize t.st.length = n1 at *
  generalize t.lg.length = n2 at *
  generalize t.lf.length = n3 at *
  generalize t.pd.length = n4 at *
  generalize t.dn.length = n5 at *
  generalize us.length = nt at *
  generalize h.od.length = no at *
  have HKP := Lib.hid (fun w' (k : Up w w') => (⟨(hD.up k).cell, htc w' k⟩ : (∀ zi, w'.cell? ⟨D, zi, none⟩ = (#[.int .i64 h.m.n, .slice (some P) h.m.n c, .slice (some Q) h.m.n d, .int .i64 h.fs, .int .i64 h.fa, .int .i64 h.fl, .int .i64 h.ts, .int .i64 h.ta, .int .i64 h.tl, .int .i64 h.sz, .int .i64 h.lg, .slice (some ⟨T, 0, none⟩) nt cT, .int .i64 h.ph, .int .i64 h.sc, .int .i64 h.fp, .slice A no co, .int .i64 h.bk, .int .i64 j, .pointer (some ⟨T, j * 8, none⟩), .int .i64 o.kd, .int .i64 o.h, .int .i64 o.i, .int .i64 o.k, .int .u64 o.v, .int .i64 o.t, .int .i64 o.l, .int .u64 o.m, .int .u64 s.h, .int .u64 s.k, .int .u64 s.v, .bool s.p, .int .i64 s.e, .int .u64 s.w, .bool s.y] : Array Value)[zi]?) ∧ w'.cell? ⟨T, j * 8, none⟩ = some (.slice A3 n1 c3) ∧ w'.cell? ⟨T, j * 8 + 1, none⟩ = some (.int .i64 t.ba) ∧ w'.cell? ⟨T, j * 8 + 2, none⟩ = some (.int .i64 t.be) ∧ w'.cell? ⟨T, j * 8 + 3, none⟩ = some (.slice A4 n2 c4) ∧ w'.cell? ⟨T, j * 8 + 4, none⟩ = some (.slice A5 n3 c5) ∧ w'.cell? ⟨T, j * 8 + 5, none⟩ = some (.slice A6 n4 c6) ∧ w'.cell? ⟨T, j * 8 + 6, none⟩ = some (.bool t.wt) ∧ w'.cell? ⟨T, j * 8 + 7, none⟩ = some (.slice A7 n5 c7)))
  have htc0 := htc w (Up.refl w)
  have hDc0 := hD.cell
  unfold stc at hDc0
  have U0 : Up w w.drew := (Up.refl w).drew
  clear r1 r2 r3 r4 r5 hS hT hR hu hO hD hc1 hc2 hbD hbT ht hmp hh h255 hs hl hb hmn hrr hj htc
  go_enter Tryz.func79, Tryz.ntmps79
  go_upto_region 1 with fail
  go_cut [3, 4, 5] from 6 to 31 (fun b3 v4 v5 wx => ∃ (HB : Nat) (P1 Q1 : Addr) (c1 d1 : Nat), b3 = .pointer (some ⟨HB, 0, none⟩) ∧ v4 = .int .u64 r.p ∧ v5 = .int .i64 r.e ∧ Up w wx ∧ Sits wx r.m P1 Q1 c1 d1 ∧ Blk wx HB 150 (roc h.m.n (.slice (some P1) h.m.n c1) (.slice (some Q1) h.m.n d1) h.fs r.a h.fl r.x r.y))
  case first =>
    go_region_held3 (fun w' => (∀ zi, w'.cell? ⟨D, zi, none⟩ = (#[.int .i64 h.m.n, .slice (some P) h.m.n c, .slice (some Q) h.m.n d, .int .i64 h.fs, .int .i64 h.fa, .int .i64 h.fl, .int .i64 h.ts, .int .i64 h.ta, .int .i64 h.tl, .int .i64 h.sz, .int .i64 h.lg, .slice (some ⟨T, 0, none⟩) nt cT, .int .i64 h.ph, .int .i64 h.sc, .int .i64 h.fp, .slice A no co, .int .i64 h.bk, .int .i64 j, .pointer (some ⟨T, j * 8, none⟩), .int .i64 o.kd, .int .i64 o.h, .int .i64 o.i, .int .i64 o.k, .int .u64 o.v, .int .i64 o.t, .int .i64 o.l, .int .u64 o.m, .int .u64 s.h, .int .u64 s.k, .int .u64 s.v, .bool s.p, .int .i64 s.e, .int .u64 s.w, .bool s.y] : Array Value)[zi]?) ∧ w'.cell? ⟨T, j * 8, none⟩ = some (.slice A3 n1 c3) ∧ w'.cell? ⟨T, j * 8 + 1, none⟩ = some (.int .i64 t.ba) ∧ w'.cell? ⟨T, j * 8 + 2, none⟩ = some (.int .i64 t.be) ∧ w'.cell? ⟨T, j * 8 + 3, none⟩ = some (.slice A4 n2 c4) ∧ w'.cell? ⟨T, j * 8 + 4, none⟩ = some (.slice A5 n3 c5) ∧ w'.cell? ⟨T, j * 8 + 5, none⟩ = some (.slice A6 n4 c6) ∧ w'.cell? ⟨T, j * 8 + 6, none⟩ = some (.bool t.wt) ∧ w'.cell? ⟨T, j * 8 + 7, none⟩ = some (.slice A7 n5 c7))
      (first
        | with_reducible exact HKP.out _ U0
        | with_reducible exact HKP.out _ UA
        | with_reducible exact HKP.out _ UZ
        | with_reducible exact HKP.out _ (((Up.refl w).alloc _).drew)
        | with_reducible exact HKP.out _ (Up.alloc UA _)
        | with_reducible exact HKP.out _ (Up.alloc UZ _)
        | with_reducible exact HKP.out _ (Up.set8 UZ (Nat.le_refl _) _ _ _ _ _ _ _ _)
        | with_reducible exact HKP.out _ (Up.set8 UZ UAs _ _ _ _ _ _ _ _))
      (first
        | (go_at_call 104; ((with_reducible refine (room_any _ _ _ _ _ _ _ _ _ _ _ _ _ _ _ _ _ _ _ _ _ _ _ _ _ none none _ ⟨_, _, _, rfl⟩ ⟨_, _, _, rfl⟩ ⟨_, _, _, rfl⟩ ⟨_, _, _, rfl⟩ ⟨_, _, _, rfl⟩ ⟨_, _, _, rfl⟩ ⟨_, _, _, rfl⟩ ⟨_, _, _, rfl⟩ ⟨_, _, _, rfl⟩).mono ?_); rintro e wa ⟨rfl, ha⟩; have UA : Up w wa := Up.trans (by first | with_reducible assumption | with_reducible exact Up.alloc (by with_reducible assumption) _ | with_reducible exact ((Up.refl w).alloc _).drew) ha; have UAs := UA.size; (try (have MA : Blk wa w.heap.size 150 #[.int .i64 0, .slice none 0 0, .slice none 0 0, .int .i64 0, .int .i64 0, .int .i64 0, .int .i64 0, .int .i64 0] := (by with_reducible exact ((Blk.new w _ _).drew).up ha)))))
        | (go_at_call 103; ((with_reducible refine (HM.out _ (by first | with_reducible assumption | with_reducible exact Up.alloc (by with_reducible assumption) _ | with_reducible exact ((Up.refl w).alloc _).drew)).mono ?_); rintro e wz ⟨P1, Q1, c1, d1, rfl, sz, hz⟩; have UZ : Up w wz := Up.trans (by first | with_reducible assumption | with_reducible exact Up.alloc (by with_reducible assumption) _ | with_reducible exact ((Up.refl w).alloc _).drew) hz; (try (have MB : Blk wz w.heap.size 150 #[.int .i64 0, .slice none 0 0, .slice none 0 0, .int .i64 0, .int .i64 0, .int .i64 0, .int .i64 0, .int .i64 0] := (by with_reducible exact MA.up hz); have mc := MB.cell; have mf := MB.frozen; have ml := MB.lt)); (try (have MB : Blk wz wa.heap.size 150 #[.int .i64 0, .slice none 0 0, .slice none 0 0, .int .i64 0, .int .i64 0, .int .i64 0, .int .i64 0, .int .i64 0] := (by with_reducible exact (Blk.new wa _ _).up hz); have mc := MB.cell; have mf := MB.frozen; have ml := MB.lt)))))
    all_goals
      have hmn2 := HMN.out
      go_wp2_with (fail)
      go_meet
      rw [hmn2]
      first
        | with_reducible exact ⟨_, P1, Q1, c1, d1, rfl, rfl, rfl, UZ.alloc _, sz.up ((Up.refl _).alloc _), Blk.new _ _ _⟩
        | with_reducible exact ⟨_, P1, Q1, c1, d1, rfl, rfl, rfl, UZ.set8 (Nat.le_refl _) _ _ _ _ _ _ _ _, sz.far8 MB _ _ _ _ _ _ _ _, MB.set8 _ _ _ _ _ _ _ _⟩
        | with_reducible exact ⟨_, P1, Q1, c1, d1, rfl, rfl, rfl, UZ.set8 UAs _ _ _ _ _ _ _ _, sz.far8 MB _ _ _ _ _ _ _ _, MB.set8 _ _ _ _ _ _ _ _⟩
  case rest =>
    obtain ⟨HB, P1, Q1, c1, d1, rfl, rfl, rfl, Ux, sz, hHB⟩ := hcut
    rename World => wx
    have ht3 : (alH h j t r).th[j]? = some { t with ba := r.x, be := r.y } := List.getElem?_set_self HJ.out
    obtain ⟨k3, s3⟩ := (HS.out.up Ux).room (Up.refl wx).drew HT.out r (sz.up (Up.refl wx).drew) HMN.out
    simp only [World.setCell_drew] at k3 s3
    have HK3 := Lib.hid ((Kp.of_up Ux).trans k3)
    have HS3 := Lib.hid s3
    have HT3 := Lib.hid ht3
    obtain ⟨dc, -, t1c, t2c, -⟩ := HKP.out wx Ux
    have bxc := hHB.cell
    have dl0 := (HD.out.up Ux).lt
    have df0 := (HD.out.up Ux).frozen
    have tl0 := (HTB.out.up Ux).lt
    have tf0 := (HTB.out.up Ux).frozen
    obtain ⟨dcd, -, t1d, t2d, -⟩ := HKP.out _ (Ux.drew)
    have bxd := hHB.drew.cell
    have bxl := hHB.drew.lt
    have dl := (HD.out.up Ux).drew.lt
    have df := (HD.out.up Ux).drew.frozen
    have tl := (HTB.out.up Ux).drew.lt
    have tf := (HTB.out.up Ux).drew.frozen
    have hDT : D ≠ T := HD.out.ne_type HTB.out (by decide)
    have hDB : HB ≠ D := fun e => by subst e; exact (hHB.ne_type (HD.out.up Ux) (by decide)) rfl
    have hTB2 : HB ≠ T := fun e => by subst e; exact (hHB.ne_type (HTB.out.up Ux) (by decide)) rfl
    clear k3 s3 ht3 sz hHB htc0 hDc0 hlD hlT U0 HM
    by_cases he : r.e = 0
    · rw [he]
      have HE := Lib.hid he
      clear he
      go_wp2_with (fail)
      go_region
      all_goals
        go_wp2_with (fail)
        refine (next_st HS3.out HT3.out r.p).mono ?_
        rintro e w9 ⟨rfl, k9, s9⟩
        go_wp2
        go_ret
        refine ⟨r, rfl, fun q => absurd HE.out q, fun _ => ⟨rfl, HK3.out.trans k9, ?_⟩⟩
        have e9 : (alH h j t r).th.set j { t with ba := r.x, be := r.y, st := K.pus t.st r.p } = h.th.set j { t with ba := r.x, be := r.y, st := K.pus t.st r.p } := List.set_set ..
        rw [← e9]
        exact s9
    · have hb : (r.e != 0) = true := bne_iff_ne.2 he
      have HE := Lib.hid he
      clear he
      go_wp2_with (fail)
      go_region
      all_goals
        go_wp2
        go_ret
        exact ⟨r, rfl, fun _ => ⟨rfl, HK3.out, HS3.out⟩, fun q => absurd q HE.out⟩
end
end Go.Proofs.YtddoljfkbkbfjaaGreat.T
