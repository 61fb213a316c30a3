/- The statement WalkReach is proved for every input, from contracts of the functions that it calls; no condition is added. -/
import Derived.Test.YtmjadmoadedghaaWk12
import Derived.Deep.RegionHeld3
import Derived.BigQuiet
namespace Go.Proofs.Ytmjadmoadedghaa.LWalkReach
open Go.Joins Go.ChangeShapes Go.WideShapes Go.ChangeAt Go.RowKit Go.Deep
set_option linter.unusedVariables false
set_option linter.unusedSimpArgs false

theorem any_snoc (f : Int → Bool) {X : List Int} {x : Nat} (h : x < X.length) : (X.take (x + 1)).any f = ((X.take x).any f || f (X.getD x 0)) := by
  rw [take_snoc' h]
  simp
theorem nodup_at : ∀ {X : List Int} {i j : Nat}, X.Nodup → i < X.length → j < X.length → X.getD i 0 = X.getD j 0 → i = j := by
  intro X i j hn hi hj h
  simp only [List.getD, List.getElem?_eq_getElem hi, List.getElem?_eq_getElem hj, Option.getD_some] at h
  have hp := List.pairwise_iff_getElem.1 hn
  rcases Nat.lt_trichotomy i j with q | q | q
  · exact absurd h (hp i j hi hj q)
  · exact q
  · exact absurd h.symm (hp j i hj hi q)
theorem ptv_u64 {m : Me} (hwf : m.wf) {a b : Int} (h : b ∈ m.ptv a) : U64 b := by
  unfold Me.ptv at h
  obtain ⟨i, _, rfl⟩ := List.mem_map.1 h
  exact getv_u64 hwf a i
/-- What leads to an address? -/
def lds (m : Me) (a b : Int) : Bool := decide (a ∈ m.ptv b)
def UpRel (n : Nat) (wb : World) (u : Value) (wr : World) : Prop := ∃ x : Nat, x ≤ n ∧ u = .int .i64 x ∧ Up wb wr
def FrRel (m : Me) (X : List Int) (a : Int) (b0 : Bool) (wb : World) (u9 u10 : Value) (wr : World) : Prop := ∃ y : Nat, y ≤ X.length ∧ u10 = .int .i64 y ∧ u9 = .bool (b0 || (X.take y).any (lds m a)) ∧ Up wb wr

set_option maxRecDepth 100000 in
set_option maxHeartbeats 4000000 in
theorem walk_no (NM : Int) (AM0 AM1 : Option Addr) (nM0 nM1 cM0 cM1 : Nat) (AR0 : Option Addr) (k capR0 : Nat) (roots : List Int) (hfew : few NM nM0 nM1 = false) (w : World) :
    Calls Try.prog 4 #[.agg #[.int .i64 NM, .slice AM0 nM0 cM0, .slice AM1 nM1 cM1], .slice AR0 k capR0] w (fun e w' => e = .returned (.bool true) ∧ Up w w') := by
  have hf := fun w => few_any NM AM0 AM1 nM0 nM1 cM0 cM1 w
  rw [hfew] at hf
  have hf := Lib.hid hf
  clear hfew
  go_enter Try.func4, Try.ntmps4
  go_wp2_with (fail)
  refine (shown_any _).mono ?_
  rintro e w1 ⟨rfl, h1⟩
  have M1 : Blk w1 (w.heap.size) 25 #[.int .i64 NM, .slice AM0 nM0 cM0, .slice AM1 nM1 cM1] := ((Blk.new' _ (by simp) _ _)).up h1
  have U1 : Up w w1 := (((Up.refl w).alloc _)).trans h1
  clear h1
  have M1c := M1.cell
  have M1l := M1.lt
  go_wp2_with (fail)
  refine (hf.out _).mono ?_
  rintro e w2 ⟨rfl, h2⟩
  have M2 := M1.up h2
  have U2 : Up w w2 := U1.trans h2
  clear h2 M1 M1c M1l U1
  have M2c := M2.cell
  have M2l := M2.lt
  go_wp2
  go_ret
  exact ⟨rfl, U2⟩

set_option maxRecDepth 100000 in
set_option maxHeartbeats 16000000 in
theorem walk_big (m : Me) (P Q : Addr) (c d : Nat) (AR0 : Option Addr) (k capR0 : Nat) (roots : List Int) (w : World) (hm : Sits w m P Q c d) (hn : m.n ≤ 200) (hwf : m.wf) (hro : SlOk w AR0 k capR0 roots) (hk : 40 < k) :
    Calls Try.prog 4 #[.agg #[.int .i64 m.n, .slice (some P) m.n c, .slice (some Q) m.n d], .slice AR0 k capR0] w (fun e w' => e = .returned (.bool true) ∧ Up w w') := by
  have hfew : few m.n m.n m.n = true := by unfold few rt; simp; have := hm.1.1; omega
  have hf := fun w => few_any m.n (some P) (some Q) m.n m.n c d w
  rw [hfew] at hf
  have hf := Lib.hid hf
  have hok := hm.1
  have HM := Lib.hid hm
  clear hfew hm
  have q0 : decide ((k : Int) > 40) = true := decide_eq_true (by omega)
  clear hwf hro hn hok
  go_enter Try.func4, Try.ntmps4
  go_wp2_with (fail)
  refine (shown_any _).mono ?_
  rintro e w1 ⟨rfl, h1⟩
  have M1 : Blk w1 (w.heap.size) 25 #[.int .i64 m.n, .slice (some P) m.n c, .slice (some Q) m.n d] := ((Blk.new' _ (by simp) _ _)).up h1
  have U1 : Up w w1 := (((Up.refl w).alloc _)).trans h1
  clear h1
  have M1c := M1.cell
  have M1l := M1.lt
  go_wp2_with (fail)
  refine (hf.out _).mono ?_
  rintro e w2 ⟨rfl, h2⟩
  have M2 := M1.up h2
  have U2 : Up w w2 := U1.trans h2
  clear h2 M1 M1c M1l U1
  have M2c := M2.cell
  have M2l := M2.lt
  go_wp2
  go_ret
  exact ⟨rfl, U2⟩

set_option maxRecDepth 100000 in
set_option maxHeartbeats 16000000 in
theorem walk_ok (m : Me) (P Q : Addr) (c d : Nat) (AR0 : Option Addr) (k capR0 : Nat) (roots : List Int) (w : World) (hm : Sits w m P Q c d) (hn : m.n ≤ 200) (hwf : m.wf) (hro : SlOk w AR0 k capR0 roots) (hk : k ≤ 40) :
    Calls Try.prog 4 #[.agg #[.int .i64 m.n, .slice (some P) m.n c, .slice (some Q) m.n d], .slice AR0 k capR0] w (fun e w' => e = .returned (.bool true) ∧ Up w w') := by
  have hfew : few m.n m.n m.n = true := by unfold few rt; simp; have := hm.1.1; omega
  have hf := fun w => few_any m.n (some P) (some Q) m.n m.n c d w
  rw [hfew] at hf
  have hf := Lib.hid hf
  have hok := hm.1
  have HM := Lib.hid hm
  clear hfew hm
  have q0 : decide ((k : Int) > 40) = false := decide_eq_false (by omega)
  have h1 := Lib.hid (fun (W : World) (hU : Up w W) (hS : Sits W m P Q c d) => reach_any m P Q c d AR0 k capR0 roots W hS hwf (hro.1.up hU) hro.2.2.2 (by omega))
  have hlX := rch_len m hok.2.1 roots
  obtain ⟨f1, f2, f3, f4, f5⟩ := rch_facts m roots
  have Lnd := Lib.hid f1
  have Lrea := Lib.hid f2
  have Lfr := Lib.hid f3
  have Lrt := Lib.hid f4
  have Lcl := Lib.hid f5
  clear f1 f2 f3 f4 f5
  generalize m.rch roots = X at *
  have hmx : Hid (X.length ≤ maxLen) := Lib.hid (by unfold maxLen; omega)
  replace hwf := Lib.hid hwf
  have hkr : roots.length = k := hro.1.1
  replace hro := Lib.hid hro
  clear hn hok
  go_enter Try.func4, Try.ntmps4
  go_wp2_with (fail)
  refine (shown_any _).mono ?_
  rintro e w1 ⟨rfl, h1⟩
  have M1 : Blk w1 (w.heap.size) 25 #[.int .i64 m.n, .slice (some P) m.n c, .slice (some Q) m.n d] := ((Blk.new' _ (by simp) _ _)).up h1
  have U1 : Up w w1 := (((Up.refl w).alloc _)).trans h1
  clear h1
  have M1c := M1.cell
  have M1l := M1.lt
  go_wp2_with (fail)
  refine (hf.out _).mono ?_
  rintro e w2 ⟨rfl, h2⟩
  have M2 := M1.up h2
  have U2 : Up w w2 := U1.trans h2
  clear h2 M1 M1c M1l U1
  have M2c := M2.cell
  have M2l := M2.lt
  go_wp2_with (fail)
  refine (h1.out _ U2 (HM.out.up U2)).mono ?_
  rintro e w3 ⟨vX, rfl, hlX, h3⟩
  have M3 := M2.up h3
  have U3 : Up w w3 := U2.trans h3
  obtain ⟨AX, capX, rfl, hcX, hmX, rdX⟩ := hlX.sl
  have rX3 := Lib.hid rdX
  clear h3 M2 M2c M2l U2 rdX hlX
  have M3c := M3.cell
  have M3l := M3.lt
  go_wp2
  go_loopw [8] (fun u8 wr => UpRel X.length w3 u8 wr) (fun u8 _ => X.length - (intOf u8).toNat)
  case atStart => exact ⟨0, Nat.zero_le _, rfl, Up.refl _⟩
  case round =>
    obtain ⟨x, hx, rfl, UR⟩ := hrel
    rename World => wo
    clear M3c M3l
    have Mr := M3.up UR
    have RXr := rX3.out.up UR
    have UUr := Lib.hid (U3.trans UR)
    clear h1
    by_cases hlt : x < X.length
    · obtain ⟨p, rfl, hrow⟩ := RXr.2 (by omega)
      have hmem : X.getD x 0 ∈ X := by simp [List.getD, List.getElem?_eq_getElem hlt]
      have hax := hrow.at_ x hlt
      have hatx := Lib.hid (fun (V : World) (hV : Up wo V) => (hrow.up hV).at_ x hlt)
      have hh := rhas_any AR0 k capR0 roots (X.getD x 0) wo (hro.out.1.up UUr.out) (by unfold maxLen; omega)
      have hre := Lrea.out _ hmem
      have hfr : (decide (X.getD x 0 ∈ roots) || X.any (lds m (X.getD x 0))) = true := by
        rcases Lfr.out _ hmem with q | ⟨y, hy, q⟩
        · rw [decide_eq_true q]; rfl
        · rw [List.any_eq_true.2 ⟨y, hy, decide_eq_true q⟩, Bool.or_true]
      have hcl := Lib.hid (Lcl.out _ hmem)
      have hne := Lib.hid (fun (y : Nat) (hy : y < X.length) (h : y ≠ x) => (beq_eq_false_iff_ne.2 (fun q => h (nodup_at Lnd.out hy hlt q)) : (X.getD y 0 == X.getD x 0) = false))
      have h4 := Lib.hid (fun (V : World) (hU : Up wo V) => rpointers_any m P Q c d (X.getD x 0) V ((HM.out.up UUr.out).up hU) (real_u64 hre) hwf.out (of_decide_eq_true hre))
      have hpu := Lib.hid (fun b (hb : b ∈ m.ptv (X.getD x 0)) => ptv_u64 hwf.out hb)
      have hpl := Lib.hid (ptv_len m (X.getD x 0))
      clear hmem hre
      generalize X.getD x 0 = lx at *
      generalize decide (lx ∈ roots) = b0 at *
      have hh := Lib.hid hh
      have hfr := Lib.hid hfr
      go_wp2_with (fail)
      refine hh.out.mono ?_
      rintro e wq ⟨rfl, rfl⟩
      clear hh hax
      go_wp2
      go_loopw [9, 10] (fun u9 u10 ws => FrRel m X lx b0 wo u9 u10 ws) (fun _ u10 _ => X.length - (intOf u10).toNat)
      case atStart => exact ⟨0, Nat.zero_le _, rfl, by simp, Up.refl _⟩
      case round =>
        obtain ⟨y, hy, rfl, rfl, US⟩ := hrel
        by_cases hly : y < X.length
        · have TY := any_snoc (lds m lx) hly
          have hreb := Lrea.out (X.getD y 0) (by simp [List.getD, List.getElem?_eq_getElem hly])
          have haty := Lib.hid (fun (V : World) (hV : Up wo V) => (hrow.up hV).at_ y hly)
          have h4b := Lib.hid (fun (V : World) (hU : Up wo V) => rpointers_any m P Q c d (X.getD y 0) V ((HM.out.up UUr.out).up hU) (real_u64 hreb) hwf.out (of_decide_eq_true hreb))
          have hqq := hne.out y hly
          have hpb := Lib.hid (ptv_len m (X.getD y 0))
          have hL : lds m lx (X.getD y 0) = decide (lx ∈ m.ptv (X.getD y 0)) := rfl
          rw [hL] at TY
          clear hreb hL
          generalize X.getD y 0 = b at *
          generalize m.ptv b = pb at *
          have hhb := fun (V : World) (A : Option Addr) (cap : Nat) (hR : Rd V A pb.length pb) => rhas_any A pb.length cap pb lx V hR (by have := hpb.out; unfold maxLen; omega)
          generalize decide (lx ∈ pb) = q at *
          have hhb := Lib.hid hhb
          have HT : Hid ((b0 || (X.take (y + 1)).any (lds m lx)) = ((b0 || (X.take y).any (lds m lx)) || q)) := Lib.hid (by rw [TY, Bool.or_assoc])
          generalize (b0 || (X.take y).any (lds m lx)) = fr at HT ⊢
          clear TY
          have Ms := Mr.up US
          have hcy := haty.out _ US
          have hcx := hatx.out _ US
          rcases Decidable.em (y = x) with hyx | hyx
          case' inl =>
            have hd : (((y : Int) != (x : Int))) = false := by rw [hyx]; exact bne_self_eq_false _
          case' inr =>
            have hqq := hqq hyx
            have hd : (((y : Int) != (x : Int))) = true := bne_iff_ne.2 (fun e => hyx (by omega))
          all_goals
            clear hyx
            go_wp2_with (fail)
            go_quiet (fail)
            go_wp2_with (fail)
            clear hcy hcx hd hqq
            have UQ : Up wr (wr.drewN nq) := (Up.refl _).drewN nq
            generalize wr.drewN nq = wn at UQ ⊢
            obtain ⟨W0, hW0⟩ : ∃ W0 : World, W0 = wn.drew := ⟨_, rfl⟩
            have U0 : Up W0 wn.drew := by rw [hW0]; exact Up.refl _
            have UW : Up wr W0 := by rw [hW0]; exact UQ.drew
            have M0 := Ms.up UW
            have UX := Lib.hid (US.trans UW)
            have h4c := Lib.hid (fun (V : World) (hU : Up W0 V) => h4b.out V (UX.out.trans hU))
            have hbt := Lib.hid (fun (V : World) (hU : Up W0 V) => haty.out V (UX.out.trans hU))
            have hxt := Lib.hid (fun (V : World) (hU : Up W0 V) => hatx.out V (UX.out.trans hU))
            clear Ms hW0 UW US UQ h4b haty
            go_region_held3 (fun w' => (∀ i, w'.cell? ⟨w.heap.size, i, none⟩ = (#[.int .i64 m.n, .slice (some P) m.n c, .slice (some Q) m.n d] : Array Value)[i]?) ∧ w'.cell? (p.add y) = some (.int .u64 b) ∧ w'.cell? (p.add x) = some (.int .u64 lx))
              (exact ⟨fun i => (Blk.up M0 (by assumption)).cell i, hbt.out _ (by assumption), hxt.out _ (by assumption)⟩)
              (first
                | (go_at_call 18; ((with_reducible refine (h4c.out _ (by assumption)).mono ?_); rintro e wz ⟨vp, rfl, hlp, hz⟩; have UZ := Up.trans (a := W0) (by assumption) hz; obtain ⟨AP, capP, rfl, hcP, hmP, rdP⟩ := hlp.sl; have RP := Lib.hid rdP; clear rdP hlp))
                | (go_at_call 17; ((with_reducible refine (hhb.out _ _ _ RP.out).mono ?_); rintro e wq ⟨rfl, rfl⟩)))
            all_goals
              have UF := Lib.hid (UX.out.trans UZ)
              clear h4c hbt hxt U0 UX UZ hz M0 RP hhb
              cases fr
              all_goals
                go_wp2_with (fail)
                refine ⟨⟨y + 1, by omega, by go_num, by rw [HT.out]; rfl, UF.out⟩, by simp [intOf]; omega⟩
        · obtain rfl : y = X.length := by omega
          rw [List.take_of_length_le (Nat.le_refl _), hfr.out]
          have Ms := Mr.up US
          clear hfr hne hro Lnd Lrea Lfr Lrt Lcl hrow
          generalize m.ptv lx = pv at *
          go_wp2_with (fail)
          obtain ⟨W0, hW0⟩ : ∃ W0 : World, W0 = wr.drew := ⟨_, rfl⟩
          have U0 : Up W0 wr.drew := by rw [hW0]; exact Up.refl _
          have UW : Up wr W0 := by rw [hW0]; exact (Up.refl _).drew
          have M0 := Ms.up UW
          have UX := Lib.hid (US.trans UW)
          have h4c := Lib.hid (fun (V : World) (hU : Up W0 V) => h4.out V (UX.out.trans hU))
          have hxt := Lib.hid (fun (V : World) (hU : Up W0 V) => hatx.out V (UX.out.trans hU))
          clear Ms hW0 UW US h4 hatx
          go_region_held3 (fun w' => (∀ i, w'.cell? ⟨w.heap.size, i, none⟩ = (#[.int .i64 m.n, .slice (some P) m.n c, .slice (some Q) m.n d] : Array Value)[i]?) ∧ w'.cell? (p.add x) = some (.int .u64 lx))
            (exact ⟨fun i => (Blk.up M0 (by assumption)).cell i, hxt.out _ (by assumption)⟩)
            (first
              | (go_at_call 18; ((with_reducible refine (h4c.out _ (by assumption)).mono ?_); rintro e wz ⟨vp, rfl, hlp, hz⟩; have UZ := Up.trans (a := W0) (by assumption) hz; obtain ⟨AP, capP, rfl, hcP, hmP, rdP⟩ := hlp.sl; have RP := Lib.hid rdP; clear rdP hlp)))
          have UF := UX.out.trans UZ
          have UFh := Lib.hid UF
          have Mz := Mr.up UF
          have hp16 := hpl.out
          clear h4c hxt U0 UX UZ hz M0 Mr UF
          rename World => wv
          go_wp2
          go_loopw [13] (fun u13 wt => UpRel pv.length wv u13 wt) (fun u13 _ => pv.length - (intOf u13).toNat)
          case atStart => exact ⟨0, Nat.zero_le _, rfl, Up.refl _⟩
          case round =>
            obtain ⟨z, hz0, rfl, UT⟩ := hrel
            by_cases hlz : z < pv.length
            · obtain ⟨p2, rfl, hrow2⟩ := RP.out.2 (by omega)
              have hbm : pv.getD z 0 ∈ pv := by simp [List.getD, List.getElem?_eq_getElem hlz]
              have hatz := Lib.hid (fun (V : World) (hV : Up wv V) => (hrow2.up hV).at_ z hlz)
              have hcz := hcl.out _ hbm
              have hrl := Lib.hid (fun (V : World) (hU : Up wv V) => rreal_any m (pv.getD z 0) P Q c d V ((HM.out.up UUr.out).up (UFh.out.trans hU)) (hpu.out _ hbm) hwf.out)
              have hhz := fun (V : World) (hU : Up wv V) => rhas_any (some p) X.length capX X (pv.getD z 0) V ((RXr.up UFh.out).up hU) hmx.out
              clear hbm
              generalize pv.getD z 0 = b at *
              generalize m.real b = r at *
              have hrq : r = true → decide (b ∈ X) = true := fun h => decide_eq_true (hcz h)
              clear hcz
              generalize decide (b ∈ X) = q at *
              have hrq := Lib.hid hrq
              have hhz := Lib.hid hhz
              have Ms := Mz.up UT
              go_wp2_with (fail)
              obtain ⟨W0, hW0⟩ : ∃ W0 : World, W0 = wr.drew := ⟨_, rfl⟩
              have U0 : Up W0 wr.drew := by rw [hW0]; exact Up.refl _
              have UW : Up wr W0 := by rw [hW0]; exact (Up.refl _).drew
              have M0 := Ms.up UW
              have UX := Lib.hid (UT.trans UW)
              have hrt := Lib.hid (fun (V : World) (hU : Up W0 V) => hrl.out V (UX.out.trans hU))
              have hzt := Lib.hid (fun (V : World) (hU : Up W0 V) => hatz.out V (UX.out.trans hU))
              clear Ms hW0 UW UT hrl
              go_region_held3 (fun w' => (∀ i, w'.cell? ⟨w.heap.size, i, none⟩ = (#[.int .i64 m.n, .slice (some P) m.n c, .slice (some Q) m.n d] : Array Value)[i]?) ∧ w'.cell? (p2.add z) = some (.int .u64 b))
                (exact ⟨fun i => (Blk.up M0 (by assumption)).cell i, hzt.out _ (by assumption)⟩)
                (first
                  | (go_at_call 19; ((with_reducible refine (hrt.out _ (by assumption)).mono ?_); rintro e wy ⟨rfl, hz⟩; have UZ := Up.trans (a := W0) (by assumption) hz)))
              have UY := UX.out.trans UZ
              have hcb := hatz.out _ UY
              have hhb := Lib.hid (hhz.out _ UY)
              have UYh := Lib.hid UY
              clear UY UX UZ hz hrt hzt M0 U0 hatz hhz
              go_wp2_with (fail)
              refine hhb.out.mono ?_
              rintro e wq ⟨rfl, rfl⟩
              clear hhb hcb
              cases r <;> cases q
              case true.false => cases hrq.out rfl
              all_goals
                go_wp2_with (fail)
                refine ⟨⟨z + 1, by omega, by go_num, UYh.out⟩, by simp [intOf]; omega⟩
            · obtain rfl : z = pv.length := by omega
              have UY := Lib.hid (UR.trans (UFh.out.trans UT))
              go_wp2_with (fail)
              refine ⟨⟨x + 1, by omega, by go_num, UY.out⟩, by simp [intOf]; omega⟩
    · obtain rfl : x = X.length := by omega
      go_wp2
      go_loopw [16] (fun u16 wt => UpRel k wo u16 wt) (fun u16 _ => k - (intOf u16).toNat)
      case atStart => exact ⟨0, Nat.zero_le _, rfl, Up.refl _⟩
      case round =>
        obtain ⟨z, hz0, rfl, UT⟩ := hrel
        by_cases hlz : z < k
        · obtain ⟨p2, rfl, hrow2⟩ := (hro.out.1.up UUr.out).2 (by omega)
          have hbm : roots.getD z 0 ∈ roots := by simp [List.getD, List.getElem?_eq_getElem (show z < roots.length by omega)]
          have hatz := Lib.hid (fun (V : World) (hV : Up wo V) => (hrow2.up hV).at_ z (show z < roots.length by omega))
          have hcz := Lrt.out _ hbm
          have hcy := Lrea.out (roots.getD z 0)
          have hrl := Lib.hid (fun (V : World) (hU : Up wo V) => rreal_any m (roots.getD z 0) P Q c d V ((HM.out.up UUr.out).up hU) (hro.out.2.2.2 _ hbm) hwf.out)
          have hhz := fun (V : World) (hU : Up wo V) => rhas_any AX X.length capX X (roots.getD z 0) V (RXr.up hU) hmx.out
          clear hbm
          generalize roots.getD z 0 = b at *
          generalize m.real b = r at *
          have hrq : r = decide (b ∈ X) := by
            cases r
            · exact (decide_eq_false (fun h => by cases hcy h)).symm
            · exact (decide_eq_true (hcz rfl)).symm
          rw [← hrq] at hhz
          have hhz := Lib.hid hhz
          have Ms := Mr.up UT
          clear hrq hcz hcy
          go_wp2_with (fail)
          obtain ⟨W0, hW0⟩ : ∃ W0 : World, W0 = wr.drew := ⟨_, rfl⟩
          have U0 : Up W0 wr.drew := by rw [hW0]; exact Up.refl _
          have UW : Up wr W0 := by rw [hW0]; exact (Up.refl _).drew
          have M0 := Ms.up UW
          have UX := Lib.hid (UT.trans UW)
          have hrt := Lib.hid (fun (V : World) (hU : Up W0 V) => hrl.out V (UX.out.trans hU))
          have hzt := Lib.hid (fun (V : World) (hU : Up W0 V) => hatz.out V (UX.out.trans hU))
          clear Ms hW0 UW UT hrl
          go_region_held3 (fun w' => (∀ i, w'.cell? ⟨w.heap.size, i, none⟩ = (#[.int .i64 m.n, .slice (some P) m.n c, .slice (some Q) m.n d] : Array Value)[i]?) ∧ w'.cell? (p2.add z) = some (.int .u64 b))
            (exact ⟨fun i => (Blk.up M0 (by assumption)).cell i, hzt.out _ (by assumption)⟩)
            (first
              | (go_at_call 19; ((with_reducible refine (hrt.out _ (by assumption)).mono ?_); rintro e wy ⟨rfl, hz⟩; have UZ := Up.trans (a := W0) (by assumption) hz)))
          have UY := UX.out.trans UZ
          have hcb := hatz.out _ UY
          have hhb := Lib.hid (hhz.out _ UY)
          have UYh := Lib.hid UY
          clear UY UX UZ hz hrt hzt M0 U0 hatz hhz
          go_wp2_with (fail)
          refine hhb.out.mono ?_
          rintro e wq ⟨rfl, rfl⟩
          clear hhb hcb
          cases r
          all_goals
            go_wp2_with (fail)
            refine ⟨⟨z + 1, by omega, by go_num, UYh.out⟩, by simp [intOf]; omega⟩
        · obtain rfl : z = k := by omega
          have UY := Lib.hid (UUr.out.trans UT)
          go_wp2
          go_ret
          exact ⟨rfl, UY.out⟩

theorem walk (NM : Int) (AM0 AM1 : Option Addr) (nM0 nM1 cM0 cM1 : Nat) (xsM ysM : List Int) (AR0 : Option Addr) (k capR0 : Nat) (roots : List Int) (w : World) (hxM : SlOk w AM0 nM0 cM0 xsM) (hyM : SlOk w AM1 nM1 cM1 ysM) (hro : SlOk w AR0 k capR0 roots) :
    Calls Try.prog 4 #[.agg #[.int .i64 NM, .slice AM0 nM0 cM0, .slice AM1 nM1 cM1], .slice AR0 k capR0] w (fun e w' => e = .returned (.bool true) ∧ Up w w') := by
  cases hfew : few NM nM0 nM1
  · exact walk_no NM AM0 AM1 nM0 nM1 cM0 cM1 AR0 k capR0 roots hfew w
  · obtain ⟨rfl, rfl, h16, h200⟩ := few_is hfew
    obtain ⟨P, Q, rfl, rfl, hm⟩ := sits_of hxM hyM h16 (by omega)
    have hwf := sits_wf hxM hyM
    by_cases hk : 40 < k
    · exact walk_big ⟨nM0, xsM, ysM⟩ P Q cM0 cM1 AR0 k capR0 roots w hm h200 hwf hro hk
    · exact walk_ok ⟨nM0, xsM, ysM⟩ P Q cM0 cM1 AR0 k capR0 roots w hm h200 hwf hro (by omega)
set_option maxRecDepth 100000 in
theorem opened {H : Type} {enc : TypeId × Value → H} {w : World} {r : Reach} {b0 : Nat} {v : Value} {d : DataW H} {p : List MemPlace} (hv : Value.okWide Try.prog w r b0 25 v) (h : DataW.Trod enc Try.prog w 0 (fun _ => true) true 25 v d p) :
    ∃ (N : Int) (A0 A1 : Option Addr) (n0 n1 c0 c1 : Nat) (xs ys : List Int), v = .agg #[.int .i64 N, .slice A0 n0 c0, .slice A1 n1 c1] ∧ I64 N ∧ SlOk w A0 n0 c0 xs ∧ SlOk w A1 n1 c1 ys := by
  obtain ⟨⟨l⟩, rfl, hsz⟩ := okWide_struct Try.underlying25 hv
  match l, hsz.trans cells_mem with
  | [z0, z1, z2], _ =>
    obtain ⟨fuel, hf⟩ := h
    obtain ⟨N, A0, A1, n0, n1, c0, c1, xs, ys, rfl, rfl, rfl, h1, h2, h3⟩ := mem_open (v0 := z0) (v1 := z1) (v2 := z2) hf
    exact ⟨N, A0, A1, n0, n1, c0, c1, xs, ys, rfl, h1, h2, h3⟩

theorem own : ownKnob Try.prog.godebug = none := by kernel_rfl
set_option maxRecDepth 100000 in
theorem lifted (os : Os) (started : os.Started) (H : Type) (enc : TypeId × Value → H) :
    ReturnsInHanded {} Try.checked os 4 .any (Rows.walkReachSpec.pre6 enc Try.prog Try.f4 Rows.walkReachRow.domain false) (Rows.walkReachSpec.post enc Try.prog Try.f4 false true false false) := by
  refine returnsInHanded_of_change (C := Try.checked) own started (by kernel_rfl) Try.func4
    (ChangeSpec.witness6 (enc := enc) (C := Try.checked) false ⟨#[], #[.agg #[.int .i64 0, .slice none 0 0, .slice none 0 0], .slice none 0 0], []⟩ 8 (by kernel_rfl) (by kernel_rfl) (by kernel_rfl) (by kernel_rfl)) ?_
  intro W base args ds gs before hval0 hW hcnd _
  have hval : ∀ (j : Nat) t v, Try.f4.params[j]? = some t → args[j]? = some v → Value.okWide Try.prog W .any base t v := hval0
  have hW' := hW
  obtain ⟨p, q, hA0, hV, rfl, hfz, hnd⟩ := hW
  have hA : DataW.TrodAll enc Try.prog W 0 (fun _ => true) true Try.f4.params.toList args.toList ds p := hA0
  rw [Try.params4] at hA hval
  obtain ⟨v0, vs0, d0, ds0, p0, q0, hargs, rfl, rfl, h0, r0⟩ := trodAll_cons hA
  obtain ⟨v1, vs1, d1, ds1, p1, q1, rfl, rfl, rfl, h1, r1⟩ := trodAll_cons r0
  obtain ⟨rfl, rfl, rfl⟩ := trodAll_nil r1
  obtain rfl : args = #[v0, v1] := by cases args; simp_all
  obtain ⟨rfl, rfl⟩ := trodVars_none hV
  have h0k := h0
  obtain ⟨N, A0, A1, n0, n1, c0, c1, xs, ys, rfl, hN, hx, hy⟩ := opened (hval 0 25 v0 rfl rfl) h0
  have h1k := h1
  obtain ⟨R1, k1, e1, zs1, rfl, hz1⟩ := words_in (hval 1 22 v1 rfl rfl) h1
  clear hA0 hval0
  simp only [List.append_nil, List.nil_append] at hW'
  refine (walk N A0 A1 n0 n1 c0 c1 xs ys R1 k1 e1 zs1 W hx hy hz1).mono fun e W' ⟨he, hg⟩ => ?_
  subst he
  exact ⟨_, rfl, post_below (pa := p0 ++ p1) (pv := []) hW' (fun _ _ _ => (trodAll_cons_mk (shut_bool Try.underlying4 _) trodAll_mk0))
    (fun sp hsp => by
      have t := (trodAll_cons_mk (trod_keeps (sp := sp) (by kernel_rfl) (of_decide_eq_true (by kernel_rfl)) h0k hg (fun x hx => hW'.lt x (by simp [hx])) (fun x hx => hsp x (by simp [hx]))) (trodAll_cons_mk (trod_keeps (sp := sp) (by kernel_rfl) (of_decide_eq_true (by kernel_rfl)) h1k hg (fun x hx => hW'.lt x (by simp [hx])) (fun x hx => hsp x (by simp [hx]))) trodAll_mk0))
      simp only [List.append_nil, List.nil_append] at t
      exact t) (fun _ _ => rfl) (by simp)
    hg (ok_one (by kernel_rfl) rfl (okWide_bool_mk Try.underlying4 _))⟩

theorem over : Rows.walkReachRow.holds Try.pinned (OpenSpec.ofChange Rows.walkReachSpec) :=
  OpenClaim.holds_of_wide 4 Try.f4 rfl rfl rfl rfl rfl rfl rfl ⟨rfl, rfl, rfl, rfl, rfl⟩ rfl rfl rfl rfl rfl (by kernel_rfl) Try.func4 (by kernel_rfl)
    (of_decide_eq_true (by kernel_rfl)) (by unfold Func.isWrapper; first | (rw [if_pos (by decide +kernel)]; kernel_rfl) | (rw [if_neg (by decide +kernel)]; exact ⟨rfl, rfl⟩))
    (fun os started H enc _ => lifted os started H enc)

theorem proved : Rows.WalkReachSaid :=
  over
#print axioms proved
end Go.Proofs.Ytmjadmoadedghaa.LWalkReach
