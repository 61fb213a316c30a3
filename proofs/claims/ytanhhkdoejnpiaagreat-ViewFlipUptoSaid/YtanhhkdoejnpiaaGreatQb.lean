/- Where nodes' objects go (view.laid): contract. -/
import Derived.Test.YtanhhkdoejnpiaaGreatQa
import Derived.Test.YtanhhkdoejnpiaaGreatRf
namespace Go.Proofs.YtanhhkdoejnpiaaGreat.G
open Go.Joins Go.ChangeShapes Go.WideShapes Go.ChangeAt Go.RowKit Go.Deep Go.Shelf Go.Maps
set_option linter.unusedVariables false
set_option linter.unusedSimpArgs false

theorem ofs_small {ns : List Nd} (h : ∀ k, k < ns.length → NdHd (ns.getD k ndN)) : ∀ k : Nat, k ≤ ns.length → ofs ns k ≤ 18 * k
  | 0, _ => by rw [ofs_0]; omega
  | k + 1, hk => by
    have := ofs_small h k (by omega)
    have h1 := ofs_step (show k < ns.length by omega)
    have h2 := h k (by omega)
    have h3 := h2.h.len
    have h4 := h2.l
    omega
def LaPost (b : Bool) (s : Int) (ns : List Nd) (w : World) (e : Ending) (w' : World) : Prop :=
  if b = true then ∃ M n D, e = .returned (.tuple #[.map (some M), .bool true]) ∧ w.heap.size ≤ M ∧ w'.ownsMap Tryz.prog 67 (plainElem (H := Unit) Tryz.prog 67) M n D ∧ AdD s ns ns.length D ∧ Up w w' else e = .returned (.tuple #[.map none, .bool false]) ∧ Up w w'
def LaR (s words : Int) (ns : List Nd) (M : Nat) (w : World) (u9 i : Value) (wr : World) : Prop :=
  ∃ (k : Nat) (D : DataW Unit), k ≤ ns.length ∧ i = .int .i64 k ∧ u9 = .int .i64 (ofs ns k : Nat) ∧ wr.ownsMap Tryz.prog 67 (plainElem (H := Unit) Tryz.prog 67) M k D ∧ AdD s ns k D ∧ (k = 0 ∨ (ofs ns k : Int) ≤ words) ∧ Up w wr
set_option maxRecDepth 100000 in
set_option maxHeartbeats 4000000 in
theorem laid_any (v : Value) (ns : List Nd) (words s : Int) (w : World) (hv : Ns w v ns) (hN : ∀ k, k < ns.length → NdHd (ns.getD k ndN)) (hl : ns.length ≤ 1000) (hW : I64 words) :
    Calls Tryz.prog 39 #[v, .int .i64 words, .int .i64 s] w (LaPost (decide (ns.length = 0 ∨ (tot ns : Int) ≤ words)) s ns w) := by
  obtain ⟨ob, hob⟩ : ∃ ob, decide (ns.length = 0 ∨ (tot ns : Int) ≤ words) = ob := ⟨_, rfl⟩
  rw [hob]
  have HOB := Lib.hid hob
  clear hob
  obtain ⟨A, c, rfl, m1⟩ := hv.slice
  have HNA : Hid (∀ x, x < ns.length → ∃ p Af cf, A = some p ∧ ∀ W', Up w W' → p.block < W'.heap.size ∧ NdAt W' (p.add (x * 4)) (ns.getD x ndN) (.slice Af (ns.getD x ndN).2.length cf)) := Lib.hid (fun x hx => by
    obtain ⟨p, u, e, h1, h2⟩ := hv.at_ hx
    obtain ⟨Af, cf, rfl⟩ := h2.slice
    have hl := lt_of_cell h1.1
    rw [block_of_add] at hl
    exact ⟨p, Af, cf, e, fun W' k => ⟨k.lt hl, ⟨k.cell h1.1, k.cell h1.2.1, k.cell h1.2.2.1, k.cell h1.2.2.2⟩⟩⟩)
  have HND := Lib.hid hN
  have HOF := Lib.hid (fun k hk => ofs_small hN k hk)
  have HLN := Lib.hid hl
  have HW := Lib.hid hW
  obtain ⟨n, hn⟩ : ∃ n, ns.length = n := ⟨_, rfl⟩
  have HNN := Lib.hid hn
  rw [hn] at HNA m1 HND HOF HLN ⊢
  have hmm := @run_makeMap Tryz.prog
  have hmade := World.ownsMap_made w Tryz.prog 67 (plainElem (H := Unit) Tryz.prog 67)
  have HST : Hid (LaR s words ns w.heap.size w (.int .i64 ((ofs ns 0 : Nat) : Int)) (.int .i64 ((0 : Nat) : Int)) _) := Lib.hid ⟨0, _, Nat.zero_le _, rfl, rfl, hmade, AdD.nil s ns, .inl rfl, (Up.refl w).alloc _⟩
  rw [ofs_0] at HST
  clear hv hN hl hW hn hmade
  go_enter Tryz.func39, Tryz.ntmps39
  go_wp2_with (fail)
  go_loopw [9, 16] (fun u i wr => LaR s words ns w.heap.size w u i wr) (fun _ i _ => n - (intOf i).toNat)
  case atStart => exact HST.out
  case round =>
    rename World => wr
    obtain ⟨x, D, hx, rfl, rfl, hp, hD, hfw, U⟩ := hrel
    rw [HNN.out] at hx
    by_cases hlt : x < n
    · obtain ⟨p, Af, cf, e1, hat⟩ := HNA.out x hlt
      subst e1
      have hnh := HND.out x hlt
      have hst := ofs_step (show x < ns.length by rw [HNN.out]; exact hlt)
      obtain ⟨z0, z1, z2, z3, z4⟩ := hat wr U
      obtain ⟨ln, hln⟩ : ∃ ln, (ns.getD x ndN).2.length = ln := ⟨_, rfl⟩
      obtain ⟨t, ht⟩ : ∃ t, (ns.getD x ndN).1.1 = t := ⟨_, rfl⟩
      obtain ⟨l, hl⟩ : ∃ l, (ns.getD x ndN).1.2.1 = l := ⟨_, rfl⟩
      obtain ⟨mp, hmp⟩ : ∃ mp, (ns.getD x ndN).1.2.2 = mp := ⟨_, rfl⟩
      have hdk := hnh.h
      have hll := hnh.l
      rw [ht, hl, hmp] at hdk
      rw [hln, hl] at hll
      rw [hln] at hst
      obtain ⟨l0, l1, l2, l3⟩ := hdk.len
      rw [ht] at z1
      rw [hl] at z2
      rw [hmp] at z3
      rw [hln] at z4
      have HWD := Lib.hid (fun V => by
        have h := words_any t l mp hdk.m hdk.r V
        rw [l3] at h
        exact h)
      have ho1 := HOF.out x (by omega)
      have ho2 := HOF.out (x + 1) (by omega)
      have hn9 := HLN.out
      have HFT := Lib.hid (fun V => fits_any (ofs ns x : Nat) (l + 2) words (by unfold I64; omega) (by unfold I64; omega) HW.out V)
      have HAD := Lib.hid (fun V => addr_gen s (ofs ns x : Nat) (by omega) (by omega) V)
      have hau := adg_u64 s (p := (ofs ns x : Nat)) (by omega) (by omega)
      have HST1 := Lib.hid hst
      have HPM := Lib.hid hp
      have HU := Lib.hid U
      have HDN := Lib.hid hD.new
      clear hat hnh ht hl hmp hln hdk hp hD U
      by_cases hfit : fit (ofs ns x : Nat) (l + 2) words
      · have hfb : fitb (ofs ns x : Nat) (l + 2) words = true := decide_eq_true hfit
        rw [hfb] at HFT
        have hfw2 : (ofs ns (x + 1) : Int) ≤ words := by have := hfit.2.2; omega
        have hwu : IntKind.u64.wrap ((x : Int) + 1) = (x : Int) + 1 := by rw [IntKind.wrap_u64]; omega
        have hkey := key_of (a := (x : Int) + 1) (by unfold U64; omega)
        clear hfit hfb
        go_wp2_with (fail)
        refine (HWD.out _).mono ?_
        rintro e w3 ⟨rfl, k3⟩
        have HU3 := Lib.hid ((HU.out.alloc (.cells #[.int .i64 t, .int .i64 l, .int .u64 mp, .slice Af ln cf] 71)).trans k3)
        have HPM3 := Lib.hid ((HPM.out.kept ((Up.refl wr).alloc (.cells #[.int .i64 t, .int .i64 l, .int .u64 mp, .slice Af ln cf] 71)).gb (by simp)).kept k3.gb (by simp))
        clear k3 z0 z1 z2 z3 z4
        go_wp2_with (fail)
        refine (HFT.out _).mono ?_
        rintro e w4 ⟨rfl, k4⟩
        have HU4 := Lib.hid (HU3.out.trans k4)
        have HPM4 := Lib.hid (HPM3.out.kept k4.gb (by simp))
        clear k4
        go_wp2_with (fail)
        refine (HAD.out _).mono ?_
        rintro e w5 ⟨rfl, rfl⟩
        have hp4 := HPM4.out
        go_wp2_with (at_mapUpdate; refine wpList_mapUpdate_own _ rfl _ _ _ 76 rfl 67 67 law64 Tryz.underlying76 _ w.heap.size x D rfl hp4 (by unfold maxLen; omega) _ _ _ rfl rfl hkey _ [] (plainElem_int Tryz.underlying67 (wf_of_u64 hau)) ?_; intro w6 hown6 hgrow6)
        have hU6 := HU4.out.grown hgrow6 (fun g e => by injection e with e; rw [← e]; exact Nat.le_refl _)
        refine ⟨⟨x + 1, _, by rw [HNN.out]; omega, by go_num, ?_, hown6, HDN.out, .inr hfw2, hU6⟩, by simp [intOf]; omega⟩
        rw [hst]
        go_num
      · have hfb : fitb (ofs ns x : Nat) (l + 2) words = false := decide_eq_false hfit
        rw [hfb] at HFT
        have hob : ob = false := by
          rw [← HOB.out]
          refine decide_eq_false (fun q => hfit ⟨by omega, by omega, ?_⟩)
          have h1 := ofs_tot (ns := ns) (k := x + 1) (by rw [HNN.out]; omega)
          have h2 := HNN.out
          omega
        subst hob
        clear hfit hfb
        go_wp2_with (fail)
        refine (HWD.out _).mono ?_
        rintro e w3 ⟨rfl, k3⟩
        have HU3 := Lib.hid ((HU.out.alloc (.cells #[.int .i64 t, .int .i64 l, .int .u64 mp, .slice Af ln cf] 71)).trans k3)
        clear k3 z0 z1 z2 z3 z4
        go_wp2_with (fail)
        refine (HFT.out _).mono ?_
        rintro e w4 ⟨rfl, k4⟩
        have HU4 := Lib.hid (HU3.out.trans k4)
        clear k4
        go_wp2
        go_ret2
        unfold LaPost
        rw [if_neg (by decide)]
        exact ⟨rfl, HU4.out⟩
    · obtain rfl : x = n := by omega
      have hob : ob = true := by
        rw [← HOB.out]
        refine decide_eq_true ?_
        rw [HNN.out]
        rcases hfw with q | q
        · exact .inl q
        · right
          rw [← ofs_all, HNN.out]
          exact q
      subst hob
      have HPM := Lib.hid hp
      have HDD := Lib.hid hD
      have HU := Lib.hid U
      clear hp hD U hfw
      go_wp2
      go_ret2
      unfold LaPost
      rw [if_pos rfl]
      exact ⟨_, _, _, rfl, Nat.le_refl _, HPM.out, by rw [HNN.out]; exact HDD.out, HU.out⟩
end Go.Proofs.YtanhhkdoejnpiaaGreat.G
