/- few (dovecotelaw16.few): contract. -/
import Derived.Test.YtanhhkdoejnpiaaGreatWa
namespace Go.Proofs.YtanhhkdoejnpiaaGreat.G
open Go.Joins Go.ChangeShapes Go.WideShapes Go.ChangeAt Go.RowKit Go.Deep Go.Shelf Go.Maps
set_option linter.unusedVariables false
set_option linter.unusedSimpArgs false

def fewb (N : Int) (n0 n1 : Nat) (L : List (List Int)) : Bool := rt N n0 n1 && (decide (N ≤ 200) && (decide (L.length ≤ 10) && decide ((K.unq L.flatten).length ≤ 100)))
set_option maxRecDepth 100000 in
set_option maxHeartbeats 4000000 in
theorem few_any (N : Int) (A0 A1 : Option Addr) (n0 n1 c0 c1 : Nat) (v : Value) (L : List (List Int)) (w : World) (hL : K.Rw w v L) (hN : L.flatten.length ≤ 1048576) :
    Calls Tryz.prog 9 #[.agg #[.int .i64 N, .slice A0 n0 c0, .slice A1 n1 c1], v] w fun e w' => e = .returned (.bool (fewb N n0 n1 L)) ∧ Up w w' := by
  have HR := Lib.hid (fun V => rmright_any N A0 A1 n0 n1 c0 c1 V)
  have HA := Lib.hid (fun V (k : Up w V) => K.rall_any v L V (hL.up k) (by omega))
  obtain ⟨A, c, rfl, -⟩ := hL
  unfold fewb
  generalize rt N n0 n1 = r at *
  have HQ : Hid ((K.unq L.flatten).length ≤ 1048576) := Lib.hid (by have := K.unq_len L.flatten; omega)
  generalize L.length = n at *
  clear hN
  generalize K.unq L.flatten = q at *
  obtain ⟨b1, hb1⟩ : ∃ b, decide (N ≤ 200) = b := ⟨_, rfl⟩
  obtain ⟨b2, hb2⟩ : ∃ b, decide (n ≤ 10) = b := ⟨_, rfl⟩
  have hb2' : decide ((n : Int) ≤ 10) = b2 := by rw [← hb2]; congr 1; exact propext (by omega)
  obtain ⟨b3, hb3⟩ : ∃ b, decide (q.length ≤ 100) = b := ⟨_, rfl⟩
  have hb3' : decide ((q.length : Int) ≤ 100) = b3 := by rw [← hb3]; congr 1; exact propext (by omega)
  rw [hb1, hb2, hb3]
  clear hb2 hb3
  have k1 : Up w (w.alloc (.cells #[.int .i64 N, .slice A0 n0 c0, .slice A1 n1 c1] 25)) := (Up.refl w).alloc _
  have HK1 := Lib.hid k1
  have bM := Blk.new w 25 #[.int .i64 N, .slice A0 n0 c0, .slice A1 n1 c1]
  have HBM := Lib.hid bM
  clear k1 bM
  cases r
  · go_enter Tryz.func9, Tryz.ntmps9
    go_wp2_with (fail)
    refine (HR.out _).mono ?_
    rintro e w2 ⟨rfl, k2⟩
    go_wp2
    go_ret
    exact ⟨rfl, HK1.out.trans k2⟩
  cases b1
  · go_enter Tryz.func9, Tryz.ntmps9
    go_wp2_with (fail)
    refine (HR.out _).mono ?_
    rintro e w2 ⟨rfl, k2⟩
    have bM2 := HBM.out.up k2
    have hc := bM2.cell
    have hl := bM2.lt
    go_wp2
    go_ret
    exact ⟨rfl, HK1.out.trans k2⟩
  cases b2
  · go_enter Tryz.func9, Tryz.ntmps9
    go_wp2_with (fail)
    refine (HR.out _).mono ?_
    rintro e w2 ⟨rfl, k2⟩
    have bM2 := HBM.out.up k2
    have hc := bM2.cell
    have hl := bM2.lt
    go_wp2
    go_ret
    exact ⟨rfl, HK1.out.trans k2⟩
  · go_enter Tryz.func9, Tryz.ntmps9
    go_wp2_with (fail)
    refine (HR.out _).mono ?_
    rintro e w2 ⟨rfl, k2⟩
    have bM2 := HBM.out.up k2
    have hc := bM2.cell
    have hl := bM2.lt
    have HK2 := Lib.hid (HK1.out.trans k2)
    clear k2 bM2
    go_wp2_with (fail)
    refine (HA.out _ HK2.out).mono ?_
    rintro e w3 ⟨u, rfl, hlo, k3⟩
    obtain ⟨Au, cu, rfl, -⟩ := hlo.sl
    clear hlo
    have HK3 := Lib.hid (HK2.out.trans k3)
    clear k3 hc hl
    go_wp2
    go_ret
    exact ⟨by simp, HK3.out⟩
theorem run_makeRowsW (n : Nat) (hn : n ≤ 1048576) (w : World) :
    (Instr.makeSlice 26 (.int .i64 (n : Int)) (.int .i64 (n : Int))).run Tryz.prog w = .ok (.slice (some ⟨w.heap.size, 0, none⟩) n n) (w.alloc (.cells (List.replicate n (Value.slice none 0 0)).toArray 22)) := by
  have := run_make_row' (P := Tryz.prog) 26 22 (.slice none 0 0) 24 Tryz.underlying26 (by kernel_rfl) rfl .i64 .i64 n (by omega) (by omega) w
  rw [show madeCells #[Value.slice none 0 0] n = (List.replicate n (Value.slice none 0 0)).toArray from by
    apply Array.ext
    · simp [size_madeCells]
    · intro i h1 h2
      simp [madeCells, Nat.mod_one]] at this
  exact this
theorem rw_nils {w : World} {G n : Nat} (h : Blk w G 22 (List.replicate n (Value.slice none 0 0)).toArray) (hn : n ≤ maxLen) : Rw .u64 w (.slice (some ⟨G, 0, none⟩) n n) (List.replicate n []) := by
  refine ⟨List.replicate n (.slice none 0 0), some ⟨G, 0, none⟩, n, by simp, by simp, hn, fun e => (by cases e), rv_of_blk h (fun j v hj => by rw [List.getElem?_toArray]; exact hj), by simp, fun j u xs h1 h2 => ?_⟩
  rw [List.getElem?_replicate] at h1 h2
  split at h1
  · cases h1
    rw [if_pos (by assumption)] at h2
    cases h2
    exact Sl.nil _ _
  · cases h1
end Go.Proofs.YtanhhkdoejnpiaaGreat.G
