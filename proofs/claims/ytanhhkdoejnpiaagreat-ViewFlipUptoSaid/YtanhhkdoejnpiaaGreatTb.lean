/- small (dovecotelaw16.small): contract. -/
import Derived.Test.YtanhhkdoejnpiaaGreatGf
namespace Go.Proofs.YtanhhkdoejnpiaaGreat.G
open Go.Joins Go.ChangeShapes Go.WideShapes Go.ChangeAt Go.RowKit Go.Deep Go.Shelf Go.Maps
set_option linter.unusedVariables false
set_option linter.unusedSimpArgs false

def smallb (g : Gr) : Bool := rgB g && (decide (g.1.length ≤ 40) && decide (g.2.length ≤ 20))
set_option maxRecDepth 100000 in
set_option maxHeartbeats 4000000 in
theorem small_any (v : Value) (g : Gr) (w : World) (hg : GrV w v g) (hM : ∀ n ∈ g.1, 0 ≤ n.1.2.2 ∧ n.1.2.2 ≤ 18446744073709551615) :
    Calls Tryz.prog 10 #[v] w fun e w' => e = .returned (.bool (smallb g)) ∧ Up w w' := by
  have HR := Lib.hid (fun V (k : Up w V) => rright15_any v g V (hg.up k) hM)
  obtain ⟨A, c, B, d, rfl, m1, m2⟩ := hg.form
  unfold smallb
  clear hg hM
  generalize rgB g = r at *
  generalize g.1.length = n at *
  generalize g.2.length = m at *
  obtain ⟨b1, hb1⟩ : ∃ b, decide (n ≤ 40) = b := ⟨_, rfl⟩
  have hb1' : decide ((n : Int) ≤ 40) = b1 := by rw [← hb1]; congr 1; exact propext (by omega)
  obtain ⟨b2, hb2⟩ : ∃ b, decide (m ≤ 20) = b := ⟨_, rfl⟩
  have hb2' : decide ((m : Int) ≤ 20) = b2 := by rw [← hb2]; congr 1; exact propext (by omega)
  rw [hb1, hb2]
  clear hb1 hb2
  have HK1 : Hid (Up w (w.alloc (.cells #[.slice A n c, .slice B m d] 30))) := Lib.hid ((Up.refl w).alloc _)
  have HBM := Lib.hid (Blk.new w 30 #[.slice A n c, .slice B m d])
  cases r <;> cases b1
  all_goals
    go_enter Tryz.func10, Tryz.ntmps10
    go_wp2_with (fail)
    refine (HR.out _ HK1.out).mono ?_
    rintro e w2 ⟨rfl, k2⟩
    have bM2 := HBM.out.up k2
    have hc := bM2.cell
    have hl := bM2.lt
    go_wp2
    go_ret
    exact ⟨by simp, HK1.out.trans k2⟩
end Go.Proofs.YtanhhkdoejnpiaaGreat.G
