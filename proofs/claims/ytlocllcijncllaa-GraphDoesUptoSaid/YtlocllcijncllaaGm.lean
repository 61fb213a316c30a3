/- Steps in a row, done till one refuses (graph.inOrder); a deed's map of kinds (graph's deed: kinds): contracts. -/
import Derived.Test.YtlocllcijncllaaGl
namespace Go.Proofs.Ytlocllcijncllaa
open Go.Joins Go.ChangeShapes Go.WideShapes Go.ChangeAt Go.RowKit Go.Deep Go.Shelf Go.Maps
set_option linter.unusedVariables false
set_option linter.unusedSimpArgs false

/-- A method of the deed, as a value. -/
def fnm (D : Nat) (f : FuncId) : Value := .func (.func f) #[.pointer (some ⟨D, 0, none⟩)] #[]
/-- Steps that come to Φ, done one after the other till one refuses. -/
def Run (base D : Nat) (Φ : Int → World → Prop) : List FuncId → World → Prop
  | [], w => ∀ w', Up w w' → Φ 0 w'
  | f :: fs, w => (∀ args w, (callFunc f args).run Try.prog w = .ok (.enter f args) w) ∧ ∀ w0, Up w w0 → Calls Try.prog f #[.pointer (some ⟨D, 0, none⟩)] w0 fun e w' => ∃ x : Int, e = .returned (.int .i64 x) ∧ Kf base w0 w' ∧ (x ≠ 0 → ∀ w'', Up w' w'' → Φ x w'') ∧ (x = 0 → Run base D Φ fs w')
theorem Run.up {base D : Nat} {Φ : Int → World → Prop} {fs : List FuncId} {w w' : World} (h : Run base D Φ fs w) (k : Up w w') : Run base D Φ fs w' := by
  cases fs with
  | nil => exact fun w'' q => h w'' (k.trans q)
  | cons c cs => exact ⟨h.1, fun w'' q => h.2 w'' (k.trans q)⟩
def RunP (base : Nat) (Φ : Int → World → Prop) (w : World) (e : Ending) (w' : World) : Prop := ∃ x : Int, e = .returned (.int .i64 x) ∧ Kf base w w' ∧ Φ x w'
def RunRel (base D : Nat) (Φ : Int → World → Prop) (fs : List FuncId) (w : World) (i : Value) (wr : World) : Prop := ∃ j : Nat, j ≤ fs.length ∧ i = .int .i64 j ∧ Kf base w wr ∧ Run base D Φ (fs.drop j) wr
set_option maxHeartbeats 1000000 in
theorem inord_any (base D : Nat) (Φ : Int → World → Prop) (fs : List FuncId) (n : Nat) (hn : fs.length = n) (hn8 : n ≤ 8) (B G : Nat) (w : World) (hB : Blk w B 105 #[.slice (some ⟨G, 0, none⟩) n n]) (hG : Blk w G 71 (fs.map (fnm D)).toArray) (hr : Run base D Φ fs w) :
    Calls Try.prog 76 #[.pointer (some ⟨B, 0, none⟩)] w (RunP base Φ w) := by
  have hcB := hB.cell
  have hlB := hB.lt
  have HG := Lib.hid hG
  have HR := Lib.hid hr
  have HN := Lib.hid hn
  clear hB hG hr hn
  go_enter Try.func76, Try.ntmps76
  go_wp2
  go_loopw [7] (fun i wr => RunRel base D Φ fs w i wr) (fun i _ => n - (intOf i).toNat)
  case atStart => exact ⟨0, Nat.zero_le _, rfl, Kf.refl _ _, HR.out⟩
  case round =>
    obtain ⟨j, hj, rfl, hk, hr⟩ := hrel
    rw [HN.out] at hj
    by_cases hlt : j < n
    · have hjl : j < fs.length := by rw [HN.out]; exact hlt
      rw [List.drop_eq_getElem_cons hjl] at hr
      have hcell := (hk.fns _ _ _ (.inl rfl) HG.out).cell j
      rw [show (fs.map (fnm D)).toArray[j]? = some (fnm D fs[j]) from by simp [hjl]] at hcell
      obtain ⟨f, hf⟩ : ∃ c, fs[j] = c := ⟨_, rfl⟩
      rw [hf] at hr hcell
      have HC := Lib.hid (hr.2 _ (Up.refl _))
      have hent := hr.1
      have HK := Lib.hid hk
      clear hf hr hk hjl
      unfold fnm at hcell
      go_wp2_with (fail)
      refine HC.out.mono ?_
      rintro e w1 ⟨x, rfl, hk1, hx, hn1⟩
      by_cases e : x = 0
      · subst e
        have HNX := Lib.hid (hn1 rfl)
        have HK1 := Lib.hid hk1
        clear hx hn1 hk1
        go_wp2
        refine ⟨⟨j + 1, by rw [HN.out]; omega, by go_num, HK.out.trans HK1.out, HNX.out⟩, by simp [intOf]; omega⟩
      · have HX := Lib.hid (hx e)
        have hb : (x != 0) = true := bne_iff_ne.mpr e
        have HK1 := Lib.hid hk1
        clear hx hn1 e hk1
        go_wp2
        go_ret
        exact ⟨x, rfl, HK.out.trans HK1.out, HX.out _ (Up.refl _)⟩
    · obtain rfl : j = n := by omega
      rw [List.drop_eq_nil_of_le (by rw [HN.out]; exact Nat.le_refl _)] at hr
      have HR2 := Lib.hid hr
      have HK := Lib.hid hk
      clear hr hk
      go_wp2
      go_ret
      exact ⟨0, rfl, HK.out, HR2.out _ (Up.refl _)⟩
theorem inord_nil (base : Nat) (Φ : Int → World → Prop) (B : Nat) (w : World) (hB : Blk w B 105 #[.slice none 0 0]) (hr : ∀ w', Up w w' → Φ 0 w') :
    Calls Try.prog 76 #[.pointer (some ⟨B, 0, none⟩)] w (RunP base Φ w) := by
  have hcB := hB.cell
  have hlB := hB.lt
  have HR := Lib.hid hr
  clear hB hr
  go_enter Try.func76, Try.ntmps76
  go_wp2
  go_loopw [7] (fun i wr => i = .int .i64 0 ∧ w = wr) (fun i _ => 0)
  case atStart => exact ⟨rfl, rfl⟩
  case round =>
    obtain ⟨rfl, rfl⟩ := hrel
    go_wp2
    go_ret
    exact ⟨0, rfl, Kf.refl _ _, HR.out _ (Up.refl _)⟩
/-- Steps as one function. -/
theorem inorder_any (v : Value) (A : Option Addr) (n c : Nat) (w : World) (hv : v = .slice A n c) : Calls Try.prog 56 #[v] w fun e w' => ∃ B, e = .returned (.func (.func 76) #[] #[.pointer (some ⟨B, 0, none⟩)]) ∧ Blk w' B 105 #[v] ∧ Up w w' := by
  subst hv
  go_enter Try.func56, Try.ntmps56
  go_wp2
  go_ret
  exact ⟨_, rfl, Blk.new _ _ _, (Up.refl _).alloc _⟩
end Go.Proofs.Ytlocllcijncllaa
