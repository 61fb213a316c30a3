/- Where nodes' objects go (view.laid), and an address of a number (view.Put's closure): contracts. -/
import Derived.Test.YtanhhkdoejnpiaaGreatRe
import Derived.Test.YtanhhkdoejnpiaaGreatVc
namespace Go.Proofs.YtanhhkdoejnpiaaGreat.G
open Go.Joins Go.ChangeShapes Go.WideShapes Go.ChangeAt Go.RowKit Go.Deep Go.Shelf Go.Maps
set_option linter.unusedVariables false
set_option linter.unusedSimpArgs false

/-- An address in a space that may be none. -/
def adg (s p : Int) : Int := if s = 0 ∨ s = 1 then adr s p else 0
theorem adg_u64 (s : Int) {p : Int} (h1 : 0 ≤ p) (h2 : p < 4294967296) : U64 (adg s p) := by
  unfold adg
  split
  · rename_i h; exact adr_u64 h h1 h2
  · exact u64_0
set_option maxHeartbeats 400000 in
theorem addr_gen (s p : Int) (h1 : 0 ≤ p) (h2 : p < 4294967296) (w : World) :
    Calls Tryz.prog 85 #[.int .i64 s, .int .i64 p] w fun e w' => e = .returned (.int .u64 (adg s p)) ∧ w = w' := by
  by_cases h : s = 0 ∨ s = 1
  · rw [show adg s p = adr s p from if_pos h]
    exact addr_ok s p h h1 h2 w
  · rw [show adg s p = 0 from if_neg h]
    by_cases hn : s < 0
    · have hd : decide (s < 0) = true := decide_eq_true hn
      clear h h1 h2
      go_enter Tryz.func85, Tryz.ntmps85
      go_wp2
      go_ret
      exact ⟨rfl, rfl⟩
    · have hd : decide (s < 0) = false := decide_eq_false hn
      have hd2 : decide ((2 : Int) ≤ s) = true := decide_eq_true (by omega)
      clear h h1 h2
      go_enter Tryz.func85, Tryz.ntmps85
      go_wp2
      go_ret
      exact ⟨rfl, rfl⟩
/-- Numbers' addresses, where so many are told. -/
def AdK (s : Int) (ns : List Nd) (k : Nat) (a : Int) : Int := if 1 ≤ a ∧ a ≤ k then adg s (ofs ns (a.toNat - 1)) else 0
theorem AdK_all {s : Int} (hs : s = 0 ∨ s = 1) (ns : List Nd) (a : Int) : AdK s ns ns.length a = Adr s ns a := by
  by_cases h : 1 ≤ a ∧ a ≤ ns.length
  · rw [show AdK s ns ns.length a = _ from if_pos h, show Adr s ns a = _ from if_pos h]
    exact if_pos hs
  · rw [show AdK s ns ns.length a = 0 from if_neg h, show Adr s ns a = 0 from if_neg h]
structure AdD (s : Int) (ns : List Nd) (k : Nat) (D : DataW Unit) : Prop where
  m : IsMap D
  v : ∀ a, D.atKey (.int .u64 a) (.lit (.int .u64 0)) = .lit (.int .u64 (AdK s ns k a))
theorem AdD.nil (s : Int) (ns : List Nd) : AdD s ns 0 (.map []) := by
  refine ⟨⟨_, rfl⟩, fun a => ?_⟩
  rw [show AdK s ns 0 a = 0 from if_neg (by omega)]
  rfl
theorem AdD.new {s : Int} {ns : List Nd} {k : Nat} {D : DataW Unit} (h : AdD s ns k D) : AdD s ns (k + 1) (D.put (.int .u64 ((k : Int) + 1)) (.lit (.int .u64 (adg s (ofs ns k))))) := by
  obtain ⟨es, rfl⟩ := h.m
  refine ⟨⟨_, rfl⟩, fun a => ?_⟩
  by_cases q : a = (k : Int) + 1
  · subst q
    rw [Maps.atKey_put_same h.m (show WideAt.IsKeyLit (.int .u64 ((k : Int) + 1)) from trivial)]
    rw [show AdK s ns (k + 1) ((k : Int) + 1) = _ from if_pos (by omega)]
    rw [show ((k : Int) + 1).toNat - 1 = k from by omega]
  · rw [Maps.atKey_put_other (fun e => q (by injection e)), h.v a]
    unfold AdK
    by_cases r : 1 ≤ a ∧ a ≤ k
    · rw [if_pos r, if_pos (by omega)]
    · rw [if_neg r, if_neg (by omega)]
/-- The map's box, and what it holds. -/
def AdBox (w : World) (B M : Nat) (s : Int) (ns : List Nd) (k : Nat) : Prop := Blk w B 76 #[.map (some M)] ∧ ∃ n D, w.ownsMap Tryz.prog 67 (plainElem (H := Unit) Tryz.prog 67) M n D ∧ AdD s ns k D
theorem AdBox.up {w w' : World} {B M : Nat} {s : Int} {ns : List Nd} {k : Nat} (h : AdBox w B M s ns k) (u : Up w w') : AdBox w' B M s ns k := by
  obtain ⟨h1, n, D, h2, h3⟩ := h
  exact ⟨h1.up u, n, D, h2.kept u.gb (by simp), h3⟩
set_option maxRecDepth 100000 in
set_option maxHeartbeats 1000000 in
theorem address_any (a : Int) (B M k : Nat) (s : Int) (ns : List Nd) (w : World) (ha : U64 a) (h : AdBox w B M s ns k) :
    Calls Tryz.prog 40 #[.int .u64 a, bx B] w fun e w' => e = .returned (.int .u64 (AdK s ns k a)) ∧ w' = w := by
  obtain ⟨hB, n, D, hp, hD⟩ := h
  have hc := hB.cell
  have hbt := hB.lt
  have hkey := key_of ha
  have HE : Hid (∀ c, D.atKey (.int .u64 a) (.lit (.int .u64 0)) = .lit (.int .u64 c) → c = AdK s ns k a) := Lib.hid (fun c hat => by
    rw [hD.v a] at hat
    injection hat with hat
    injection hat with _ hat
    exact hat.symm)
  clear hD hB ha
  go_enter Tryz.func40, Tryz.ntmps40
  go_wp2_with (at_lookup; refine wpList_lookup_own_int _ rfl _ _ 76 rfl 67 67 .u64 law64 Tryz.underlying76 Tryz.underlying67 (zeroU _) M n D rfl hp _ _ rfl hkey ?_; intro c hat hwc)
  go_ret
  exact ⟨by rw [HE.out c hat]; rfl, rfl⟩
end Go.Proofs.YtanhhkdoejnpiaaGreat.G
