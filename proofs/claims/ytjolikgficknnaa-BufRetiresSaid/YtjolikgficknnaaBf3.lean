/- Package buf: objects of a head, made off a row of words (maker, and the closure that it makes): contracts. -/
import Derived.Test.YtjolikgficknnaaBf2
namespace Go.Proofs.Ytjolikgficknnaa
open Go.ChangeShapes Go.WideShapes Go.ChangeAt Go.RowKit
set_option linter.unusedVariables false
set_option linter.unusedSimpArgs false

theorem maker_any (t l mp : Int) (w : World) :
    Calls Try.prog 22 #[hdv t l mp] w fun e w' => e = .returned (.func (.func 34) #[] #[.pointer (some ⟨w.heap.size, 0, none⟩)]) ∧ Up w w' ∧ Blk w' w.heap.size 39 (hcs t l mp) := by
  have hmf : ∀ (fn : Fn) (first cap : Array Value) (w : World), (Instr.makeFunc fn first cap).run Try.prog w = .ok (.func fn first cap) w := fun _ _ _ _ => rfl
  go_enter Try.func22, Try.ntmps22
  go_wp2
  go_ret
  exact ⟨rfl, (Up.refl _).alloc _, Blk.new _ _ _⟩

/-- What the closure leaves. -/
def MadePost (w : World) (m : Me) (at_ adr_ z : Int) (e : Ending) (w' : World) : Prop :=
  ∃ P Q c d, e = .returned (.tuple #[.agg #[.int .i64 m.n, .slice (some P) m.n c, .slice (some Q) m.n d], .int .i64 at_, .int .u64 adr_, .int .i64 z]) ∧ Sits w' m P Q c d ∧ Up w w'

theorem Up.le {a b : World} (h : Up a b) : a.heap.size ≤ b.heap.size := h.size
/-- A world under a name, of which only what is asked for is known. -/
theorem gen_exit {R : Exit → Act → World → Prop} {Y : World → Prop} {e : Exit} {a : Act} {X : World} (y : Y X) (h : ∀ W, Y W → R e a W) : R e a X := h X y
theorem ret_mem4 {fn : Func} {p u v x : Tmp} (h : fn.results = #[.cell p 25, .tmp u, .tmp v, .tmp x]) (tmps : Array Value) (w : World) (g : Nat) (c0 c1 c2 b e f : Value)
    (hp : tmps.getD p undef = .pointer (some ⟨g, 0, none⟩)) (hg : Blk w g 25 #[c0, c1, c2]) (hb : tmps.getD u undef = b) (he : tmps.getD v undef = e) (hf : tmps.getD x undef = f) :
    (results fn tmps).run Try.prog w = .ok (.tuple #[.agg #[c0, c1, c2], b, e, f]) w := by
  have hp' : tmps[p]?.getD undef = .pointer (some ⟨g, 0, none⟩) := by simpa using hp
  have hb' : tmps[u]?.getD undef = b := by simpa using hb
  have he' : tmps[v]?.getD undef = e := by simpa using he
  have hf' : tmps[x]?.getD undef = f := by simpa using hf
  simp [results, h, hp', hb', he', hf', asAddr, run_loadVar_row w g 25 25 _ _ _ hg Try.underlying25 rfl (by kernel_rfl)]
theorem three8 {w V : World} {c0 c1 c2 : Array Value} {t0 t1 t2 : TypeId} (h : V = ((w.alloc (.cells c0 t0)).alloc (.cells c1 t1)).alloc (.cells c2 t2)) : Up w V ∧ Blk V w.heap.size t0 c0 ∧ Blk V (w.heap.size + 1) t1 c1 ∧ Blk V (w.heap.size + 1 + 1) t2 c2 := by
  subst h
  exact ⟨(((Up.refl w).alloc _).alloc _).alloc _, ((Blk.new' w rfl _ _).alloc _).alloc _, (Blk.new' _ (by simp) _ _).alloc _, Blk.new' _ (by simp) _ _⟩

set_option maxRecDepth 100000 in
set_option maxHeartbeats 2000000 in
/-- The words are there: the head is put. -/
theorem made_ok (m : Me) (P Q : Addr) (c d : Nat) (s a l t k mp : Int) (g : Nat) (w : World) (hm : Sits w m P Q c d) (hmp : 0 ≤ mp) (hh : rte t k mp = 0) (hr : rgt s a l) (hl : l ≤ m.n) (hn : wdn t k ≤ l - a) (hH : Blk w g 39 (hcs t k mp)) :
    Calls Try.prog 34 #[.agg #[.int .i64 m.n, .slice (some P) m.n c, .slice (some Q) m.n d], bv s a l, .pointer (some ⟨g, 0, none⟩)] w (MadePost w (m.putm (adr s a) t k mp) (a + wdn t k) (adr s a) 0) := by
  have hw1 := (wdn_small hmp hh).1
  have hwd := Lib.hid (fun w => words_any t k mp hmp hh w)
  have ht := Lib.hid (fun w => btake_ok s a l (wdn t k) ⟨hr, hw1, hn⟩ w)
  obtain ⟨r0, r1, r2, r3⟩ := hr
  have hA : U64 (adr s a) := by unfold U64 adr; omega
  have hz : m.pute (adr s a) t k mp = 0 := by
    refine pute_0.2 ⟨hh, ?_, ?_⟩
    · unfold whb adr
      exact decide_eq_true (by omega)
    · have : whp (adr s a) = a := by unfold whp adr; rw [if_pos (by omega)]; omega
      omega
  have hp := fun (W : World) (h : Up w W) => put_any m (adr s a) t k mp P Q c d W (hm.up h) hA hmp
  rw [hz] at hp
  have hK := put_n m (adr s a) t k mp
  generalize m.putm (adr s a) t k mp = K at hp hK ⊢
  have hp := Lib.hid hp
  have hK := Lib.hid hK
  have b1 : a + wdn t k ≤ 4096 := by omega
  have b0 : 0 ≤ a + wdn t k := by omega
  clear hA hz hm hh hmp hn
  generalize adr s a = u at ht hp ⊢
  generalize a + wdn t k = a' at ht b1 b0 ⊢
  generalize wdn t k = n at ht hwd hw1
  clear r0 r1 r2 r3 hl hw1
  go_enter Try.func34, Try.ntmps34
  go_wp2_with (fail)
  obtain ⟨V, hV⟩ : ∃ V, V = ((w.alloc (.cells #[.int .i64 m.n, .slice (some P) m.n c, .slice (some Q) m.n d] 25)).alloc (.cells #[.int .i64 s, .int .i64 a, .int .i64 l] 27)).alloc (.cells #[.int .i64 0, .slice none 0 0, .slice none 0 0] 25) := ⟨_, rfl⟩
  rw [← hV]
  have H0 : Blk V g 39 (hcs t k mp) := by rw [hV]; exact ((hH.alloc _).alloc _).alloc _
  have hg := hH.lt
  obtain ⟨U0, M0, B0, R0⟩ := three8 hV
  clear hV hH
  have V0 := (Up.refl V).drew
  go_region_held3 (fun w' => (∀ i, w'.cell? ⟨w.heap.size + 1, i, none⟩ = (#[.int .i64 s, .int .i64 a, .int .i64 l] : Array Value)[i]?) ∧ (∀ i, w'.cell? ⟨g, i, none⟩ = (hcs t k mp)[i]?))
    (first
      | with_reducible exact ⟨fun i => (Blk.up B0 (by assumption)).cell i, fun i => (Blk.up H0 (by assumption)).cell i⟩
      | with_reducible exact ⟨fun i => (Blk.up B0 (Up.drew (Up.alloc (Up.refl V) _))).cell i, fun i => (Blk.up H0 (Up.drew (Up.alloc (Up.refl V) _))).cell i⟩
      | with_reducible exact ⟨fun i => (Blk.up B0 (Up.alloc (by assumption) _)).cell i, fun i => (Blk.up H0 (Up.alloc (by assumption) _)).cell i⟩
      | with_reducible exact ⟨fun i => (Blk.up B0 (Up.set3 (by assumption) (by first | with_reducible exact Nat.le_refl _ | with_reducible exact Up.le (by assumption)) _ _ _)).cell i, fun i => (Blk.up H0 (Up.set3 (by assumption) (by first | with_reducible exact Nat.le_refl _ | with_reducible exact Up.le (by assumption)) _ _ _)).cell i⟩)
    (first
      | (go_at_call 21; ((with_reducible refine (hwd.out V.drew).mono ?_); rintro e wa ⟨rfl, ha⟩; have UA := Up.trans V0 ha))
      | (go_at_call 21; ((with_reducible refine (hwd.out (World.drew (V.alloc _))).mono ?_); rintro e wa ⟨rfl, ha⟩; have UA := Up.trans (Up.drew (Up.alloc (Up.refl V) _)) ha; have NA := Blk.up (Blk.drew (Blk.new V 27 #[.int .i64 0, .int .i64 0, .int .i64 0])) ha; have NAc := NA.cell; have NAf := NA.frozen; have NAl := NA.lt))
      | (go_at_call 35; ((with_reducible refine (ht.out wa).mono ?_); rintro e wz ⟨rfl, hz⟩; have UZ := Up.trans UA hz; (try have NZ := Blk.up NA hz; have NZc := NZ.cell; have NZf := NZ.frozen; have NZl := NZ.lt)))
      | (go_at_call 35; ((with_reducible refine (ht.out (wa.alloc _)).mono ?_); rintro e wz ⟨rfl, hz⟩; have UZ := Up.trans (UA.alloc _) hz; have NZ := Blk.up (Blk.new wa 27 #[.int .i64 0, .int .i64 0, .int .i64 0]) hz; have NZc := NZ.cell; have NZf := NZ.frozen; have NZl := NZ.lt)))
  all_goals
    rename_i hHeld
    clear hwd ht hHeld
    first
      | (refine gen_exit (Y := fun W1 => Up V W1 ∧ Blk W1 wz.heap.size 27 #[.int .i64 s, .int .i64 a', .int .i64 l] ∧ w.heap.size + 1 + 1 < wz.heap.size) ⟨UZ.alloc _, Blk.new _ _ _, Nat.lt_of_lt_of_le R0.lt UZ.le⟩ ?_)
      | (refine gen_exit (Y := fun W1 => Up V W1 ∧ Blk W1 wa.heap.size 27 #[.int .i64 s, .int .i64 a', .int .i64 l] ∧ w.heap.size + 1 + 1 < wa.heap.size) ⟨UZ.set3 UA.le _ _ _, NZ.set3 _ _ _, Nat.lt_of_lt_of_le R0.lt UA.le⟩ ?_)
      | (refine gen_exit (Y := fun W1 => Up V W1 ∧ Blk W1 V.heap.size 27 #[.int .i64 s, .int .i64 a', .int .i64 l] ∧ w.heap.size + 1 + 1 < V.heap.size) ⟨UZ.set3 (Nat.le_refl _) _ _ _, NZ.set3 _ _ _, R0.lt⟩ ?_)
    rintro W1 ⟨Y, N1, hN⟩
    have M1 := M0.up Y
    have B1 := B0.up Y
    have R1 := R0.up Y
    have H1 := H0.up Y
    have U1 := U0.trans Y
    clear Y M0 B0 R0 H0 U0
    have M1c := M1.cell
    have H1c := H1.cell
    go_wp2_with (fail)
    refine (hp.out W1 U1).mono ?_
    rintro e w2 ⟨P', Q', c', d', rfl, sz, k2⟩
    have R2 := R1.up k2
    have N2 := N1.up k2
    have U2 := U1.trans k2
    clear k2 M1c H1c M1 H1 B1 R1 N1 U1
    have R2c := R2.cell
    have R2f := R2.frozen
    have R2l := R2.lt
    have N2c := N2.cell
    have N2l := N2.lt
    go_wp2_with (fail)
    go_region
    go_wp2
    (try simp only [Exit.inBlock, Exit.then])
    refine bodyPost_ret (ret_mem4 rfl _ _ _ _ _ _ _ _ _ rfl (((R2.set3 _ _ _).alloc _).drew) rfl rfl rfl) rfl ?_
    exact ⟨P', Q', c', d', by rw [hK.out]; rfl, ((((sz.far3 R2 _ _ _).up ((Up.refl _).alloc _)).up (Up.refl _).drew)), ((U2.set3 (by omega) _ _ _).alloc _).drew⟩

set_option maxRecDepth 100000 in
set_option maxHeartbeats 2000000 in
/-- The words aren't there. -/
theorem made_full (m : Me) (P Q : Addr) (c d : Nat) (s a l t k mp : Int) (g : Nat) (w : World) (hm : Sits w m P Q c d) (hmp : 0 ≤ mp) (hh : rte t k mp = 0) (hr : rgt s a l) (hn : l - a < wdn t k) (hH : Blk w g 39 (hcs t k mp)) :
    Calls Try.prog 34 #[.agg #[.int .i64 m.n, .slice (some P) m.n c, .slice (some Q) m.n d], bv s a l, .pointer (some ⟨g, 0, none⟩)] w (MadePost w m a 0 4) := by
  have hw1 := (wdn_small hmp hh).1
  have hwd := Lib.hid (fun w => words_any t k mp hmp hh w)
  have ht := Lib.hid (fun w => take_full s a l (wdn t k) hr hw1 hn w)
  have HM := Lib.hid hm
  clear hm hh hmp hn
  generalize wdn t k = n at ht hwd hw1
  clear hr hw1
  go_enter Try.func34, Try.ntmps34
  go_wp2_with (fail)
  obtain ⟨V, hV⟩ : ∃ V, V = ((w.alloc (.cells #[.int .i64 m.n, .slice (some P) m.n c, .slice (some Q) m.n d] 25)).alloc (.cells #[.int .i64 s, .int .i64 a, .int .i64 l] 27)).alloc (.cells #[.int .i64 0, .slice none 0 0, .slice none 0 0] 25) := ⟨_, rfl⟩
  rw [← hV]
  have H0 : Blk V g 39 (hcs t k mp) := by rw [hV]; exact ((hH.alloc _).alloc _).alloc _
  have hg := hH.lt
  obtain ⟨U0, M0, B0, R0⟩ := three8 hV
  clear hV hH
  have V0 := (Up.refl V).drew
  go_region_held3 (fun w' => (∀ i, w'.cell? ⟨w.heap.size + 1, i, none⟩ = (#[.int .i64 s, .int .i64 a, .int .i64 l] : Array Value)[i]?) ∧ (∀ i, w'.cell? ⟨g, i, none⟩ = (hcs t k mp)[i]?))
    (first
      | with_reducible exact ⟨fun i => (Blk.up B0 (by assumption)).cell i, fun i => (Blk.up H0 (by assumption)).cell i⟩
      | with_reducible exact ⟨fun i => (Blk.up B0 (Up.drew (Up.alloc (Up.refl V) _))).cell i, fun i => (Blk.up H0 (Up.drew (Up.alloc (Up.refl V) _))).cell i⟩
      | with_reducible exact ⟨fun i => (Blk.up B0 (Up.alloc (by assumption) _)).cell i, fun i => (Blk.up H0 (Up.alloc (by assumption) _)).cell i⟩
      | with_reducible exact ⟨fun i => (Blk.up B0 (Up.set3 (by assumption) (by first | with_reducible exact Nat.le_refl _ | with_reducible exact Up.le (by assumption)) _ _ _)).cell i, fun i => (Blk.up H0 (Up.set3 (by assumption) (by first | with_reducible exact Nat.le_refl _ | with_reducible exact Up.le (by assumption)) _ _ _)).cell i⟩)
    (first
      | (go_at_call 21; ((with_reducible refine (hwd.out V.drew).mono ?_); rintro e wa ⟨rfl, ha⟩; have UA := Up.trans V0 ha))
      | (go_at_call 21; ((with_reducible refine (hwd.out (World.drew (V.alloc _))).mono ?_); rintro e wa ⟨rfl, ha⟩; have UA := Up.trans (Up.drew (Up.alloc (Up.refl V) _)) ha; have NA := Blk.up (Blk.drew (Blk.new V 27 #[.int .i64 0, .int .i64 0, .int .i64 0])) ha; have NAc := NA.cell; have NAf := NA.frozen; have NAl := NA.lt))
      | (go_at_call 35; ((with_reducible refine (ht.out wa).mono ?_); rintro e wz ⟨rfl, hz⟩; have UZ := Up.trans UA hz; (try have NZ := Blk.up NA hz; have NZc := NZ.cell; have NZf := NZ.frozen; have NZl := NZ.lt)))
      | (go_at_call 35; ((with_reducible refine (ht.out (wa.alloc _)).mono ?_); rintro e wz ⟨rfl, hz⟩; have UZ := Up.trans (UA.alloc _) hz; have NZ := Blk.up (Blk.new wa 27 #[.int .i64 0, .int .i64 0, .int .i64 0]) hz; have NZc := NZ.cell; have NZf := NZ.frozen; have NZl := NZ.lt)))
  all_goals
    rename_i hHeld
    clear hwd ht hHeld
    first
      | (refine gen_exit (Y := fun W1 => Up V W1 ∧ Blk W1 wz.heap.size 27 #[.int .i64 s, .int .i64 a, .int .i64 l] ∧ w.heap.size + 1 + 1 < wz.heap.size) ⟨UZ.alloc _, Blk.new _ _ _, Nat.lt_of_lt_of_le R0.lt UZ.le⟩ ?_)
      | (refine gen_exit (Y := fun W1 => Up V W1 ∧ Blk W1 wa.heap.size 27 #[.int .i64 s, .int .i64 a, .int .i64 l] ∧ w.heap.size + 1 + 1 < wa.heap.size) ⟨UZ.set3 UA.le _ _ _, NZ.set3 _ _ _, Nat.lt_of_lt_of_le R0.lt UA.le⟩ ?_)
      | (refine gen_exit (Y := fun W1 => Up V W1 ∧ Blk W1 V.heap.size 27 #[.int .i64 s, .int .i64 a, .int .i64 l] ∧ w.heap.size + 1 + 1 < V.heap.size) ⟨UZ.set3 (Nat.le_refl _) _ _ _, NZ.set3 _ _ _, R0.lt⟩ ?_)
    rintro W1 ⟨Y, N1, hN⟩
    have M1 := M0.up Y
    have B1 := B0.up Y
    have R1 := R0.up Y
    have H1 := H0.up Y
    have U1 := U0.trans Y
    clear Y M0 B0 R0 H0 U0
    have M1c := M1.cell
    have H1c := H1.cell
    have B1c := B1.cell
    have R1c := R1.cell
    have R1f := R1.frozen
    have R1l := R1.lt
    go_wp2_with (fail)
    go_region
    go_wp2
    (try simp only [Exit.inBlock, Exit.then])
    refine bodyPost_ret (ret_mem4 rfl _ _ _ _ _ _ _ _ _ rfl ((R1.set3 _ _ _).drew) rfl rfl rfl) rfl ?_
    exact ⟨P, Q, c, d, rfl, ((HM.out.up U1).far3 R1 _ _ _).up (Up.refl _).drew, (U1.set3 (by omega) _ _ _).drew⟩
end Go.Proofs.Ytjolikgficknnaa
