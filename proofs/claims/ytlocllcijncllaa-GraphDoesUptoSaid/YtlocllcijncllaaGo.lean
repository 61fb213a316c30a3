/- What threads do, plainly; a deed's rows of steps come to it: contracts. -/
import Derived.Test.YtlocllcijncllaaGn
namespace Go.Proofs.Ytlocllcijncllaa
open Go.Joins Go.ChangeShapes Go.WideShapes Go.ChangeAt Go.RowKit Go.Deep Go.Shelf Go.Maps
set_option linter.unusedVariables false
set_option linter.unusedSimpArgs false

/-- A graph is right. -/
structure Rg (g : Gr) : Prop where
  hd : ∀ n ∈ g.1, okH n.1.1 n.1.2.1 n.1.2.2 = true ∧ (n.2.length : Int) = n.1.2.1
  mp : MapOk g
  fu : ∀ n ∈ g.1, ∀ x ∈ n.2, U64 x
  pt : ∀ n ∈ g.1, ∀ i : Nat, i < n.2.length → isP n i = true → n.2.getD i 0 ≤ g.1.length
  hn : ∀ row ∈ g.2, ∀ h ∈ row, 0 ≤ h ∧ h ≤ g.1.length
theorem ndOf_mem {g : Gr} {n : Int} (h : inN g n) : ndOf g n ∈ g.1 := by
  obtain ⟨h0, h1⟩ := h
  unfold ndOf
  have : n.toNat - 1 < g.1.length := by omega
  simp [List.getD, List.getElem?_eq_getElem this]
theorem getD_mem {α : Type} {L : List α} {x : Nat} (d : α) (h : x < L.length) : L.getD x d ∈ L := by simp [List.getD, List.getElem?_eq_getElem h]
theorem okH_len {t l m : Int} (h : okH t l m = true) : 0 ≤ l ∧ l ≤ 16 := by
  unfold okH at h
  rw [Bool.and_eq_true, decide_eq_true_eq, decide_eq_true_eq] at h
  exact rte_len h.1 h.2
theorem Rg.len {g : Gr} (h : Rg g) {n : Int} (hn : inN g n) : (ndOf g n).2.length ≤ 16 := by
  obtain ⟨h1, h2⟩ := h.hd _ (ndOf_mem hn)
  have := okH_len h1
  omega
theorem Rg.row {g : Gr} (h : Rg g) {th : Int} (ht : isTh g th) : ∀ x ∈ rowOf g th, 0 ≤ x ∧ x ≤ g.1.length := h.hn _ (by
  obtain ⟨h0, h1⟩ := ht
  exact getD_mem [] (by omega))
theorem gtv_bd {g : Gr} (h : Rg g) {th : Int} (ht : isTh g th) (k : Int) : 0 ≤ gtv (rowOf g th) k ∧ gtv (rowOf g th) k ≤ g.1.length := by
  unfold gtv
  split
  · rename_i q
    exact h.row ht _ (getD_mem 0 (by omega))
  · omega
/-- The object of H. -/
abbrev hob (g : Gr) (th : Int) (o : Op) : Nd := ndOf g (gtv (rowOf g th) o.h)
/-- The field's word. -/
abbrev fwd (g : Gr) (th : Int) (o : Op) : Int := (hob g th o).2.getD o.i.toNat 0
def errG (g : Gr) (th : Int) (o : Op) : Int :=
  if o.kd = 1 then (if okH o.t o.l o.m then rme g th else 1)
  else if o.kd = 2 ∨ o.kd = 4 ∨ o.kd = 6 ∨ o.kd = 7 then (if fde g th o = 0 then (if isP (hob g th o) o.i then 8 else 0) else fde g th o)
  else if o.kd = 3 then (if fde g th o = 0 then (if isP (hob g th o) o.i then rme g th else 8) else fde g th o)
  else if o.kd = 5 then (if fde g th o = 0 then (if isP (hob g th o) o.i then gte (rowOf g th) o.k else 8) else fde g th o)
  else if o.kd = 8 then (if gte (rowOf g th) o.h = 0 then gte (rowOf g th) o.k else gte (rowOf g th) o.h)
  else if o.kd = 9 then (if gte (rowOf g th) o.h = 0 then rme g th else gte (rowOf g th) o.h)
  else if o.kd = 10 then (if rowOf g th = [] then 9 else 0)
  else if o.kd = 11 then 0 else 1
/-- What is written. -/
def wrv (g : Gr) (th : Int) (o : Op) : Int := if o.kd = 6 then Nm.addw (fwd g th o) o.v else if o.kd = 7 then Nm.mulw (fwd g th o) o.v else if o.kd = 5 then gtv (rowOf g th) o.k else o.v
def newG (g : Gr) (th : Int) (o : Op) : Gr :=
  if o.kd = 1 then pushG (allocN g o) th (g.1.length + 1)
  else if o.kd = 3 then pushG g th (fwd g th o)
  else if o.kd = 4 ∨ o.kd = 5 ∨ o.kd = 6 ∨ o.kd = 7 then setF g (gtv (rowOf g th) o.h) o.i.toNat (wrv g th o)
  else if o.kd = 9 then pushG g th (gtv (rowOf g th) o.h)
  else if o.kd = 10 then popG g th else g
def ansV (g : Gr) (th : Int) (o : Op) : Int := if o.kd = 2 then fwd g th o else 0
def ansY (g : Gr) (th : Int) (o : Op) : Bool := decide (o.kd = 8) && decide (gtv (rowOf g th) o.h = gtv (rowOf g th) o.k)
/-- An answer. -/
abbrev An := Int × Int × Bool
instance (g : Gr) (th : Int) : Decidable (isTh g th) := by unfold isTh; infer_instance
def doG (g : Gr) (th : Int) (o : Op) : Gr × An := if isTh g th then (if errG g th o = 0 then (newG g th o, (0, ansV g th o, ansY g th o)) else (g, (errG g th o, 0, false))) else (g, (1, 0, false))
/-- What the steps come to. -/
def Phi (g : Gr) (th : Int) (o : Op) (D : Nat) (x : Int) (w : World) : Prop := x = errG g th o ∧ (x = 0 → ∃ s : Kn, Fn D w (newG g th o) th o s ∧ s.e = 0 ∧ s.v = ansV g th o ∧ s.y = ansY g th o)
theorem Phi.up {g : Gr} {th : Int} {o : Op} {D : Nat} {x : Int} {w w' : World} (h : Phi g th o D x w) (u : Up w w') : Phi g th o D x w' := ⟨h.1, fun e => by
  obtain ⟨s, h1, h2⟩ := h.2 e
  exact ⟨s, h1.up u, h2⟩⟩
section
variable {base D : Nat} {g : Gr} {th : Int} {o : Op} {s s' : Kn} {x : Int} {f : FuncId} {fs : List FuncId} {w : World} {Φ : Int → World → Prop}
theorem run_step (he : ∀ args w, (callFunc f args).run Try.prog w = .ok (.enter f args) w) (hc : ∀ w0, St base D w0 g th o s → Calls Try.prog f #[.pointer (some ⟨D, 0, none⟩)] w0 (Sp base D x g th o s' w0)) (hx : x ≠ 0 → ∀ w, Φ x w) (hn : x = 0 → ∀ w, St base D w g th o s' → Run base D Φ fs w) (hS : St base D w g th o s) : Run base D Φ (f :: fs) w :=
  ⟨he, fun w0 u0 => (hc w0 (hS.up u0)).mono fun e w' ⟨h1, h2, h3⟩ => ⟨x, h1, h2, fun q w'' _ => hx q w'', fun q => hn q w' h3⟩⟩
theorem run_last {g' : Gr} (he : ∀ args w, (callFunc f args).run Try.prog w = .ok (.enter f args) w) (hc : ∀ w0, St base D w0 g th o s → Calls Try.prog f #[.pointer (some ⟨D, 0, none⟩)] w0 (Lp base D g' th o s' w0)) (hn : ∀ w, Fn D w g' th o s' → Φ 0 w) (hS : St base D w g th o s) : Run base D Φ [f] w :=
  ⟨he, fun w0 u0 => (hc w0 (hS.up u0)).mono fun e w' ⟨h1, h2, h3⟩ => ⟨0, h1, h2, fun q => absurd rfl q, fun _ w'' u => hn w'' (h3.up u)⟩⟩
end
/-- A deed at its beginning. -/
abbrev kn0 : Kn := ⟨0, 0, 0, 0, false⟩
abbrev K1 (g : Gr) (th : Int) (o : Op) : Kn := ⟨gtv (rowOf g th) o.h, 0, 0, 0, false⟩
abbrev K2 (g : Gr) (th : Int) (o : Op) : Kn := ⟨gtv (rowOf g th) o.h, gtv (rowOf g th) o.k, 0, 0, false⟩
theorem err1 {g : Gr} {th : Int} {o : Op} (h : o.kd = 1) : errG g th o = if okH o.t o.l o.m then rme g th else 1 := by unfold errG; rw [if_pos h]
theorem errS {g : Gr} {th : Int} {o : Op} (h : o.kd = 2 ∨ o.kd = 4 ∨ o.kd = 6 ∨ o.kd = 7) : errG g th o = if fde g th o = 0 then (if isP (hob g th o) o.i then 8 else 0) else fde g th o := by unfold errG; rw [if_neg (by omega), if_pos h]
theorem err3 {g : Gr} {th : Int} {o : Op} (h : o.kd = 3) : errG g th o = if fde g th o = 0 then (if isP (hob g th o) o.i then rme g th else 8) else fde g th o := by unfold errG; rw [if_neg (by omega), if_neg (by omega), if_pos h]
theorem err5 {g : Gr} {th : Int} {o : Op} (h : o.kd = 5) : errG g th o = if fde g th o = 0 then (if isP (hob g th o) o.i then gte (rowOf g th) o.k else 8) else fde g th o := by unfold errG; rw [if_neg (by omega), if_neg (by omega), if_neg (by omega), if_pos h]
theorem err8 {g : Gr} {th : Int} {o : Op} (h : o.kd = 8) : errG g th o = if gte (rowOf g th) o.h = 0 then gte (rowOf g th) o.k else gte (rowOf g th) o.h := by unfold errG; rw [if_neg (by omega), if_neg (by omega), if_neg (by omega), if_neg (by omega), if_pos h]
theorem err9 {g : Gr} {th : Int} {o : Op} (h : o.kd = 9) : errG g th o = if gte (rowOf g th) o.h = 0 then rme g th else gte (rowOf g th) o.h := by unfold errG; rw [if_neg (by omega), if_neg (by omega), if_neg (by omega), if_neg (by omega), if_neg (by omega), if_pos h]
theorem err10 {g : Gr} {th : Int} {o : Op} (h : o.kd = 10) : errG g th o = if rowOf g th = [] then 9 else 0 := by unfold errG; rw [if_neg (by omega), if_neg (by omega), if_neg (by omega), if_neg (by omega), if_neg (by omega), if_neg (by omega), if_pos h]
theorem err11 {g : Gr} {th : Int} {o : Op} (h : o.kd = 11) : errG g th o = 0 := by unfold errG; rw [if_neg (by omega), if_neg (by omega), if_neg (by omega), if_neg (by omega), if_neg (by omega), if_neg (by omega), if_neg (by omega), if_pos h]
theorem errO {g : Gr} {th : Int} {o : Op} (h : o.kd < 1 ∨ 11 < o.kd) : errG g th o = 1 := by unfold errG; rw [if_neg (by omega), if_neg (by omega), if_neg (by omega), if_neg (by omega), if_neg (by omega), if_neg (by omega), if_neg (by omega), if_neg (by omega)]
/-- The field is there. -/
theorem fde_in {g : Gr} {th : Int} {o : Op} (h : fde g th o = 0) : gte (rowOf g th) o.h = 0 ∧ inN g (gtv (rowOf g th) o.h) ∧ 0 ≤ o.i ∧ o.i < (hob g th o).2.length := by
  unfold fde at h
  split at h
  · rename_i h1
    split at h
    · rename_i h2
      split at h
      · rename_i h3
        exact ⟨h1, h2, h3⟩
      · cases h
    · cases h
  · cases h
/-- How a graph is when something is done. -/
structure DoOk (g : Gr) (th : Int) (o : Op) : Prop where
  rg : Rg g
  n : g.1.length ≤ 1000000
  th : isTh g th
  v : U64 o.v
  m : U64 o.m
section
variable {base D : Nat} {g : Gr} {th : Int} {o : Op} {w : World}
theorem st_size {s : Kn} (h : St base D w g th o s) : base ≤ w.heap.size := by
  obtain ⟨_, _, _, _, _, _, _, h1, _, h3⟩ := h
  have := h1.lt
  omega
theorem run_1 (hk : DoOk g th o) (h : o.kd = 1) (hS : St base D w g th o kn0) : Run base D (Phi g th o D) [60, 61, 62] w := by
  refine run_step Try.call60 (fun w0 h0 => head_st base D g th o kn0 w0 h0) (fun q w => ?_) (fun q w1 h1 => ?_) hS
  · refine ⟨?_, fun e => absurd e q⟩
    rw [err1 h]
    cases e : okH o.t o.l o.m
    · rfl
    · rw [e] at q; exact absurd rfl q
  have hok : okH o.t o.l o.m = true := by
    cases e : okH o.t o.l o.m
    · rw [e] at q; cases q
    · rfl
  have hl := okH_len hok
  refine run_step Try.call61 (fun w0 h0 => room_st base D g th o kn0 w0 h0 hk.th) (fun q w => ?_) (fun q w1 h1 => ?_) h1
  · exact ⟨by rw [err1 h, if_pos hok], fun e => absurd e q⟩
  have hr : (rowOf g th).length < 16 := by
    unfold rme at q
    split at q
    · assumption
    · cases q
  refine run_last Try.call62 (fun w0 h0 => alloc_st base D g th o kn0 w0 h0 (st_size h0) hk.th o.l.toNat (by omega) (by omega) (by have := hk.n; omega) hr) (fun w2 h2 => ?_) h1
  refine ⟨by rw [err1 h, if_pos hok, q], fun _ => ⟨kn0, ?_, rfl, ?_, ?_⟩⟩
  · unfold newG; rw [if_pos h]; exact h2
  · unfold ansV; rw [if_neg (by omega)]
  · unfold ansY; rw [decide_eq_false (by omega)]; rfl
/-- The first two steps of what asks for a scalar's field, or a pointer's. -/
theorem run_f {fs : List FuncId} (hk : DoOk g th o) (he : fde g th o ≠ 0 → errG g th o = fde g th o) (hn : fde g th o = 0 → ∀ w, St base D w g th o (K1 g th o) → Run base D (Phi g th o D) fs w) (hS : St base D w g th o kn0) : Run base D (Phi g th o D) (57 :: fs) w :=
  run_step Try.call57 (fun w0 h0 => field_st base D g th o kn0 w0 h0 hk.th) (fun q w => ⟨(he q).symm, fun e => absurd e q⟩) hn hS
theorem run_sc {fs : List FuncId} (hk : DoOk g th o) (hf : fde g th o = 0) (he : isP (hob g th o) o.i = true → errG g th o = 8) (hn : isP (hob g th o) o.i = false → ∀ w, St base D w g th o (K1 g th o) → Run base D (Phi g th o D) fs w) (hS : St base D w g th o (K1 g th o)) : Run base D (Phi g th o D) (58 :: fs) w := by
  obtain ⟨f1, f2, f3, f4⟩ := fde_in hf
  have hl16 : (hob g th o).2.length ≤ 16 := hk.rg.len f2
  refine run_step (x := (if isP (hob g th o) o.i = true then (8 : Int) else 0)) (s' := K1 g th o) Try.call58 (fun w0 h0 => scalar_st base D g th o (K1 g th o) w0 h0 f2 hk.rg.mp (by omega)) (fun q w => ?_) (fun q w1 h1 => ?_) hS
  · by_cases e : isP (hob g th o) o.i = true
    · refine ⟨?_, fun q2 => absurd q2 q⟩
      rw [if_pos e, he e]
    · exact absurd (if_neg e) q
  · by_cases e : isP (hob g th o) o.i = true
    · rw [if_pos e] at q; cases q
    · exact hn (by simpa using e) w1 h1
theorem run_pt {fs : List FuncId} (hk : DoOk g th o) (hf : fde g th o = 0) (he : isP (hob g th o) o.i = false → errG g th o = 8) (hn : isP (hob g th o) o.i = true → ∀ w, St base D w g th o (K1 g th o) → Run base D (Phi g th o D) fs w) (hS : St base D w g th o (K1 g th o)) : Run base D (Phi g th o D) (64 :: fs) w := by
  obtain ⟨f1, f2, f3, f4⟩ := fde_in hf
  have hl16 : (hob g th o).2.length ≤ 16 := hk.rg.len f2
  refine run_step (x := (if isP (hob g th o) o.i = true then (0 : Int) else 8)) (s' := K1 g th o) Try.call64 (fun w0 h0 => pointer_st base D g th o (K1 g th o) w0 h0 f2 hk.rg.mp (by omega)) (fun q w => ?_) (fun q w1 h1 => ?_) hS
  · by_cases e : isP (hob g th o) o.i = true
    · exact absurd (if_pos e) q
    · refine ⟨?_, fun q2 => absurd q2 q⟩
      rw [if_neg e, he (by simpa using e)]
  · by_cases e : isP (hob g th o) o.i = true
    · exact hn e w1 h1
    · rw [if_neg e] at q; cases q
theorem run_2 (hk : DoOk g th o) (h : o.kd = 2) (hS : St base D w g th o kn0) : Run base D (Phi g th o D) [57, 58, 63] w := by
  refine run_f hk (fun q => by rw [errS (.inl h), if_neg q]) (fun hf w1 h1 => ?_) hS
  refine run_sc hk hf (fun e => by rw [errS (.inl h), if_pos hf, e]; rfl) (fun e w2 h2 => ?_) h1
  obtain ⟨f1, f2, f3, f4⟩ := fde_in hf
  refine run_last Try.call63 (fun w0 h0 => get_st base D g th o (K1 g th o) w0 h0 f2 o.i.toNat (by omega) (by show o.i.toNat < (hob g th o).2.length; omega)) (fun w3 h3 => ?_) h2
  refine ⟨by rw [errS (.inl h), if_pos hf, e]; rfl, fun _ => ⟨{ K1 g th o with v := fwd g th o }, ?_, rfl, ?_, ?_⟩⟩
  · unfold newG
    rw [if_neg (by omega), if_neg (by omega), if_neg (by omega), if_neg (by omega), if_neg (by omega)]
    exact h3
  · unfold ansV; rw [if_pos h]
  · unfold ansY; rw [decide_eq_false (by omega)]; rfl
theorem run_3 (hk : DoOk g th o) (h : o.kd = 3) (hS : St base D w g th o kn0) : Run base D (Phi g th o D) [57, 64, 61, 65] w := by
  refine run_f hk (fun q => by rw [err3 h, if_neg q]) (fun hf w1 h1 => ?_) hS
  refine run_pt hk hf (fun e => by rw [err3 h, if_pos hf, e]; rfl) (fun e w2 h2 => ?_) h1
  obtain ⟨f1, f2, f3, f4⟩ := fde_in hf
  refine run_step Try.call61 (fun w0 h0 => room_st base D g th o (K1 g th o) w0 h0 hk.th) (fun q w => ?_) (fun q w3 h3 => ?_) h2
  · exact ⟨by rw [err3 h, if_pos hf, e]; rfl, fun e => absurd e q⟩
  have hr : (rowOf g th).length < 16 := by
    unfold rme at q
    split at q
    · assumption
    · cases q
  have hil : o.i.toNat < (hob g th o).2.length := by omega
  have hm := ndOf_mem f2
  have hu := hk.rg.fu _ hm _ (getD_mem 0 hil)
  have hp := hk.rg.pt _ hm o.i.toNat hil (by rw [Int.toNat_of_nonneg f3]; exact e)
  refine run_last Try.call65 (fun w0 h0 => follow_st base D g th o (K1 g th o) w0 h0 hk.th f2 o.i.toNat (by omega) hil hu.1 (by have := hk.n; exact Int.le_trans hp (by omega)) hr) (fun w4 h4 => ?_) h3
  refine ⟨by rw [err3 h, if_pos hf, e, if_pos rfl, q], fun _ => ⟨K1 g th o, ?_, rfl, ?_, ?_⟩⟩
  · unfold newG
    rw [if_neg (by omega), if_pos h]
    exact h4
  · unfold ansV; rw [if_neg (by omega)]
  · unfold ansY; rw [decide_eq_false (by omega)]; rfl
theorem new_w (h : o.kd = 4 ∨ o.kd = 5 ∨ o.kd = 6 ∨ o.kd = 7) : newG g th o = setF g (gtv (rowOf g th) o.h) o.i.toNat (wrv g th o) := by
  unfold newG
  rw [if_neg (by omega), if_neg (by omega), if_pos h]
theorem phi_w {s : Kn} {w3 : World} (h : o.kd = 4 ∨ o.kd = 5 ∨ o.kd = 6 ∨ o.kd = 7) (he : errG g th o = 0) (hs : s.e = 0) (hv : s.v = 0) (hy : s.y = false) (h3 : Fn D w3 (setF g (gtv (rowOf g th) o.h) o.i.toNat (wrv g th o)) th o s) : Phi g th o D 0 w3 := by
  refine ⟨he.symm, fun _ => ⟨s, by rw [new_w h]; exact h3, hs, ?_, ?_⟩⟩
  · unfold ansV; rw [if_neg (by omega)]; exact hv
  · unfold ansY; rw [decide_eq_false (by omega)]; exact hy
theorem run_467 (hk : DoOk g th o) (h : o.kd = 4 ∨ o.kd = 6 ∨ o.kd = 7) (hS : St base D w g th o kn0) : Run base D (Phi g th o D) [57, 58, 59] w := by
  have h' : o.kd = 2 ∨ o.kd = 4 ∨ o.kd = 6 ∨ o.kd = 7 := .inr h
  refine run_f hk (fun q => by rw [errS h', if_neg q]) (fun hf w1 h1 => ?_) hS
  refine run_sc hk hf (fun e => by rw [errS h', if_pos hf, e]; rfl) (fun e w2 h2 => ?_) h1
  obtain ⟨f1, f2, f3, f4⟩ := fde_in hf
  have hil : o.i.toNat < (hob g th o).2.length := by omega
  have hu := hk.rg.fu _ (ndOf_mem f2) _ (getD_mem 0 hil)
  have he : errG g th o = 0 := by rw [errS h', if_pos hf, e]; rfl
  rcases h with h | h | h
  · refine run_last Try.call59 (fun w0 h0 => write_4 base D g th o (K1 g th o) w0 h0 f2 o.i.toNat (by omega) hil h) (fun w3 h3 => phi_w (s := K1 g th o) (.inl h) he rfl rfl rfl ?_) h2
    unfold wrv
    rw [if_neg (by omega), if_neg (by omega), if_neg (by omega)]
    exact h3
  · refine run_last Try.call59 (fun w0 h0 => write_6 base D g th o (K1 g th o) w0 h0 f2 o.i.toNat (by omega) hil h hu.1 hk.v.1) (fun w3 h3 => phi_w (s := K1 g th o) (.inr (.inr (.inl h))) he rfl rfl rfl ?_) h2
    unfold wrv
    rw [if_pos h]
    exact h3
  · refine run_last Try.call59 (fun w0 h0 => write_7 base D g th o (K1 g th o) w0 h0 f2 o.i.toNat (by omega) hil h hu.1 hk.v.1) (fun w3 h3 => phi_w (s := K1 g th o) (.inr (.inr (.inr h))) he rfl rfl rfl ?_) h2
    unfold wrv
    rw [if_neg (by omega), if_pos h]
    exact h3
theorem run_5 (hk : DoOk g th o) (h : o.kd = 5) (hS : St base D w g th o kn0) : Run base D (Phi g th o D) [57, 64, 66, 59] w := by
  refine run_f hk (fun q => by rw [err5 h, if_neg q]) (fun hf w1 h1 => ?_) hS
  refine run_pt hk hf (fun e => by rw [err5 h, if_pos hf, e]; rfl) (fun e w2 h2 => ?_) h1
  obtain ⟨f1, f2, f3, f4⟩ := fde_in hf
  have hil : o.i.toNat < (hob g th o).2.length := by omega
  refine run_step Try.call66 (fun w0 h0 => second_st base D g th o (K1 g th o) w0 h0 hk.th) (fun q w => ?_) (fun q w3 h3 => ?_) h2
  · exact ⟨by rw [err5 h, if_pos hf, e]; rfl, fun e => absurd e q⟩
  have hg := gtv_bd hk.rg hk.th o.k
  have hn := hk.n
  refine run_last Try.call59 (fun w0 h0 => write_5 base D g th o (K2 g th o) w0 h0 f2 o.i.toNat (by omega) hil h hg.1 (by show gtv (rowOf g th) o.k ≤ 1000000; omega)) (fun w3 h3 => phi_w (s := K2 g th o) (.inr (.inl h)) ?_ rfl rfl rfl ?_) h3
  · rw [err5 h, if_pos hf, e, if_pos rfl, q]
  · unfold wrv
    rw [if_neg (by omega), if_neg (by omega), if_pos h]
    exact h3
theorem run_8 (hk : DoOk g th o) (h : o.kd = 8) (hS : St base D w g th o kn0) : Run base D (Phi g th o D) [67, 66, 68] w := by
  refine run_step Try.call67 (fun w0 h0 => first_st base D g th o kn0 w0 h0 hk.th) (fun q w => ⟨by rw [err8 h, if_neg q], fun e => absurd e q⟩) (fun q w1 h1 => ?_) hS
  refine run_step Try.call66 (fun w0 h0 => second_st base D g th o (K1 g th o) w0 h0 hk.th) (fun q2 w => ⟨by rw [err8 h, if_pos q], fun e => absurd e q2⟩) (fun q2 w2 h2 => ?_) h1
  refine run_last Try.call68 (fun w0 h0 => same_st base D g th o (K2 g th o) w0 h0) (fun w3 h3 => ?_) h2
  refine ⟨by rw [err8 h, if_pos q, q2], fun _ => ⟨{ K2 g th o with y := decide (gtv (rowOf g th) o.h = gtv (rowOf g th) o.k) }, ?_, rfl, ?_, ?_⟩⟩
  · unfold newG
    rw [if_neg (by omega), if_neg (by omega), if_neg (by omega), if_neg (by omega), if_neg (by omega)]
    exact h3
  · unfold ansV; rw [if_neg (by omega)]
  · unfold ansY; rw [decide_eq_true h]; rfl
theorem run_9 (hk : DoOk g th o) (h : o.kd = 9) (hS : St base D w g th o kn0) : Run base D (Phi g th o D) [67, 61, 69] w := by
  refine run_step Try.call67 (fun w0 h0 => first_st base D g th o kn0 w0 h0 hk.th) (fun q w => ⟨by rw [err9 h, if_neg q], fun e => absurd e q⟩) (fun q w1 h1 => ?_) hS
  refine run_step Try.call61 (fun w0 h0 => room_st base D g th o (K1 g th o) w0 h0 hk.th) (fun q2 w => ⟨by rw [err9 h, if_pos q], fun e => absurd e q2⟩) (fun q2 w2 h2 => ?_) h1
  have hr : (rowOf g th).length < 16 := by
    unfold rme at q2
    split at q2
    · assumption
    · cases q2
  refine run_last Try.call69 (fun w0 h0 => push_st base D g th o (K1 g th o) w0 h0 hk.th hr) (fun w3 h3 => ?_) h2
  refine ⟨by rw [err9 h, if_pos q, q2], fun _ => ⟨K1 g th o, ?_, rfl, ?_, ?_⟩⟩
  · unfold newG
    rw [if_neg (by omega), if_neg (by omega), if_neg (by omega), if_pos h]
    exact h3
  · unfold ansV; rw [if_neg (by omega)]
  · unfold ansY; rw [decide_eq_false (by omega)]; rfl
theorem run_11 (h : o.kd = 11) (hS : St base D w g th o kn0) : ∀ w', Up w w' → Phi g th o D 0 w' := fun w' u => by
  refine ⟨(err11 h).symm, fun _ => ⟨kn0, ?_, rfl, ?_, ?_⟩⟩
  · unfold newG
    rw [if_neg (by omega), if_neg (by omega), if_neg (by omega), if_neg (by omega), if_neg (by omega)]
    exact (hS.up u).fn
  · unfold ansV; rw [if_neg (by omega)]
  · unfold ansY; rw [decide_eq_false (by omega)]; rfl
theorem run_10 (hk : DoOk g th o) (h : o.kd = 10) (hS : St base D w g th o kn0) : Calls Try.prog 70 #[.pointer (some ⟨D, 0, none⟩)] w (RunP base (Phi g th o D) w) := by
  refine (pop_st base D g th o kn0 w hS hk.th).mono ?_
  rintro e w' ⟨x, h1, h2, h3, h4⟩
  refine ⟨x, h1, h2, by rw [err10 h, h3], fun q => ⟨kn0, ?_, rfl, ?_, ?_⟩⟩
  · unfold newG
    rw [if_neg (by omega), if_neg (by omega), if_neg (by omega), if_neg (by omega), if_pos h]
    by_cases h0 : rowOf g th = []
    · rw [if_pos h0] at h3
      omega
    · rw [if_neg h0] at h4
      exact h4
  · unfold ansV; rw [if_neg (by omega)]
  · unfold ansY; rw [decide_eq_false (by omega)]; rfl
end
end Go.Proofs.Ytlocllcijncllaa
