import Derived.Test.YthmloakkefiicaaRefI
import Derived.Test.YthmloakkefiicaaRefT
import Derived.Test.YthmloakkefiicaaTornA
namespace Go.Proofs.Ythmloakkefiicaa.dk
open Go.ChangeShapes Go.WideShapes Go.ChangeAt Go.RowKit

/-! one sector of a list of bytes, behind a splice -/
set_option maxRecDepth 20000 in
theorem secL_splice_same (acc bs : List Int) (m k : Nat) (hl : m * 512 + 512 ≤ acc.length) (hb : bs.length = 512) (hk : k ≤ 512) : secL (splice acc (m * 512) (bs.take k)) m = overL (secL acc m) bs k := by
  unfold secL splice overL
  have e1 : (acc.take (m * 512)).length = m * 512 := by simp; omega
  have e3 : (bs.take k).length = k := by simp; omega
  rw [List.drop_append, List.drop_eq_nil_of_le (by omega), e1, Nat.sub_self, List.drop_zero, List.nil_append, List.take_append, List.take_of_length_le (by omega), e3, List.drop_take, ← List.drop_drop]
set_option maxRecDepth 20000 in
theorem secL_splice_other (acc bs : List Int) (m s k : Nat) (hm : m * 512 + 512 ≤ acc.length) (hs : s * 512 + 512 ≤ acc.length) (hb : bs.length = 512) (hk : k ≤ 512) (hne : s ≠ m) : secL (splice acc (s * 512) (bs.take k)) m = secL acc m := by
  have hlen : (splice acc (s * 512) (bs.take k)).length = acc.length := length_splice _ _ _ (by rw [List.length_take]; omega)
  apply List.ext_getElem
  · simp [secL, hlen]
  · intro j h1 h2
    have hj : j < 512 := by simp [secL] at h1; omega
    have key := splice_get acc (s * 512) (bs.take k) (by rw [List.length_take]; omega) (m * 512 + j) (by
      rw [List.length_take]
      rcases Nat.lt_or_gt_of_ne hne with h | h
      · right; omega
      · left; omega)
    simp only [List.getD_eq_getElem?_getD] at key
    rw [List.getElem?_eq_getElem (by omega), List.getElem?_eq_getElem (by omega)] at key
    simp only [Option.getD_some] at key
    simpa [secL] using key
theorem sec_mem_step (m n : Nat) (hm : m < n) (acc : List Int) (hacc : acc.length = n * 512) (x : Rw) (hx : x.bs.length = 512) (hk : x.k ≤ 512) (hs : x.s < n) : secL (memStep acc x) m = secStep m (secL acc m) x := by
  unfold memStep secStep
  by_cases e : x.s = m
  · rw [if_pos e, e]; exact secL_splice_same _ _ _ _ (by omega) hx hk
  · rw [if_neg e]; exact secL_splice_other _ _ _ _ _ (by omega) (by omega) hx hk e
theorem sec_mem_fold (m n : Nat) (hm : m < n) : ∀ (l : List Rw) (acc : List Int), acc.length = n * 512 → (∀ x ∈ l, x.bs.length = 512 ∧ x.k ≤ 512 ∧ x.s < n) → secL (l.foldl memStep acc) m = l.foldl (secStep m) (secL acc m) := by
  intro l
  induction l with
  | nil => intro acc _ _; rfl
  | cons x r ih =>
    intro acc hacc hl
    have hx := hl x (by simp)
    have hl2 : (memStep acc x).length = n * 512 := by
      unfold memStep; rw [length_splice _ _ _ (by rw [List.length_take]; omega)]; exact hacc
    simp only [List.foldl_cons]
    rw [ih _ hl2 (fun y hy => hl y (by simp [hy])), sec_mem_step m n hm acc hacc x hx.1 hx.2.1 hx.2.2]
theorem sec_mem {w : World} {R : Nat} {r : Rf} (h : RefAt w R r) (hf : r.first = [] ∨ r.first.length = r.n * 512) (m : Nat) (hm : m < r.n) : secL r.mem m = r.sec m := by
  unfold Rf.mem Rf.sec
  rw [sec_mem_fold m r.n hm r.log r.mem0 (mem0_length r hf) (fun x hx => (h.each x hx).2)]
  congr 1
  unfold Rf.mem0 Rf.sec0
  by_cases e : r.first = []
  · rw [if_pos e, if_pos e]
    simp only [secL, rep, List.drop_replicate, List.take_replicate]
    rw [show min 512 (r.n * 512 - m * 512) = 512 from by omega]
  · rw [if_neg e, if_neg e, secL, Nat.mul_comm]

/-- the program's disk and the document's are one -/
structure Rel (d : Dk) (r : Rf) : Prop where
  n : d.n = r.n
  on : d.on = r.on
  arm : d.armed = decide (0 ≤ r.left)
  off : r.on = false → r.left < 0
  aft : d.armed = true → d.after = r.left ∧ d.torn = r.torn
  tor : 0 ≤ r.torn ∧ r.torn ≤ 512
  lef : -1 ≤ r.left ∧ r.left ≤ 9223372036854775807
  wr : d.writes = r.log.length
  mem : d.mem = r.mem
  tr : ∀ i (h : i < r.log.length), r.log.length ≤ i + 64 → d.tr.getD (i % 64) 0 = (r.log[i].s : Int)
  first : r.first = [] ∨ r.first.length = r.n * 512
theorem Rel.sec {w wr : World} {D S R : Nat} {d : Dk} {r : Rf} (h : Rel d r) (_hd : DiskAt w D S d) (hr : RefAt wr R r) (m : Nat) (hm : m < d.n) : d.sec m = r.sec m := by
  rw [← sec_mem hr h.first m (by rw [← h.n]; exact hm)]
  show secL d.mem m = _
  rw [h.mem]
theorem Rel.trace {d : Dk} {r : Rf} (h : Rel d r) : d.trace = r.trace := by
  have hk : d.kept = r.log.length - (r.log.length - 64) := by unfold Dk.kept; rw [h.wr]; omega
  apply List.ext_getElem
  · simp [Dk.trace, Rf.trace, secs, hk]
  · intro i h1 h2
    simp only [Dk.trace, List.length_map, List.length_range] at h1
    have hi : r.log.length - 64 + i < r.log.length := by omega
    have := h.tr (r.log.length - 64 + i) hi (by omega)
    simp only [Dk.trace, Rf.trace, secs, List.getElem_map, List.getElem_range, List.getElem_drop]
    rw [h.wr, hk, show r.log.length - (r.log.length - (r.log.length - 64)) + i = r.log.length - 64 + i from by omega]
    exact this
theorem mem_snoc (r : Rf) (x : Rw) (lv : Value) : ({ r with log := r.log ++ [x], lv := lv } : Rf).mem = memStep r.mem x := by
  simp [Rf.mem, Rf.mem0, List.foldl_append]
theorem Rel.fresh (n : Nat) : Rel (Dk.fresh n (List.replicate (n * 512) 0)) (Rf.fresh n [] (.slice none 0 0)) :=
  ⟨rfl, rfl, rfl, fun h => by simp [Rf.fresh] at h, fun h => by simp [Dk.fresh] at h, by simp [Rf.fresh], by simp [Rf.fresh], rfl, rfl, fun i h => by simp [Rf.fresh] at h, .inl rfl⟩
theorem Rel.freshOf (n : Nat) (bs : List Int) (fv : Value) (hn : 1 ≤ n) (hl : bs.length = n * 512) : Rel (Dk.fresh n bs) (Rf.fresh n bs fv) :=
  ⟨rfl, rfl, rfl, fun h => by simp [Rf.fresh] at h, fun h => by simp [Dk.fresh] at h, by simp [Rf.fresh], by simp [Rf.fresh], rfl, by
    have : bs ≠ [] := fun e => by rw [e] at hl; simp at hl; omega
    simp [Rf.mem, Rf.mem0, Rf.fresh, Dk.fresh, this], fun i h => by simp [Rf.fresh] at h, .inr hl⟩
theorem Rel.offed {d : Dk} {r : Rf} (h : Rel d r) : Rel d.offed r.offed :=
  ⟨h.n, rfl, rfl, fun _ => by simp [Rf.offed], fun e => by simp [Dk.offed] at e, h.tor, by simp [Rf.offed], h.wr, h.mem, h.tr, h.first⟩
theorem Rel.oned {d : Dk} {r : Rf} (h : Rel d r) : Rel d.oned { r with on := true } :=
  ⟨h.n, rfl, h.arm, fun e => by simp at e, h.aft, h.tor, h.lef, h.wr, h.mem, h.tr, h.first⟩
theorem Rel.armed {d : Dk} {r : Rf} (h : Rel d r) (a t : Int) (ho : d.on = true) (ha : a ≤ 9223372036854775807) : Rel { d with armed := decide (0 ≤ a), after := a, torn := min (max t 0) 512 } { r with left := max a (-1), torn := min (max t 0) 512 } :=
  by
  refine ⟨h.n, h.on, ?_, fun e => ?_, fun e => ?_, ?_, ?_, h.wr, h.mem, h.tr, h.first⟩
  · show decide (0 ≤ a) = decide (0 ≤ max a (-1))
    rw [decide_eq_decide]; omega
  · have e2 : r.on = false := e
    rw [← h.on, ho] at e2; cases e2
  · have e2 : decide (0 ≤ a) = true := e
    have e3 : 0 ≤ a := by simpa using e2
    exact ⟨by show a = max a (-1); omega, rfl⟩
  · show 0 ≤ min (max t 0) 512 ∧ min (max t 0) 512 ≤ 512
    omega
  · show -1 ≤ max a (-1) ∧ max a (-1) ≤ 9223372036854775807
    omega
theorem tr_snoc {w : World} {D S : Nat} {d : Dk} {r : Rf} (hd : DiskAt w D S d) (h : Rel d r) (x : Rw) (i : Nat) (hi : i < (r.log ++ [x]).length) (hw : (r.log ++ [x]).length ≤ i + 64) : (d.noted x.s).tr.getD (i % 64) 0 = (((r.log ++ [x])[i]).s : Int) := by
  have hl := hd.ltr
  have hwr := h.wr
  simp only [List.length_append, List.length_cons, List.length_nil] at hi hw
  by_cases e : i = r.log.length
  · subst e
    have := tr_noted hd x.s
    rw [hwr] at this
    rw [this]
    simp
  · have hi2 : i < r.log.length := by omega
    have hne : d.writes % 64 ≠ i % 64 := by rw [hwr]; omega
    show (d.tr.set (d.writes % 64) x.s).getD (i % 64) 0 = _
    rw [getD_set_other _ _ _ _ _ hne, h.tr i hi2 (by omega), List.getElem_append_left hi2]
theorem Rel.whole {w : World} {D S : Nat} {d : Dk} {r : Rf} (hd : DiskAt w D S d) (h : Rel d r) (m : Nat) (bs : List Int) (hb : bs.length = 512) (v lv : Value) (hl : r.left < 0) :
    Rel { d.noted m with mem := splice d.mem (m * 512) bs } { r with log := r.log ++ [⟨m, 512, bs, v⟩], lv := lv } :=
  ⟨h.n, h.on, h.arm, h.off, fun e => by
    have : d.armed = true := e
    rw [h.arm] at this; simp at this; omega, h.tor, h.lef, by simp [Dk.noted, h.wr], by
    show splice d.mem (m * 512) bs = _
    have := mem_snoc r ⟨m, 512, bs, v⟩ lv
    rw [memStep, ← h.mem] at this
    simp only [List.take_of_length_le (show bs.length ≤ 512 by omega)] at this
    exact this.symm, fun i hi hw => tr_snoc hd h _ i hi hw, h.first⟩
theorem Rel.dec {w : World} {D S : Nat} {d : Dk} {r : Rf} (hd : DiskAt w D S d) (h : Rel d r) (m : Nat) (bs : List Int) (hb : bs.length = 512) (v lv : Value) (hl : 0 < r.left) :
    Rel { d.noted m with mem := splice d.mem (m * 512) bs, after := wsub d.after } { r with log := r.log ++ [⟨m, 512, bs, v⟩], lv := lv, left := wsub r.left } := by
  have hle := h.lef
  have e : wsub r.left = r.left - 1 := by unfold wsub wrap64; omega
  have harm : d.armed = true := by rw [h.arm]; simp; omega
  refine ⟨h.n, h.on, ?_, fun hf => ?_, fun _ => ⟨by show wsub d.after = wsub r.left; rw [(h.aft harm).1], (h.aft harm).2⟩, h.tor, ?_, by simp [Dk.noted, h.wr], ?_, fun i hi hw => tr_snoc hd h _ i hi hw, h.first⟩
  · show d.armed = decide (0 ≤ wsub r.left)
    rw [harm, e]; simp; omega
  · have := h.off hf; omega
  · show -1 ≤ wsub r.left ∧ wsub r.left ≤ _
    rw [e]; omega
  · show splice d.mem (m * 512) bs = _
    have := mem_snoc r ⟨m, 512, bs, v⟩ lv
    rw [memStep, ← h.mem] at this
    simp only [List.take_of_length_le (show bs.length ≤ 512 by omega)] at this
    exact this.symm
theorem Rel.torn {w : World} {D S : Nat} {d : Dk} {r : Rf} (hd : DiskAt w D S d) (h : Rel d r) (m t : Nat) (bs : List Int) (v lv : Value) :
    Rel { (d.noted m).offed with mem := splice d.mem (m * 512) (bs.take t) } ({ r with log := r.log ++ [⟨m, t, bs, v⟩], lv := lv } : Rf).offed :=
  ⟨h.n, rfl, rfl, fun _ => by simp [Rf.offed], fun e => by simp [Dk.offed] at e, h.tor, by simp [Rf.offed], by simp [Dk.noted, Dk.offed, Rf.offed, h.wr], by
    show splice d.mem (m * 512) (bs.take t) = _
    have := mem_snoc r ⟨m, t, bs, v⟩ lv
    rw [memStep, ← h.mem] at this
    exact this.symm, fun i hi hw => tr_snoc hd h _ i hi hw, h.first⟩
end Go.Proofs.Ythmloakkefiicaa.dk
