import Derived.Test.YtddffdcjhleejaaGreatG16
import Derived.Deep.CutRange
namespace Go.Proofs.YtddffdcjhleejaaGreat.ds
open Go.ChangeShapes Go.WideShapes Go.ChangeAt Go.RowKit Go.Sort
set_option linter.unusedVariables false
set_option linter.unusedSimpArgs false
/-- a list of writes that can be read -/
structure RWs (w : World) (s : Sl) (es : List E) (rs : List Wr) : Prop where
  rd : Rd w s.p (flatE es)
  el : es.length = s.n
  rl : rs.length = s.n
  each : ∀ j, j < s.n → Reads w (gE es j) (gR rs j)
  lim : s.n ≤ 2000000
  ok : s.ok
theorem RWs.kept0 {w w' : World} {s : Sl} {es : List E} {rs : List Wr} (h : RWs w s es rs) (a : Apart [] w w') : RWs w' s es rs := { h with rd := h.rd.kept0 a, each := fun j hj => (h.each j hj).kept0 a }
theorem flatE_len : ∀ (es : List E), (flatE es).length = es.length * 6
  | [] => rfl
  | e :: l => by
    have := flatE_len l
    rw [show flatE (e :: l) = E.cs e ++ flatE l from rfl, List.length_append, this, List.length_cons, show (E.cs e).length = 6 from rfl]; omega
theorem flatE_get : ∀ (es : List E) (j : Nat), j < es.length → ∀ i v, (E.cs (gE es j))[i]? = some v → (flatE es)[j * 6 + i]? = some v
  | [], j, h, i, v, hv => by simp at h
  | e :: l, 0, h, i, v, hv => by
    rw [show flatE (e :: l) = E.cs e ++ flatE l from rfl]
    have hi : i < (E.cs e).length := by
      by_cases hc : i < (E.cs e).length
      · exact hc
      · have : (E.cs (gE (e :: l) 0)) = E.cs e := rfl
        rw [this, List.getElem?_eq_none (by omega)] at hv; cases hv
    rw [Nat.zero_mul, Nat.zero_add, List.getElem?_append_left hi]
    exact hv
  | e :: l, j + 1, h, i, v, hv => by
    rw [show flatE (e :: l) = E.cs e ++ flatE l from rfl, List.getElem?_append_right (by simp [E.cs]; omega), show (E.cs e).length = 6 from rfl, show (j + 1) * 6 + i - 6 = j * 6 + i from by omega]
    exact flatE_get l j (by simpa using h) i v hv
/-- the cells of the j-th write -/
theorem RWs.cells {w : World} {s : Sl} {es : List E} {rs : List Wr} (h : RWs w s es rs) (j : Nat) (hj : j < s.n) : ∃ P o, s.p = some ⟨P, o, none⟩ ∧ P < w.heap.size ∧ (w.cell? ⟨P, o + j * 6, none⟩ = some (.int .i64 (gE es j).n) ∧ w.cell? ⟨P, o + j * 6 + 1, none⟩ = some (.int .i64 (gE es j).c) ∧ w.cell? ⟨P, o + j * 6 + 2, none⟩ = some (.string (gE es j).k) ∧ w.cell? ⟨P, o + j * 6 + 3, none⟩ = some (.bool (gE es j).d) ∧ w.cell? ⟨P, o + j * 6 + 4, none⟩ = some (.slice (gE es j).v.p (gE es j).v.n (gE es j).v.c) ∧ w.cell? ⟨P, o + j * 6 + 5, none⟩ = some (.slice (gE es j).x.p (gE es j).x.n (gE es j).x.c)) := by
  have hel := h.el
  obtain ⟨P, o, e, hP, hc⟩ := h.rd (by rw [flatE_len]; omega)
  have key : ∀ i v, (E.cs (gE es j))[i]? = some v → w.cell? ⟨P, o + j * 6 + i, none⟩ = some v := fun i v hv => by
    have := hc (j * 6 + i) v (flatE_get es j (by omega) i v hv)
    rwa [← Nat.add_assoc] at this
  exact ⟨P, o, e, hP, by simpa using key 0 _ rfl, key 1 _ rfl, key 2 _ rfl, key 3 _ rfl, key 4 _ rfl, key 5 _ rfl⟩
/-- a message that can be read -/
structure RM (w : World) (m : MM) (g : Mg) (es : List E) : Prop where
  kind : m.kind = g.kind
  frm : m.frm = g.frm
  dst : m.dst = g.dst
  call : m.call = g.call
  rng : m.rng = g.rng
  own : m.own = g.own
  key : m.key = strB g.key
  k8 : ∀ b ∈ g.key, b < 256
  dn : m.dn = g.dn
  dc : m.dc = g.dc
  set : L w m.set.p m.set.n g.set
  ws : RWs w m.ws es g.ws
  so : m.set.ok
theorem RM.kept0 {w w' : World} {m : MM} {g : Mg} {es : List E} (h : RM w m g es) (a : Apart [] w w') : RM w' m g es := { h with set := h.set.kept0 a, ws := h.ws.kept0 a }
/-- the writes of a message, one behind the other -/
def fw (l : List Wr) : List Nat := l.flatMap encW
theorem fw_take {l : List Wr} {i : Nat} (hi : i < l.length) : fw (l.take (i + 1)) = fw (l.take i) ++ encW (gR l i) := by
  unfold fw
  rw [List.take_add_one, List.flatMap_append, List.getElem?_eq_getElem hi, gR_eq l i hi]
  simp
theorem fw_le (l : List Wr) (i : Nat) : (fw (l.take i)).length ≤ (fw l).length := by
  have : fw l = fw (l.take i) ++ fw (l.drop i) := by unfold fw; rw [← List.flatMap_append, List.take_append_drop]
  rw [this]; simp
theorem WsOk.good {key : ByteArray} : ∀ {l : List Wr} {an ac : Int}, WsOk key an ac l → ∀ r ∈ l, GoodW r
  | [], _, _, _, r, hr => by simp at hr
  | x :: l, _, _, h, r, hr => by
    rcases List.mem_cons.1 hr with rfl | hr
    · exact h.1.1
    · exact WsOk.good h.2 r hr
theorem VMg.good {m : Mg} (h : VMg m) : ∀ r ∈ m.ws, GoodW r := by
  have := h.ws
  split at this
  · exact this.2.good
  · split at this
    · obtain ⟨r, e, hr⟩ := this
      rw [e]; simpa using hr
    · rw [this]; simp
theorem VMg.okset {m : Mg} (h : VMg m) : OkL 64 m.set := by
  have := h.set
  split at this
  · exact this.1
  · rw [this]; exact OkL.nil 64
theorem aints3 {wB w : World} {s : Sl} {us : List Nat} (h : Bf wB w s us) (a b c : Nat) (ha : a < 9223372036854775808) (hb : b < 9223372036854775808) (hc : c < 9223372036854775808) (hl : us.length + (enc a ++ (enc b ++ enc c)).length ≤ 1099511627776) :
    Calls Tryz.prog 60 #[.slice s.p s.n s.c, .slice (some ⟨w.heap.size, 0, none⟩) 3 3] (w.alloc (.cells #[.int .i64 (a : Int), .int .i64 (b : Int), .int .i64 (c : Int)] 3)) fun e w' => AP wB w s (us ++ (enc a ++ (enc b ++ enc c))) e w' := by
  have := aints_new h [a, b, c] (by simp) (by simp; omega) (by simpa [encL] using hl)
  simpa [encL] using this
theorem mrow11 {w : World} {X : Nat} {m : MM} (h : w.heap[X]? = some (.cells m.cs 29 (0, 0))) : (w.cell? ⟨X, 0, none⟩ = some (.int .i64 (m.kind : Nat)) ∧ w.cell? ⟨X, 1, none⟩ = some (.int .i64 (m.frm : Nat)) ∧ w.cell? ⟨X, 2, none⟩ = some (.int .i64 (m.dst : Nat)) ∧ w.cell? ⟨X, 3, none⟩ = some (.int .i64 (m.call : Nat)) ∧ w.cell? ⟨X, 4, none⟩ = some (.int .i64 (m.rng : Nat)) ∧ w.cell? ⟨X, 5, none⟩ = some (.int .i64 (m.own : Nat))) ∧ w.cell? ⟨X, 6, none⟩ = some (.string m.key) ∧ w.cell? ⟨X, 7, none⟩ = some (.int .i64 (m.dn : Nat)) ∧ w.cell? ⟨X, 8, none⟩ = some (.int .i64 (m.dc : Nat)) ∧ w.cell? ⟨X, 9, none⟩ = some (.slice m.set.p m.set.n m.set.c) ∧ w.cell? ⟨X, 10, none⟩ = some (.slice m.ws.p m.ws.n m.ws.c) :=
  ⟨⟨mrow h 0 _ rfl, mrow h 1 _ rfl, mrow h 2 _ rfl, mrow h 3 _ rfl, mrow h 4 _ rfl, mrow h 5 _ rfl⟩, mrow h 6 _ rfl, mrow h 7 _ rfl, mrow h 8 _ rfl, mrow h 9 _ rfl, mrow h 10 _ rfl⟩
set_option maxHeartbeats 32000000 in
set_option maxRecDepth 100000 in
theorem amsg_ok {wB w : World} {s : Sl} {us : List Nat} (h : Bf wB w s us) (m : MM) (g : Mg) (es : List E) (hm : RM wB m g es) (hv : VMg g) (hl : us.length + (encM g).length ≤ 1099511627776) :
    Calls Tryz.prog 32 #[.slice s.p s.n s.c, .agg #[.int .i64 (m.kind : Nat), .int .i64 (m.frm : Nat), .int .i64 (m.dst : Nat), .int .i64 (m.call : Nat), .int .i64 (m.rng : Nat), .int .i64 (m.own : Nat), .string m.key, .int .i64 (m.dn : Nat), .int .i64 (m.dc : Nat), .slice m.set.p m.set.n m.set.c, .slice m.ws.p m.ws.n m.ws.c]] w fun e w' => AP wB w s (us ++ encM g) e w' := by
  have HB := hid h
  have HM := hid hm
  have HV := hid hv
  obtain ⟨fk, Hfk⟩ : ∃ fk, Hid (fk = fldK m.kind) := ⟨_, rfl⟩
  have hfk : fk < 256 := by rw [Hfk.out]; exact fldK_lt _
  obtain ⟨b1, Hb1⟩ : ∃ b, Hid (hasF m.kind 1 = b) := ⟨_, rfl⟩
  obtain ⟨b2, Hb2⟩ : ∃ b, Hid (hasF m.kind 2 = b) := ⟨_, rfl⟩
  obtain ⟨b4, Hb4⟩ : ∃ b, Hid (hasF m.kind 4 = b) := ⟨_, rfl⟩
  obtain ⟨b8, Hb8⟩ : ∃ b, Hid (hasF m.kind 8 = b) := ⟨_, rfl⟩
  obtain ⟨b16, Hb16⟩ : ∃ b, Hid (hasF m.kind 16 = b) := ⟨_, rfl⟩
  obtain ⟨b32, Hb32⟩ : ∃ b, Hid (hasF m.kind 32 = b) := ⟨_, rfl⟩
  obtain ⟨b128, Hb128⟩ : ∃ b, Hid (hasF m.kind 128 = b) := ⟨_, rfl⟩
  have hE : encM g = (((((((((enc m.kind ++ (enc m.frm ++ enc m.dst)) ++ encO b1 (enc m.call)) ++ encO b2 (enc m.own)) ++ encO b4 (enc m.rng)) ++ encO b8 (encT (bsk m.key))) ++ encO b16 (enc m.dn ++ enc m.dc)) ++ encO b32 (encSet g.set)) ++ encO b128 (enc m.ws.n)) ++ fw g.ws) := by
    unfold encM fw
    rw [← hm.kind, ← hm.frm, ← hm.dst, ← hm.call, ← hm.own, ← hm.rng, ← hm.dn, ← hm.dc]
    have hk : g.key = bsk m.key := by rw [hm.key, bsk_strB hm.k8]
    rw [hk, Hb1.out, Hb2.out, Hb4.out, Hb8.out, Hb16.out, Hb32.out, Hb128.out, ← hm.ws.rl]
    simp only [List.append_assoc]
  rw [hE] at hl ⊢
  have HL := hid hl
  have hkey : m.key.size ≤ 16 := by
    have := hv.key
    rw [hm.key, ← bsk_len, bsk_strB hm.k8]
    split at this
    · exact this.2
    · rw [this]; simp
  have hnum : m.kind < 9223372036854775808 ∧ m.frm < 9223372036854775808 ∧ m.dst < 9223372036854775808 ∧ m.call < 9223372036854775808 ∧ m.own < 9223372036854775808 ∧ m.rng < 9223372036854775808 ∧ m.dn < 9223372036854775808 ∧ m.dc < 9223372036854775808 := by
    have v1 := hv.kind; have v2 := hv.frm; have v3 := hv.dst; have v4 := hv.call; have v5 := hv.own; have v6 := hv.rng; have v7 := hv.dot
    rw [hm.kind, hm.frm, hm.dst, hm.call, hm.own, hm.rng, hm.dn, hm.dc]
    refine ⟨by omega, by omega, by omega, ?_, ?_, ?_, ?_⟩
    · split at v4 <;> omega
    · split at v5 <;> omega
    · split at v6 <;> omega
    · split at v7
      · omega
      · simp at v7; omega
  obtain ⟨n1, n2, n3, n4, n5, n6, n7, n8⟩ := hnum
  have hsl : m.set.n ≤ 8 := by have := hm.set.len; have := hv.okset.le8; omega
  have hwl : m.ws.n ≤ 2000000 := hm.ws.lim
  clear h hm hv hl hE
  obtain ⟨w1, hw1⟩ : ∃ w1, w1 = w.alloc (.cells #[.int .i64 (m.kind : Nat), .int .i64 (m.frm : Nat), .int .i64 (m.dst : Nat), .int .i64 (m.call : Nat), .int .i64 (m.rng : Nat), .int .i64 (m.own : Nat), .string m.key, .int .i64 (m.dn : Nat), .int .i64 (m.dc : Nat), .slice m.set.p m.set.n m.set.c, .slice m.ws.p m.ws.n m.ws.c] 29) := ⟨_, rfl⟩
  have HX1 : Hid (w1.heap[w.heap.size]? = some (.cells m.cs 29 (0, 0))) := by unfold Hid; rw [hw1]; exact heap_alloc_new w _
  have HA1 : Hid (Apart [] w w1) := by unfold Hid; rw [hw1]; exact (Apart.refl [] w).alloc _
  have HB1 := hid (HB.out.kept HA1.out)
  have HG1 : Hid (Gw w w1 s s) := Gw.of HA1.out
  obtain ⟨X, HXX⟩ : ∃ X, Hid (X = w.heap.size) := ⟨_, rfl⟩
  rw [← HXX.out] at HX1
  obtain ⟨⟨z0, z1, z2, z3, z4, z5⟩, z6, z7, z8, z9, z10⟩ := mrow11 HX1.out
  have HF : Hid (∀ W, Calls Tryz.prog 39 #[.int .i64 (m.kind : Nat)] W fun r w' => r = .returned (.int .u64 (fk : Int)) ∧ w' = W) := fun W => by rw [Hfk.out]; exact fieldsOf_ok m.kind W
  go_enter Tryz.func32, Tryz.ntmps32
  go_upto_region 1 with fail
  rw [← hw1, ← HXX.out]
  clear hw1
  go_wp2_with fail
  refine (HF.out w1).mono ?_
  rintro _ wn ⟨rfl, hwn⟩
  rw [hwn]
  clear hwn wn
  try dsimp only
  go_wp2_with fail
  refine (aints3 HB1.out m.kind m.frm m.dst n1 n2 n3 (by have := HL.out; simp only [List.length_append] at this ⊢; omega)).mono ?_
  rintro e w2 ⟨s2, rfl, hb2, hg2⟩
  have HX2 := hid (hg2.block HB1.out HX1.out (by decide))
  have HB2 := hid hb2
  have HG2 : Hid (Gw w w2 s s2) := HG1.out.trans hg2
  clear hb2 hg2 z0 z1 z2 z3 z4 z5 z6 z7 z8 z9 z10
  try dsimp only
  have HN1 : Hid (∀ W, Calls Tryz.prog 61 #[.int .u64 (fk : Int), .int .u64 1] W fun r w' => r = .returned (.bool b1) ∧ w' = W) := fun W => name_wire fk 1 hfk (by decide) b1 (by rw [← Hb1.out, Hfk.out]; rfl) W
  go_wp2_with fail
  refine (HN1.out w2).mono ?_
  rintro _ wn ⟨rfl, hwn⟩
  rw [hwn]
  clear hwn wn
  try dsimp only
  go_upto_if 21 with fail
  go_cut [0] from 22 to 26 (fun a wx => ∃ s4 : Sl, .slice s4.p s4.n s4.c = a ∧ Bf wB wx s4 (us ++ ((enc m.kind ++ (enc m.frm ++ enc m.dst)) ++ encO b1 (enc m.call))) ∧ Gw w wx s s4 ∧ wx.heap[X]? = some (.cells m.cs 29 (0, 0)))
  case first =>
    cases b1 with
    | false =>
      have HB0 : Hid (Bf wB w2 s2 (us ++ ((enc m.kind ++ (enc m.frm ++ enc m.dst)) ++ encO false (enc m.call)))) := by unfold Hid; have := HB2.out; simpa [encO] using this
      go_wp2_with fail
      go_meet
      exact ⟨s2, rfl, HB0.out, HG2.out, HX2.out⟩
    | true =>
      obtain ⟨⟨z0, z1, z2, z3, z4, z5⟩, z6, z7, z8, z9, z10⟩ := mrow11 HX2.out
      have hll : (us ++ (enc m.kind ++ (enc m.frm ++ enc m.dst))).length + (enc m.call).length ≤ 1099511627776 := by have := HL.out; simp only [encO, if_true, List.length_append] at this ⊢; omega
      go_wp2_with fail
      refine (aints1 HB2.out m.call n4 hll).mono ?_
      rintro e w6 ⟨s6, rfl, hb6, hg6⟩
      have HX6 := hid (hg6.block HB2.out HX2.out (by decide))
      have HB6 : Hid (Bf wB w6 s6 (us ++ ((enc m.kind ++ (enc m.frm ++ enc m.dst)) ++ encO true (enc m.call)))) := by unfold Hid; simpa [encO] using hb6
      have HG6 : Hid (Gw w w6 s s6) := HG2.out.trans hg6
      clear hb6 hg6 z0 z1 z2 z3 z4 z5 z6 z7 z8 z9 z10 hll
      try dsimp only
      go_wp2_with fail
      go_meet
      exact ⟨s6, rfl, HB6.out, HG6.out, HX6.out⟩
  generalize wc = k1 at *
  obtain ⟨t1, rfl, hb, hg, hx⟩ := hcut
  have HBk1 := hid hb
  have HGk1 := hid hg
  have HXk1 := hid hx
  clear hb hg hx HN1
  have HN2 : Hid (∀ W, Calls Tryz.prog 61 #[.int .u64 (fk : Int), .int .u64 2] W fun r w' => r = .returned (.bool b2) ∧ w' = W) := fun W => name_wire fk 2 hfk (by decide) b2 (by rw [← Hb2.out, Hfk.out]; rfl) W
  go_wp2_with fail
  refine (HN2.out k1).mono ?_
  rintro _ wn ⟨rfl, hwn⟩
  rw [hwn]
  clear hwn wn
  try dsimp only
  go_upto_if 28 with fail
  go_cut [0] from 29 to 33 (fun a wx => ∃ s4 : Sl, .slice s4.p s4.n s4.c = a ∧ Bf wB wx s4 (us ++ (((enc m.kind ++ (enc m.frm ++ enc m.dst)) ++ encO b1 (enc m.call)) ++ encO b2 (enc m.own))) ∧ Gw w wx s s4 ∧ wx.heap[X]? = some (.cells m.cs 29 (0, 0)))
  case first =>
    cases b2 with
    | false =>
      have HB0 : Hid (Bf wB k1 t1 (us ++ (((enc m.kind ++ (enc m.frm ++ enc m.dst)) ++ encO b1 (enc m.call)) ++ encO false (enc m.own)))) := by unfold Hid; have := HBk1.out; simpa [encO] using this
      go_wp2_with fail
      go_meet
      exact ⟨t1, rfl, HB0.out, HGk1.out, HXk1.out⟩
    | true =>
      obtain ⟨⟨z0, z1, z2, z3, z4, z5⟩, z6, z7, z8, z9, z10⟩ := mrow11 HXk1.out
      have hll : (us ++ ((enc m.kind ++ (enc m.frm ++ enc m.dst)) ++ encO b1 (enc m.call))).length + (enc m.own).length ≤ 1099511627776 := by have := HL.out; simp only [encO, if_true, List.length_append] at this ⊢; omega
      go_wp2_with fail
      refine (aints1 HBk1.out m.own n5 hll).mono ?_
      rintro e w6 ⟨s6, rfl, hb6, hg6⟩
      have HX6 := hid (hg6.block HBk1.out HXk1.out (by decide))
      have HB6 : Hid (Bf wB w6 s6 (us ++ (((enc m.kind ++ (enc m.frm ++ enc m.dst)) ++ encO b1 (enc m.call)) ++ encO true (enc m.own)))) := by unfold Hid; simpa [encO] using hb6
      have HG6 : Hid (Gw w w6 s s6) := HGk1.out.trans hg6
      clear hb6 hg6 z0 z1 z2 z3 z4 z5 z6 z7 z8 z9 z10 hll
      try dsimp only
      go_wp2_with fail
      go_meet
      exact ⟨s6, rfl, HB6.out, HG6.out, HX6.out⟩
  generalize wc = k2 at *
  obtain ⟨t2, rfl, hb, hg, hx⟩ := hcut
  have HBk2 := hid hb
  have HGk2 := hid hg
  have HXk2 := hid hx
  clear hb hg hx HN2
  have HN4 : Hid (∀ W, Calls Tryz.prog 61 #[.int .u64 (fk : Int), .int .u64 4] W fun r w' => r = .returned (.bool b4) ∧ w' = W) := fun W => name_wire fk 4 hfk (by decide) b4 (by rw [← Hb4.out, Hfk.out]; rfl) W
  go_wp2_with fail
  refine (HN4.out k2).mono ?_
  rintro _ wn ⟨rfl, hwn⟩
  rw [hwn]
  clear hwn wn
  try dsimp only
  go_upto_if 35 with fail
  go_cut [0] from 36 to 40 (fun a wx => ∃ s4 : Sl, .slice s4.p s4.n s4.c = a ∧ Bf wB wx s4 (us ++ ((((enc m.kind ++ (enc m.frm ++ enc m.dst)) ++ encO b1 (enc m.call)) ++ encO b2 (enc m.own)) ++ encO b4 (enc m.rng))) ∧ Gw w wx s s4 ∧ wx.heap[X]? = some (.cells m.cs 29 (0, 0)))
  case first =>
    cases b4 with
    | false =>
      have HB0 : Hid (Bf wB k2 t2 (us ++ ((((enc m.kind ++ (enc m.frm ++ enc m.dst)) ++ encO b1 (enc m.call)) ++ encO b2 (enc m.own)) ++ encO false (enc m.rng)))) := by unfold Hid; have := HBk2.out; simpa [encO] using this
      go_wp2_with fail
      go_meet
      exact ⟨t2, rfl, HB0.out, HGk2.out, HXk2.out⟩
    | true =>
      obtain ⟨⟨z0, z1, z2, z3, z4, z5⟩, z6, z7, z8, z9, z10⟩ := mrow11 HXk2.out
      have hll : (us ++ (((enc m.kind ++ (enc m.frm ++ enc m.dst)) ++ encO b1 (enc m.call)) ++ encO b2 (enc m.own))).length + (enc m.rng).length ≤ 1099511627776 := by have := HL.out; simp only [encO, if_true, List.length_append] at this ⊢; omega
      go_wp2_with fail
      refine (aints1 HBk2.out m.rng n6 hll).mono ?_
      rintro e w6 ⟨s6, rfl, hb6, hg6⟩
      have HX6 := hid (hg6.block HBk2.out HXk2.out (by decide))
      have HB6 : Hid (Bf wB w6 s6 (us ++ ((((enc m.kind ++ (enc m.frm ++ enc m.dst)) ++ encO b1 (enc m.call)) ++ encO b2 (enc m.own)) ++ encO true (enc m.rng)))) := by unfold Hid; simpa [encO] using hb6
      have HG6 : Hid (Gw w w6 s s6) := HGk2.out.trans hg6
      clear hb6 hg6 z0 z1 z2 z3 z4 z5 z6 z7 z8 z9 z10 hll
      try dsimp only
      go_wp2_with fail
      go_meet
      exact ⟨s6, rfl, HB6.out, HG6.out, HX6.out⟩
  generalize wc = k3 at *
  obtain ⟨t3, rfl, hb, hg, hx⟩ := hcut
  have HBk3 := hid hb
  have HGk3 := hid hg
  have HXk3 := hid hx
  clear hb hg hx HN4
  have HN8 : Hid (∀ W, Calls Tryz.prog 61 #[.int .u64 (fk : Int), .int .u64 8] W fun r w' => r = .returned (.bool b8) ∧ w' = W) := fun W => name_wire fk 8 hfk (by decide) b8 (by rw [← Hb8.out, Hfk.out]; rfl) W
  go_wp2_with fail
  refine (HN8.out k3).mono ?_
  rintro _ wn ⟨rfl, hwn⟩
  rw [hwn]
  clear hwn wn
  try dsimp only
  go_upto_if 42 with fail
  go_cut [0] from 43 to 46 (fun a wx => ∃ s4 : Sl, .slice s4.p s4.n s4.c = a ∧ Bf wB wx s4 (us ++ (((((enc m.kind ++ (enc m.frm ++ enc m.dst)) ++ encO b1 (enc m.call)) ++ encO b2 (enc m.own)) ++ encO b4 (enc m.rng)) ++ encO b8 (encT (bsk m.key)))) ∧ Gw w wx s s4 ∧ wx.heap[X]? = some (.cells m.cs 29 (0, 0)))
  case first =>
    cases b8 with
    | false =>
      have HB0 : Hid (Bf wB k3 t3 (us ++ (((((enc m.kind ++ (enc m.frm ++ enc m.dst)) ++ encO b1 (enc m.call)) ++ encO b2 (enc m.own)) ++ encO b4 (enc m.rng)) ++ encO false (encT (bsk m.key))))) := by unfold Hid; have := HBk3.out; simpa [encO] using this
      go_wp2_with fail
      go_meet
      exact ⟨t3, rfl, HB0.out, HGk3.out, HXk3.out⟩
    | true =>
      obtain ⟨⟨z0, z1, z2, z3, z4, z5⟩, z6, z7, z8, z9, z10⟩ := mrow11 HXk3.out
      have hll : (us ++ ((((enc m.kind ++ (enc m.frm ++ enc m.dst)) ++ encO b1 (enc m.call)) ++ encO b2 (enc m.own)) ++ encO b4 (enc m.rng))).length + (encT (bsk m.key)).length ≤ 1099511627776 := by have := HL.out; simp only [encO, if_true, List.length_append] at this ⊢; omega
      go_wp2_with fail
      refine (atext_ok HBk3.out m.key (by omega) hll).mono ?_
      rintro e w6 ⟨s6, rfl, hb6, hg6⟩
      have HX6 := hid (hg6.block HBk3.out HXk3.out (by decide))
      have HB6 : Hid (Bf wB w6 s6 (us ++ (((((enc m.kind ++ (enc m.frm ++ enc m.dst)) ++ encO b1 (enc m.call)) ++ encO b2 (enc m.own)) ++ encO b4 (enc m.rng)) ++ encO true (encT (bsk m.key))))) := by unfold Hid; simpa [encO] using hb6
      have HG6 : Hid (Gw w w6 s s6) := HGk3.out.trans hg6
      clear hb6 hg6 z0 z1 z2 z3 z4 z5 z6 z7 z8 z9 z10 hll
      try dsimp only
      go_wp2_with fail
      go_meet
      exact ⟨s6, rfl, HB6.out, HG6.out, HX6.out⟩
  generalize wc = k4 at *
  obtain ⟨t4, rfl, hb, hg, hx⟩ := hcut
  have HBk4 := hid hb
  have HGk4 := hid hg
  have HXk4 := hid hx
  clear hb hg hx HN8
  have HN16 : Hid (∀ W, Calls Tryz.prog 61 #[.int .u64 (fk : Int), .int .u64 16] W fun r w' => r = .returned (.bool b16) ∧ w' = W) := fun W => name_wire fk 16 hfk (by decide) b16 (by rw [← Hb16.out, Hfk.out]; rfl) W
  go_wp2_with fail
  refine (HN16.out k4).mono ?_
  rintro _ wn ⟨rfl, hwn⟩
  rw [hwn]
  clear hwn wn
  try dsimp only
  go_upto_if 48 with fail
  go_cut [0] from 49 to 57 (fun a wx => ∃ s4 : Sl, .slice s4.p s4.n s4.c = a ∧ Bf wB wx s4 (us ++ ((((((enc m.kind ++ (enc m.frm ++ enc m.dst)) ++ encO b1 (enc m.call)) ++ encO b2 (enc m.own)) ++ encO b4 (enc m.rng)) ++ encO b8 (encT (bsk m.key))) ++ encO b16 (enc m.dn ++ enc m.dc))) ∧ Gw w wx s s4 ∧ wx.heap[X]? = some (.cells m.cs 29 (0, 0)))
  case first =>
    cases b16 with
    | false =>
      have HB0 : Hid (Bf wB k4 t4 (us ++ ((((((enc m.kind ++ (enc m.frm ++ enc m.dst)) ++ encO b1 (enc m.call)) ++ encO b2 (enc m.own)) ++ encO b4 (enc m.rng)) ++ encO b8 (encT (bsk m.key))) ++ encO false (enc m.dn ++ enc m.dc)))) := by unfold Hid; have := HBk4.out; simpa [encO] using this
      go_wp2_with fail
      go_meet
      exact ⟨t4, rfl, HB0.out, HGk4.out, HXk4.out⟩
    | true =>
      obtain ⟨⟨z0, z1, z2, z3, z4, z5⟩, z6, z7, z8, z9, z10⟩ := mrow11 HXk4.out
      have hll : (us ++ (((((enc m.kind ++ (enc m.frm ++ enc m.dst)) ++ encO b1 (enc m.call)) ++ encO b2 (enc m.own)) ++ encO b4 (enc m.rng)) ++ encO b8 (encT (bsk m.key)))).length + (enc m.dn ++ enc m.dc).length ≤ 1099511627776 := by have := HL.out; simp only [encO, if_true, List.length_append] at this ⊢; omega
      go_wp2_with fail
      refine (aints2 HBk4.out m.dn m.dc n7 n8 hll).mono ?_
      rintro e w6 ⟨s6, rfl, hb6, hg6⟩
      have HX6 := hid (hg6.block HBk4.out HXk4.out (by decide))
      have HB6 : Hid (Bf wB w6 s6 (us ++ ((((((enc m.kind ++ (enc m.frm ++ enc m.dst)) ++ encO b1 (enc m.call)) ++ encO b2 (enc m.own)) ++ encO b4 (enc m.rng)) ++ encO b8 (encT (bsk m.key))) ++ encO true (enc m.dn ++ enc m.dc)))) := by unfold Hid; simpa [encO] using hb6
      have HG6 : Hid (Gw w w6 s s6) := HGk4.out.trans hg6
      clear hb6 hg6 z0 z1 z2 z3 z4 z5 z6 z7 z8 z9 z10 hll
      try dsimp only
      go_wp2_with fail
      go_meet
      exact ⟨s6, rfl, HB6.out, HG6.out, HX6.out⟩
  generalize wc = k5 at *
  obtain ⟨t5, rfl, hb, hg, hx⟩ := hcut
  have HBk5 := hid hb
  have HGk5 := hid hg
  have HXk5 := hid hx
  clear hb hg hx HN16
  have HN32 : Hid (∀ W, Calls Tryz.prog 61 #[.int .u64 (fk : Int), .int .u64 32] W fun r w' => r = .returned (.bool b32) ∧ w' = W) := fun W => name_wire fk 32 hfk (by decide) b32 (by rw [← Hb32.out, Hfk.out]; rfl) W
  go_wp2_with fail
  refine (HN32.out k5).mono ?_
  rintro _ wn ⟨rfl, hwn⟩
  rw [hwn]
  clear hwn wn
  try dsimp only
  go_upto_if 59 with fail
  go_cut [0] from 60 to 63 (fun a wx => ∃ s4 : Sl, .slice s4.p s4.n s4.c = a ∧ Bf wB wx s4 (us ++ (((((((enc m.kind ++ (enc m.frm ++ enc m.dst)) ++ encO b1 (enc m.call)) ++ encO b2 (enc m.own)) ++ encO b4 (enc m.rng)) ++ encO b8 (encT (bsk m.key))) ++ encO b16 (enc m.dn ++ enc m.dc)) ++ encO b32 (encSet g.set))) ∧ Gw w wx s s4 ∧ wx.heap[X]? = some (.cells m.cs 29 (0, 0)))
  case first =>
    cases b32 with
    | false =>
      have HB0 : Hid (Bf wB k5 t5 (us ++ (((((((enc m.kind ++ (enc m.frm ++ enc m.dst)) ++ encO b1 (enc m.call)) ++ encO b2 (enc m.own)) ++ encO b4 (enc m.rng)) ++ encO b8 (encT (bsk m.key))) ++ encO b16 (enc m.dn ++ enc m.dc)) ++ encO false (encSet g.set)))) := by unfold Hid; have := HBk5.out; simpa [encO] using this
      go_wp2_with fail
      go_meet
      exact ⟨t5, rfl, HB0.out, HGk5.out, HXk5.out⟩
    | true =>
      obtain ⟨⟨z0, z1, z2, z3, z4, z5⟩, z6, z7, z8, z9, z10⟩ := mrow11 HXk5.out
      have hll : (us ++ ((((((enc m.kind ++ (enc m.frm ++ enc m.dst)) ++ encO b1 (enc m.call)) ++ encO b2 (enc m.own)) ++ encO b4 (enc m.rng)) ++ encO b8 (encT (bsk m.key))) ++ encO b16 (enc m.dn ++ enc m.dc))).length + (encSet g.set).length ≤ 1099511627776 := by have := HL.out; simp only [encO, if_true, List.length_append] at this ⊢; omega
      have hsn := HM.out.set.len
      have HS : Hid (Calls Tryz.prog 36 #[.slice t5.p t5.n t5.c, .slice m.set.p m.set.n m.set.c] k5 fun e w' => AP wB k5 t5 ((us ++ ((((((enc m.kind ++ (enc m.frm ++ enc m.dst)) ++ encO b1 (enc m.call)) ++ encO b2 (enc m.own)) ++ encO b4 (enc m.rng)) ++ encO b8 (encT (bsk m.key))) ++ encO b16 (enc m.dn ++ enc m.dc))) ++ encSet g.set) e w') := by
        have h1 := HM.out.set
        rw [← hsn] at h1
        rw [← hsn]
        refine aset_ok HBk5.out g.set h1 (by omega) (fun y hy => ?_) hll
        have := HV.out.okset.ok y hy
        have a1 := this.n0
        have a2 := this.n8
        have a3 := this.b0
        have a4 := this.bM
        exact ⟨⟨a1, by omega⟩, a3, by omega⟩
      clear hsn
      go_wp2_with fail
      refine HS.out.mono ?_
      rintro e w6 ⟨s6, rfl, hb6, hg6⟩
      have HX6 := hid (hg6.block HBk5.out HXk5.out (by decide))
      have HB6 : Hid (Bf wB w6 s6 (us ++ (((((((enc m.kind ++ (enc m.frm ++ enc m.dst)) ++ encO b1 (enc m.call)) ++ encO b2 (enc m.own)) ++ encO b4 (enc m.rng)) ++ encO b8 (encT (bsk m.key))) ++ encO b16 (enc m.dn ++ enc m.dc)) ++ encO true (encSet g.set)))) := by unfold Hid; simpa [encO] using hb6
      have HG6 : Hid (Gw w w6 s s6) := HGk5.out.trans hg6
      clear hb6 hg6 z0 z1 z2 z3 z4 z5 z6 z7 z8 z9 z10 hll
      try dsimp only
      go_wp2_with fail
      go_meet
      exact ⟨s6, rfl, HB6.out, HG6.out, HX6.out⟩
  generalize wc = k6 at *
  obtain ⟨t6, rfl, hb, hg, hx⟩ := hcut
  have HBk6 := hid hb
  have HGk6 := hid hg
  have HXk6 := hid hx
  clear hb hg hx HN32
  have HN128 : Hid (∀ W, Calls Tryz.prog 61 #[.int .u64 (fk : Int), .int .u64 128] W fun r w' => r = .returned (.bool b128) ∧ w' = W) := fun W => name_wire fk 128 hfk (by decide) b128 (by rw [← Hb128.out, Hfk.out]; rfl) W
  go_wp2_with fail
  refine (HN128.out k6).mono ?_
  rintro _ wn ⟨rfl, hwn⟩
  rw [hwn]
  clear hwn wn
  try dsimp only
  go_upto_if 65 with fail
  go_cut [0] from 66 to 71 (fun a wx => ∃ s4 : Sl, .slice s4.p s4.n s4.c = a ∧ Bf wB wx s4 (us ++ ((((((((enc m.kind ++ (enc m.frm ++ enc m.dst)) ++ encO b1 (enc m.call)) ++ encO b2 (enc m.own)) ++ encO b4 (enc m.rng)) ++ encO b8 (encT (bsk m.key))) ++ encO b16 (enc m.dn ++ enc m.dc)) ++ encO b32 (encSet g.set)) ++ encO b128 (enc m.ws.n))) ∧ Gw w wx s s4 ∧ wx.heap[X]? = some (.cells m.cs 29 (0, 0)))
  case first =>
    cases b128 with
    | false =>
      have HB0 : Hid (Bf wB k6 t6 (us ++ ((((((((enc m.kind ++ (enc m.frm ++ enc m.dst)) ++ encO b1 (enc m.call)) ++ encO b2 (enc m.own)) ++ encO b4 (enc m.rng)) ++ encO b8 (encT (bsk m.key))) ++ encO b16 (enc m.dn ++ enc m.dc)) ++ encO b32 (encSet g.set)) ++ encO false (enc m.ws.n)))) := by unfold Hid; have := HBk6.out; simpa [encO] using this
      go_wp2_with fail
      go_meet
      exact ⟨t6, rfl, HB0.out, HGk6.out, HXk6.out⟩
    | true =>
      obtain ⟨⟨z0, z1, z2, z3, z4, z5⟩, z6, z7, z8, z9, z10⟩ := mrow11 HXk6.out
      have hll : (us ++ (((((((enc m.kind ++ (enc m.frm ++ enc m.dst)) ++ encO b1 (enc m.call)) ++ encO b2 (enc m.own)) ++ encO b4 (enc m.rng)) ++ encO b8 (encT (bsk m.key))) ++ encO b16 (enc m.dn ++ enc m.dc)) ++ encO b32 (encSet g.set))).length + (enc m.ws.n).length ≤ 1099511627776 := by have := HL.out; simp only [encO, if_true, List.length_append] at this ⊢; omega
      go_wp2_with fail
      refine (aints1 HBk6.out m.ws.n (by omega) hll).mono ?_
      rintro e w6 ⟨s6, rfl, hb6, hg6⟩
      have HX6 := hid (hg6.block HBk6.out HXk6.out (by decide))
      have HB6 : Hid (Bf wB w6 s6 (us ++ ((((((((enc m.kind ++ (enc m.frm ++ enc m.dst)) ++ encO b1 (enc m.call)) ++ encO b2 (enc m.own)) ++ encO b4 (enc m.rng)) ++ encO b8 (encT (bsk m.key))) ++ encO b16 (enc m.dn ++ enc m.dc)) ++ encO b32 (encSet g.set)) ++ encO true (enc m.ws.n)))) := by unfold Hid; simpa [encO] using hb6
      have HG6 : Hid (Gw w w6 s s6) := HGk6.out.trans hg6
      clear hb6 hg6 z0 z1 z2 z3 z4 z5 z6 z7 z8 z9 z10 hll
      try dsimp only
      go_wp2_with fail
      go_meet
      exact ⟨s6, rfl, HB6.out, HG6.out, HX6.out⟩
  generalize wc = k7 at *
  obtain ⟨t7, rfl, hb, hg, hx⟩ := hcut
  have HBk7 := hid hb
  have HGk7 := hid hg
  have HXk7 := hid hx
  clear hb hg hx HN128
  obtain ⟨⟨z0, z1, z2, z3, z4, z5⟩, z6, z7, z8, z9, z10⟩ := mrow11 HXk7.out
  go_wp2_with fail
  go_loopw [0, 7, 75] (fun a x b wt => ∃ (i : Nat) (s1 : Sl), a = .slice s1.p s1.n s1.c ∧ b = .int .i64 (i : Nat) ∧ i ≤ m.ws.n ∧ Bf wB wt s1 ((us ++ ((((((((enc m.kind ++ (enc m.frm ++ enc m.dst)) ++ encO b1 (enc m.call)) ++ encO b2 (enc m.own)) ++ encO b4 (enc m.rng)) ++ encO b8 (encT (bsk m.key))) ++ encO b16 (enc m.dn ++ enc m.dc)) ++ encO b32 (encSet g.set)) ++ encO b128 (enc m.ws.n))) ++ fw (g.ws.take i)) ∧ Gw w wt s s1) (fun _ _ b _ => m.ws.n - (intOf b).toNat)
  case atStart => exact ⟨0, t7, rfl, rfl, by omega, by simpa [fw] using HBk7.out, HGk7.out⟩
  case round =>
    clear z0 z1 z2 z3 z4 z5 z6 z7 z8 z9 z10
    obtain ⟨i, s1, rfl, rfl, hi, hb, hg⟩ := hrel
    have HBr := hid hb
    have HGr := hid hg
    clear hb hg
    by_cases hlt : i < m.ws.n
    · have h1 : ((i : Nat) : Int) < (m.ws.n : Int) := by omega
      have hil : i < g.ws.length := by have := HM.out.ws.rl; omega
      have HW := hid (HM.out.ws.kept0 HBr.out.nw.ap)
      obtain ⟨P, o, hP, hPl, c0, c1, c2, c3, c4, c5⟩ := HW.out.cells i hlt
      obtain ⟨e, He⟩ : ∃ e, Hid (e = gE es i) := ⟨_, rfl⟩
      rw [← He.out] at c0 c1 c2 c3 c4 c5
      have HC : Hid (∀ W, Bf wB W s1 ((us ++ ((((((((enc m.kind ++ (enc m.frm ++ enc m.dst)) ++ encO b1 (enc m.call)) ++ encO b2 (enc m.own)) ++ encO b4 (enc m.rng)) ++ encO b8 (encT (bsk m.key))) ++ encO b16 (enc m.dn ++ enc m.dc)) ++ encO b32 (encSet g.set)) ++ encO b128 (enc m.ws.n))) ++ fw (g.ws.take i)) → Calls Tryz.prog 38 #[.slice s1.p s1.n s1.c, .agg #[.int .i64 e.n, .int .i64 e.c, .string e.k, .bool e.d, .slice e.v.p e.v.n e.v.c, .slice e.x.p e.x.n e.x.c]] W fun e w' => AP wB W s1 (((us ++ ((((((((enc m.kind ++ (enc m.frm ++ enc m.dst)) ++ encO b1 (enc m.call)) ++ encO b2 (enc m.own)) ++ encO b4 (enc m.rng)) ++ encO b8 (encT (bsk m.key))) ++ encO b16 (enc m.dn ++ enc m.dc)) ++ encO b32 (encSet g.set)) ++ encO b128 (enc m.ws.n))) ++ fw (g.ws.take i)) ++ encW (gR g.ws i)) e w') := fun W hW => by
        refine awrite_ok hW e (gR g.ws i) (by rw [He.out]; exact HM.out.ws.each i hlt) (HV.out.good _ (by rw [gR_eq _ _ hil]; exact List.getElem_mem _)) ?_
        have a := fw_le g.ws (i + 1)
        rw [fw_take hil] at a
        simp only [List.length_append] at a ⊢
        have := HL.out
        simp only [List.length_append] at this
        omega
      obtain ⟨w3, hw3⟩ : ∃ w3, w3 = wr.alloc (.cells #[.int .i64 e.n, .int .i64 e.c, .string e.k, .bool e.d, .slice e.v.p e.v.n e.v.c, .slice e.x.p e.x.n e.x.c] 37) := ⟨_, rfl⟩
      have HX3 : Hid (w3.heap[wr.heap.size]? = some (.cells #[.int .i64 e.n, .int .i64 e.c, .string e.k, .bool e.d, .slice e.v.p e.v.n e.v.c, .slice e.x.p e.x.n e.x.c] 37 (0, 0))) := by unfold Hid; rw [hw3]; exact heap_alloc_new wr _
      have HA3 : Hid (Apart [] wr w3) := by unfold Hid; rw [hw3]; exact (Apart.refl [] wr).alloc _
      have HB3 := hid (HBr.out.kept HA3.out)
      obtain ⟨Y, HY⟩ : ∃ Y, Hid (Y = wr.heap.size) := ⟨_, rfl⟩
      rw [← HY.out] at HX3
      obtain ⟨y0, y1, y2, y3, y4, y5⟩ := rowv6 HX3.out
      generalize m.ws.p = mp at *
      subst hP
      go_upto_region 20 with fail
      rw [← hw3, ← HY.out]
      clear hw3 c0 c1 c2 c3 c4 c5
      go_wp2_with fail
      refine (HC.out w3 HB3.out).mono ?_
      rintro e6 w6 ⟨s6, rfl, hb6, hg6⟩
      have HB6 : Hid (Bf wB w6 s6 ((us ++ ((((((((enc m.kind ++ (enc m.frm ++ enc m.dst)) ++ encO b1 (enc m.call)) ++ encO b2 (enc m.own)) ++ encO b4 (enc m.rng)) ++ encO b8 (encT (bsk m.key))) ++ encO b16 (enc m.dn ++ enc m.dc)) ++ encO b32 (encSet g.set)) ++ encO b128 (enc m.ws.n))) ++ fw (g.ws.take (i + 1)))) := by unfold Hid; rw [fw_take hil]; simpa using hb6
      have HG6 : Hid (Gw w w6 s s6) := (HGr.out.trans (Gw.of HA3.out)).trans hg6
      clear hb6 hg6 y0 y1 y2 y3 y4 y5
      try dsimp only
      go_wp2_with fail
      go_roundw
      case rel => exact ⟨i + 1, s6, rfl, by go_num, by omega, HB6.out, HG6.out⟩
      case measure => simp [intOf]; omega
    · have h1 : ¬ ((i : Nat) : Int) < (m.ws.n : Int) := by omega
      have HFi : Hid (Bf wB wr s1 (us ++ (((((((((enc m.kind ++ (enc m.frm ++ enc m.dst)) ++ encO b1 (enc m.call)) ++ encO b2 (enc m.own)) ++ encO b4 (enc m.rng)) ++ encO b8 (encT (bsk m.key))) ++ encO b16 (enc m.dn ++ enc m.dc)) ++ encO b32 (encSet g.set)) ++ encO b128 (enc m.ws.n)) ++ fw g.ws))) := by
        unfold Hid
        have := HBr.out
        rw [List.take_of_length_le (by have := HM.out.ws.rl; omega), List.append_assoc] at this
        exact this
      go_wp2_with fail
      go_ret
      exact ⟨s1, rfl, by simpa only [List.append_assoc] using HFi.out, HGr.out⟩
end Go.Proofs.YtddffdcjhleejaaGreat.ds
