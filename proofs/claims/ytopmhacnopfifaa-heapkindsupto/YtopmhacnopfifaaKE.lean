import Derived.Deep.CutRange
import Derived.Test.YtopmhacnopfifaaKB
import Derived.Test.YtopmhacnopfifaaKC
import Derived.Test.YtopmhacnopfifaaKD
import Derived.Deep.CutBlock
import Derived.Great.BuildSlice
import Derived.Laws.StructEq
namespace Go.Proofs.Ytopmhacnopfifaa.kk
open Go.ChangeShapes Go.WideShapes Go.ChangeAt Go.RowKit
set_option linter.unusedVariables false
set_option linter.unusedSimpArgs false

set_option maxRecDepth 100000 in
theorem nil66 (a : Addr) (W : World) : Sem.run Try.prog (binOp BinOp.eql 66 (Value.pointer (some a)) (Value.pointer none)) W = .ok (.bool false) W := by first | rfl | (simp [binOp, Try.underlying66, go_sem]; done)
set_option maxRecDepth 100000 in
theorem nil69 (a : Addr) (W : World) : Sem.run Try.prog (binOp BinOp.eql 69 (Value.pointer (some a)) (Value.pointer none)) W = .ok (.bool false) W := by first | rfl | (simp [binOp, Try.underlying69, go_sem]; done)
set_option maxRecDepth 100000 in
theorem nil74 (a : Addr) (W : World) : Sem.run Try.prog (binOp BinOp.eql 74 (Value.pointer (some a)) (Value.pointer none)) W = .ok (.bool false) W := by first | rfl | (simp [binOp, Try.underlying74, go_sem]; done)
def oA : Obj := .cells #[im.freshF, .slice none 0 0, .int .i64 0] 107
def oB : Obj := .cells #[nm.freshF, .slice none 0 0, .int .i64 0] 110
def oC : Obj := .cells #[tm.callF, .slice none 0 0, .int .i64 0] 102
theorem St.start (w W : World) (T : Nat → ByteArray) (a : im.Apart [] (((w.alloc oA).alloc oB).alloc oC) W) : St w W w.heap.size (w.heap.size + 1) (w.heap.size + 2) T [] [] [] 0 0 0 := by
  have a1 : im.At (w.alloc oA) w.heap.size im.freshF [] (.slice none 0 0) [] 0 := im.At.new w (by simp)
  have b1 : nm.At ((w.alloc oA).alloc oB) (w.alloc oA).heap.size nm.freshF [] (.slice none 0 0) [] 0 := nm.At.new _ (by simp)
  have c1 : tm.At (((w.alloc oA).alloc oB).alloc oC) ((w.alloc oA).alloc oB).heap.size tm.callF [] (.slice none 0 0) [] 0 := tm.At.new _ (by simp)
  have aa : im.Apart [] (w.alloc oA) (((w.alloc oA).alloc oB).alloc oC) := ((im.Apart.refl _ _).alloc _).alloc _
  have ab : nm.Apart [] ((w.alloc oA).alloc oB) (((w.alloc oA).alloc oB).alloc oC) := (nm.Apart.refl _ _).alloc _
  have e1 : (w.alloc oA).heap.size = w.heap.size + 1 := by simp
  have e2 : ((w.alloc oA).alloc oB).heap.size = w.heap.size + 2 := by simp
  rw [e1] at b1
  rw [e2] at c1
  have s : St w (((w.alloc oA).alloc oB).alloc oC) w.heap.size (w.heap.size + 1) (w.heap.size + 2) T [] [] [] 0 0 0 :=
    ⟨(((im.Apart.refl _ _).alloc _).alloc _).alloc _, ⟨⟨_, a1.kept0 aa, by simp [Value.ownBlock]⟩, by intro k h1 h2; simp at h2, Nat.le_refl _⟩, ⟨⟨_, b1.kept0 ab, by simp [Value.ownBlock]⟩, by intro k h1 h2; simp at h2, by omega⟩, ⟨⟨_, c1, by simp [Value.ownBlock]⟩, by intro k h1 h2; simp at h2, by omega⟩, .nil, .nil, .nil, by simp, rfl, rfl, rfl⟩
  exact s.keep a
theorem rows_le {l : List im.E} {nn : List tm.E} {N : Nat} (r : R4 l nn N) (hm : ∀ e ∈ nn, e.m = e.a) : (∀ i, i + 1 < N → (im.g l (i + 1)).r ≤ (im.g l i).r) ∧ (∀ i, i + 1 < N → (tm.g nn i).c ≤ (tm.g nn (i + 1)).c ∧ ((tm.g nn (i + 1)).c = (tm.g nn i).c → (tm.g nn i).m ≤ (tm.g nn (i + 1)).m)) := by
  refine ⟨fun i hi => ?_, fun i hi => ?_⟩
  · have h1 : i < l.length := by rw [r.ll]; omega
    have h2 : i + 1 < l.length := by rw [r.ll]; omega
    have := List.pairwise_iff_getElem.1 r.sl i (i + 1) h1 h2 (by omega)
    rw [ilex_false] at this
    rw [im.g_eq _ _ h1, im.g_eq _ _ h2]
    omega
  · have h1 : i < nn.length := by rw [r.nl]; omega
    have h2 : i + 1 < nn.length := by rw [r.nl]; omega
    have := List.pairwise_iff_getElem.1 r.sn i (i + 1) h1 h2 (by omega)
    rw [tlex_false] at this
    rw [tm.g_eq _ _ h1, tm.g_eq _ _ h2, hm _ (List.getElem_mem h1), hm _ (List.getElem_mem h2)]
    omega
theorem names_ok {w : World} {ms : List nm.E} {M : Nat} {T : Nat → ByteArray} (hl : ms.length = M) (g : ∀ e ∈ ms, 0 ≤ e.a ∧ e.a < M ∧ e.r = T e.a.toNat) (li : ∀ e ∈ ms, Li w e.m e.a) (i : Nat) (hi : i < M) :
    (nm.g ms i).a.toNat < M ∧ ∃ L, (nm.g ms i).m = ⟨some ⟨L, 0, none⟩, 1, 1⟩ ∧ w.heap[L]? = some (.cells #[.int .i64 ((nm.g ms i).a.toNat : Int)] 3 (0, 0)) ∧ (nm.g ms i).r = T (nm.g ms i).a.toNat := by
  have h1 : i < ms.length := by omega
  rw [nm.g_eq _ _ h1]
  have hm := List.getElem_mem h1
  obtain ⟨g1, g2, g3⟩ := g _ hm
  obtain ⟨L, l1, l2⟩ := li _ hm
  refine ⟨by omega, L, l1, ?_, g3⟩
  rw [Int.toNat_of_nonneg g1]
  exact l2
theorem names_le {ms : List nm.E} {M : Nat} {T : Nat → ByteArray} (hl : ms.length = M) (g : ∀ e ∈ ms, 0 ≤ e.a ∧ e.a < M ∧ e.r = T e.a.toNat) (s : ms.Pairwise (fun x y => nm.lex y x = false)) (i : Nat) (hi : i + 1 < M) :
    (T (nm.g ms i).a.toNat).size ≤ (T (nm.g ms (i + 1)).a.toNat).size ∧ ((T (nm.g ms i).a.toNat).size = (T (nm.g ms (i + 1)).a.toNat).size → (nm.g ms i).a.toNat ≤ (nm.g ms (i + 1)).a.toNat) := by
  have h1 : i < ms.length := by omega
  have h2 : i + 1 < ms.length := by omega
  have := List.pairwise_iff_getElem.1 s i (i + 1) h1 h2 (by omega)
  rw [nlex_false] at this
  rw [nm.g_eq _ _ h1, nm.g_eq _ _ h2, ← (g _ (List.getElem_mem h1)).2.2, ← (g _ (List.getElem_mem h2)).2.2]
  have g1 := g _ (List.getElem_mem h1)
  have g2 := g _ (List.getElem_mem h2)
  omega
set_option maxHeartbeats 16000000 in
set_option maxRecDepth 1000000 in
theorem kinds_walk (w : World) (pn : Option Addr) (N cn : Nat) (f : Nat → Int) (hN : N ≤ 1048576) (hI : Ints w pn N f) (pt : Option Addr) (M ct : Nat) (T : Nat → ByteArray) (hM : M ≤ 1048576) (hT : Strs w pt M T) :
    Calls Try.prog 7 #[.slice pn N cn, .slice pt M ct] w fun r w' => r = .returned (.bool true) ∧ Below w.heap.size w w' := by
  have HI := hid hI
  have HT := hid hT
  have q66 := nil66
  have q69 := nil69
  have q74 := nil74
  clear hI hT
  go_enter Try.func7, Try.ntmps7
  go_wp2_with fail
  refine (im.new_at _ _ _).mono ?_
  rintro r w1 ⟨rfl, rfl⟩
  go_wp2_with fail
  refine (nm.new_at _ _ _).mono ?_
  rintro r w2 ⟨rfl, rfl⟩
  go_wp2_with fail
  refine (tm.new_at _ _ _).mono ?_
  rintro r w3 ⟨rfl, rfl⟩
  go_wp2_with fail
  refine (hp.able_ok _).mono ?_
  rintro r W1 ⟨rfl, a1⟩
  have hS := St.start w W1 T (of_hp a1)
  have HS := hid hS
  clear hS a1
  go_upto_block 0 with fail
  refine blk0 hN HI hM HT HS (fun _ _ _ _ _ h => h) (fun ea eb ec W2 _ _ _ _ _ _ _ _ _ _ _ _ _ _ _ _ _ _ _ _ _ _ _ _ _ _ _ _ _ _ _ _ _ _ _ _ _ _ _ _ _ _ _ _ hq0 => ?_)
  have HS2 := hid hq0
  clear hq0 HS
  dsimp only
  have hA := HS2.out.a.all N HS2.out.la
  go_wp2_with fail
  refine hA.mono ?_
  clear hA
  rintro r W3 ⟨Bl, l, rfl, ol, pl, sl, a3⟩
  have HS3 := hid (HS2.out.keep a3)
  have hB := HS3.out.b.all M HS3.out.lb
  have HOL := hid ol
  clear ol a3
  go_wp2_with fail
  refine hB.mono ?_
  clear hB
  rintro r W4 ⟨Bm, ms, rfl, om, pm, sm, a4⟩
  have HS4 := hid (HS3.out.keep a4)
  have HOL4 := hid (im.own_apart HOL.out a4 (by simp))
  have hC := HS4.out.c.all N HS4.out.lc
  have HOM := hid om
  clear om a4 HOL
  go_wp2_with fail
  refine hC.mono ?_
  clear hC
  rintro r W5 ⟨Bn, nn, rfl, on, pq, sn, a5⟩
  have HS5 := hid (HS4.out.keep a5)
  have HOL5 := hid (im.own_apart HOL4.out a5 (by simp))
  have HOM5 := hid (im.own_apart HOM.out a5 (by simp))
  have HON5 := hid on
  have r4 : R4 l nn N := ⟨by rw [pl.length_eq]; exact HS5.out.la, by rw [pq.length_eq]; exact HS5.out.lc, sl, sn, pw_perm pl HS5.out.ga.di, pw_perm pq HS5.out.gc.di⟩
  have HR4 := hid r4
  have HML := hid (pm.length_eq.trans HS5.out.lb)
  obtain ⟨sL, sN⟩ := rows_le r4 (fun e he => (HS5.out.gc.ok e (pq.subset he)).2.2)
  have HSL := hid sL
  have HSN := hid sN
  have HGB := hid (fun e (he : e ∈ ms) => HS5.out.gb.ok e (pm.subset he))
  have HLI5 := hid (fun e (he : e ∈ ms) => HS5.out.li e (pm.subset he))
  have HSMS := hid sm
  have HPL := hid pl
  have HPQ := hid pq
  clear on a5 HOL4 HOM r4 sL sN sl sn sm pm pl pq HS2 HS3 HS4
  go_upto_block 2 with fail
  refine blk2 (w0 := w) (A := 0) (B := 0) (C := 0) (T := T) (f := f) (pn := pn) (cn := cn) (pt := pt) (M := M) (ct := ct) hN HOL5 HON5 HR4.out.ll HR4.out.nl HSL.out HSN.out (fun _ _ _ _ _ h => h) (fun W6 _ _ _ _ _ _ _ _ _ _ _ _ _ _ _ _ _ _ _ _ _ _ _ _ _ _ _ _ _ _ _ _ _ _ _ _ _ _ _ _ _ _ _ _ _ _ _ _ _ _ _ _ _ _ _ _ _ _ _ _ hq0 => ?_)
  have HA6 := hid hq0
  clear hq0 HSL HSN
  dsimp only
  go_upto_block 4 with fail
  refine blk4 (A := 0) (B := 0) (C := 0) (f := f) (pn := pn) (N := N) (cn := cn) (K := fun i => (nm.g ms i).a.toNat) hM HT (hid (HS5.out.ap.trans HA6.out)) (hid (im.own_apart HOM5.out HA6.out (by simp))) HML.out (hid (fun i hi => names_ok HML.out HGB.out (fun e he => (HLI5.out e he).mv (w0 := w) (.of (ts := []) HA6.out) (by simp)) i hi)) (hid (fun i hi => names_le HML.out HGB.out HSMS.out i hi)) (fun _ _ _ _ _ h => h) (fun W7 _ _ _ _ _ _ _ _ _ _ _ _ _ _ _ _ _ _ _ _ _ _ _ _ _ _ _ _ _ _ _ _ _ _ _ _ _ _ _ _ _ _ _ _ _ _ _ _ _ _ _ _ _ _ _ _ _ _ _ _ _ _ _ _ _ _ _ _ _ _ _ _ _ _ _ _ _ _ _ _ _ _ _ _ _ _ _ _ _ _ _ _ _ _ _ _ _ _ _ _ _ _ _ _ _ _ _ hq0 => ?_)
  have HA7 := hid (HA6.out.trans hq0)
  clear hq0 HA6
  dsimp only
  have HS7 := hid (HS5.out.keep HA7.out)
  have hP : P4 w W7 w.heap.size (w.heap.size + 1) (w.heap.size + 2) Bl Bn l nn eb N N M N 0 0 :=
    ⟨HS7.out.ap, ⟨ea, HS7.out.a, by simpa using HPL.out⟩, HS7.out.b, ⟨ec, HS7.out.c, by rw [Nat.sub_zero, List.take_of_length_le (by rw [HR4.out.nl]; exact Nat.le_refl _)]; exact HPQ.out⟩, im.own_apart HOL5.out HA7.out (by simp), im.own_apart HON5.out HA7.out (by simp)⟩
  have HP := hid hP
  clear hP HLI5 HGB HSMS HOM5 HML HA7
  go_upto_block 6 with fail
  refine blk6 (T := T) (f := f) (pn := pn) (cn := cn) (pt := pt) (M := M) (ct := ct) hN HR4 HP (fun _ _ _ _ _ h => h) (fun W8 _ _ _ _ _ _ _ _ _ _ _ _ _ _ _ _ _ _ _ _ _ _ _ _ _ _ _ _ _ _ _ _ _ _ _ _ _ _ _ _ _ _ _ _ _ _ _ _ _ _ _ _ _ hq0 => ?_)
  have HP8 := hid hq0
  clear hq0 HP
  dsimp only
  obtain ⟨ea8, ha8, pa8⟩ := HP8.out.a
  obtain ⟨ec8, hc8, pc8⟩ := HP8.out.c
  have la8 : ea8.length = 0 := by rw [← pa8.length_eq, List.length_drop, HR4.out.ll]; omega
  have lc8 : ec8.length = 0 := by rw [← pc8.length_eq, List.length_take]; omega
  have kA : Calls Try.prog 39 #[.pointer (some ⟨w.heap.size, 0, none⟩)] W8 fun r w' => r = .returned (.int .i64 0) ∧ w' = W8 := ha8.len 0 la8
  have kC : Calls Try.prog 40 #[.pointer (some ⟨w.heap.size + 2, 0, none⟩)] W8 fun r w' => r = .returned (.int .i64 0) ∧ w' = W8 := hc8.len 0 lc8
  have kB := HP8.out.b.len M HS7.out.lb
  clear ha8 pa8 hc8 pc8 la8 lc8 HS7 HS5 HPL HPQ
  go_wp2_with fail
  refine kA.mono ?_
  clear kA
  rintro r w9 ⟨rfl, rfl⟩
  go_wp2_with fail
  refine kC.mono ?_
  clear kC
  rintro r w9 ⟨rfl, rfl⟩
  go_wp2_with fail
  refine kB.mono ?_
  clear kB
  rintro r w9 ⟨rfl, rfl⟩
  go_wp2
  go_ret
  exact ⟨rfl, HP8.out.ap.below (Nat.le_refl _) (by simp)⟩
end Go.Proofs.Ytopmhacnopfifaa.kk
