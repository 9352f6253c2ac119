import Derived.Test.YtokaeiahhmaokaaGreatDoorV1
import Derived.Test.YtokaeiahhmaokaaGreatDoorV32
import Derived.Deep.CutRange
namespace Go.Proofs.YtokaeiahhmaokaaGreatDoor.ds
open Go.ChangeShapes Go.WideShapes Go.ChangeAt Go.RowKit Go.Sort
set_option linter.unusedVariables false
set_option linter.unusedSimpArgs false
/-- the first half of the document's Gather: the writes of the first one's key, each in a list of its own -/
structure G1 (w wr : World) (s : Sl) (Bs : List Nat) (L : List E) (key0 : ByteArray) (k f : Value) : Prop where
  sg : Sg w wr s Bs (L.filter (fun e => keq e.k key0))
  st : (L = [] ∧ k = .string ⟨#[]⟩ ∧ f = .bool true) ∨ (L ≠ [] ∧ k = .string key0 ∧ f = .bool false)
theorem catL_pre (F : Nat → Sl × List E × List Wr) {i n j : Nat} (h : i < n) : catL F i ++ (F i).2.1.take j <+: catL F n := by
  have h1 : catL F i ++ (F i).2.1.take j <+: catL F (i + 1) := (List.prefix_append_right_inj _).2 (List.take_prefix _ _)
  have h2 : ∀ k, catL F (i + 1) <+: catL F (i + 1 + k) := by
    intro k
    induction k with
    | zero => exact List.prefix_refl _
    | succ k ih => exact ih.trans (List.prefix_append _ _)
  have := h2 (n - (i + 1))
  rw [show i + 1 + (n - (i + 1)) = n from by omega] at this
  exact h1.trans this
set_option maxHeartbeats 16000000 in
set_option maxRecDepth 100000 in
theorem rgather_ok (w : World) (p : Option Addr) (n cc : Nat) (F : Nat → Sl × List E × List Wr) (h : Sets w p n F) (hn : n ≤ 1048576) (hT : totL F n ≤ 1048576) (hcl : ∀ i, i ≤ n → (catL F i).length = totL F i) (R : E → Wr) (hR : Rdg w R (catL F n)) :
    Calls Tryz.prog 15 #[.slice p n cc] w fun r w' => ∃ (s : Sl) (L3 : List E), r = .returned s.v ∧ OwnE w w' s L3 ∧ L3.map R = gathW ((catL F n).map R) ∧ ∀ e ∈ L3, e ∈ catL F n := by
  have HS := hid h
  have HCL := hid hcl
  have HR := hid hR
  obtain ⟨key0, Hkey⟩ : ∃ key0, Hid (key0 = (gE (catL F n) 0).k) := ⟨_, rfl⟩
  clear h hcl hR
  go_enter Tryz.func15, Tryz.ntmps15
  go_wp2_with fail
  go_loopw [3, 4, 5, 6] (fun u k f v wr => ∃ (i : Nat) (s : Sl) (Bs : List Nat), u = s.v ∧ v = .int .i64 (i : Nat) ∧ i ≤ n ∧ G1 w wr s Bs (catL F i) key0 k f) (fun _ _ _ v _ => n - (intOf v).toNat)
  case atStart => exact ⟨0, ⟨none, 0, 0⟩, [], rfl, rfl, Nat.zero_le _, Sg.nil _ _ (Apart.refl _ _), .inl ⟨rfl, rfl, rfl⟩⟩
  case round =>
    obtain ⟨i, s, Bs, rfl, rfl, hi, hg⟩ := hrel
    have HG := hid hg
    clear hg
    by_cases hlt : i < n
    · obtain ⟨P, o, rfl, hP, hc⟩ := HS.out (by omega)
      obtain ⟨cc0, hin⟩ := hc i hlt
      have HIN := hid hin
      have HCC := hid cc0
      obtain ⟨t, Ht⟩ : ∃ t, Hid (t = (F i).1) := ⟨_, rfl⟩
      obtain ⟨es, Hes⟩ : ∃ es, Hid (es = (F i).2.1) := ⟨_, rfl⟩
      rw [← Ht.out, ← Hes.out] at HIN
      rw [← Ht.out] at HCC
      have htn := HIN.out.n
      have HPT : Hid (∀ X, Apart [] w X → X.cell? ⟨P, o + i, none⟩ = some (.slice t.p t.n t.c)) := fun X a => (a.cell hP (by simp)).trans HCC.out
      have HEL : Hid (es.length = t.n) := HIN.out.le.len
      have HLB : Hid ((catL F i).length + t.n ≤ 1500000) := by
        have h1 := HCL.out i hi
        have h2 := totL_le F (show i + 1 ≤ n from hlt)
        have h3 : totL F (i + 1) = totL F i + (F i).1.n := rfl
        rw [← Ht.out] at h3
        unfold Hid; omega
      have HPR : Hid (∀ j, catL F i ++ es.take j <+: catL F n) := fun j => by rw [Hes.out]; exact catL_pre F hlt
      clear hc cc0 hin
      have p0 := HPT.out wr HG.out.sg.nw.ap
      have hiI : ((i : Nat) : Int) < (n : Int) := by omega
      unfold Sl.v
      go_wp2_with fail
      clear p0
      go_loopw [3, 4, 5, 7] (fun u k f v wr => ∃ (j : Nat) (s : Sl) (Bs : List Nat), u = s.v ∧ v = .int .i64 (j : Nat) ∧ j ≤ t.n ∧ G1 w wr s Bs (catL F i ++ es.take j) key0 k f) (fun _ _ _ v _ => t.n - (intOf v).toNat)
      case atStart => exact ⟨0, s, Bs, rfl, rfl, Nat.zero_le _, by simpa using HG.out⟩
      case round =>
        obtain ⟨j, s, Bs, rfl, rfl, hj, hg⟩ := hrel
        clear HG
        have HGG := hid hg
        have p0 := HPT.out wr hg.sg.nw.ap
        clear hg
        by_cases hlt2 : j < t.n
        · have hjI : ((j : Nat) : Int) < (t.n : Int) := by omega
          obtain ⟨Q, o2, hQ, _, hcs⟩ := (HIN.out.le.kept0 HGG.out.sg.nw.ap).at (by omega)
          obtain ⟨k0, k1, k2, k3, k4, k5⟩ := hcs j hlt2
          obtain ⟨x, Hx⟩ : ∃ x, Hid (x = gE es j) := ⟨_, rfl⟩
          rw [← Hx.out] at k0 k1 k2 k3 k4 k5
          unfold Sl.v at k4 k5
          rw [hQ] at p0
          have HSN : Hid (catL F i ++ es.take (j + 1) = (catL F i ++ es.take j) ++ [x]) := by
            unfold Hid
            have hel := HEL.out
            rw [List.take_add_one, List.getElem?_eq_getElem (by omega), ← gE_eq es j (by omega), ← Hx.out, List.append_assoc]
            rfl
          have HX0 : Hid (catL F i ++ es.take j = [] → x.k = key0) := fun e => by
            have hp := HPR.out (j + 1)
            rw [HSN.out, e, List.nil_append] at hp
            obtain ⟨l, hl⟩ := hp
            rw [Hkey.out, ← hl]; rfl
          have hs2 : s.n ≤ 2000000 := by
            have h1 := HGG.out.sg.lx
            have h2 := List.length_filter_le (fun e => keq e.k key0) (catL F i ++ es.take j)
            have h3 := HLB.out
            rw [List.length_append, List.length_take] at h2
            omega
          have HG := hid HGG.out.sg
          have HST := hid HGG.out.st
          generalize catL F i ++ es.take j = L at *
          have HA1 : Hid (Apart [] wr (wr.alloc (boxE x))) := (Apart.refl [] wr).alloc _
          have HB1 := hid (heap_alloc_new wr (boxE x))
          obtain ⟨W1, hW1'⟩ : ∃ W1, wr.alloc (boxE x) = W1 := ⟨_, rfl⟩
          rw [hW1'] at HA1 HB1
          have hW1 : wr.alloc (Obj.cells #[Value.int IntKind.i64 x.n, Value.int IntKind.i64 x.c, Value.string x.k, Value.bool x.d, Value.slice x.v.p x.v.n x.v.c, Value.slice x.x.p x.x.n x.x.c] 28) = W1 := hW1'
          have y2 : W1.cell? ⟨wr.heap.size, 2, none⟩ = some (.string x.k) := (box9 HB1.out).2.2.1
          clear hcs HGG hW1'
          unfold Sl.v
          rcases HST.out with ⟨hL, rfl, rfl⟩ | ⟨hL, rfl, rfl⟩
          · have hxk := HX0.out hL
            subst hxk
            have HKX : Hid (keq x.k x.k = true) := (keq_iff _ _).2 rfl
            have hkk : (x.k.toList == x.k.toList) = true := by simp
            clear hL HST
            go_upto_region 15 with fail
            try rw [hW1]
            clear k0 k1 k2 k3 k4 k5 p0 y2
            obtain ⟨s', w6, hrun, hsg6, hsn6⟩ := Sg.push (HG.out.kept0 HA1.out) hs2 x 22
            have HN : Hid (G1 w w6 s' (Bs ++ [W1.heap.size]) (L ++ [x]) x.k (.string x.k) (.bool false)) := ⟨by rw [List.filter_append, show [x].filter (fun e => keq e.k x.k) = [x] from by simp [HKX.out]]; exact hsg6, .inr ⟨by simp, rfl, rfl⟩⟩
            obtain ⟨x0, x1, x2, x3, x4, x5⟩ := box9 HB1.out
            have HRUN : Hid ((Builtin.append_ #[22, 22] 22 #[.slice s.p s.n s.c, .slice (some ⟨W1.heap.size + 1, 0, none⟩) 1 1]).run Tryz.prog ((W1.alloc (Obj.cells #[Value.int IntKind.i64 x.n, Value.int IntKind.i64 x.c, Value.string x.k, Value.bool x.d, Value.slice x.v.p x.v.n x.v.c, Value.slice x.x.p x.x.n x.x.c] 28)).alloc (.cells #[.slice (some ⟨W1.heap.size, 0, none⟩) 1 1] 35)) = .ok (.slice s'.p s'.n s'.c) w6) := by
              rw [show (W1.alloc (boxE x)).heap.size = W1.heap.size + 1 from Array.size_push ..] at hrun
              exact hrun
            clear hrun hsg6 hsn6 hkk hW1
            go_wp2_with (at_builtin; refine wpList_app2 rfl (.tmp 43) (.tmp 46) 22 22 rfl _ _ rfl rfl _ _ HRUN.out ?_)
            go_roundw
            case rel => exact ⟨j + 1, s', _, rfl, by go_num, by omega, by rw [HSN.out]; exact HN.out⟩
            case measure => simp [intOf]; omega
          · cases hq : keq x.k key0
            case true =>
              have hxk := (keq_iff _ _).1 hq
              subst hxk
              have HKX := hid hq
              have hkk : (x.k.toList == x.k.toList) = true := by simp
              clear hL HST hq
              go_upto_region 15 with fail
              try rw [hW1]
              clear k0 k1 k2 k3 k4 k5 p0 y2
              obtain ⟨s', w6, hrun, hsg6, hsn6⟩ := Sg.push (HG.out.kept0 HA1.out) hs2 x 22
              have HN : Hid (G1 w w6 s' (Bs ++ [W1.heap.size]) (L ++ [x]) x.k (.string x.k) (.bool false)) := ⟨by rw [List.filter_append, show [x].filter (fun e => keq e.k x.k) = [x] from by simp [HKX.out]]; exact hsg6, .inr ⟨by simp, rfl, rfl⟩⟩
              obtain ⟨x0, x1, x2, x3, x4, x5⟩ := box9 HB1.out
              have HRUN : Hid ((Builtin.append_ #[22, 22] 22 #[.slice s.p s.n s.c, .slice (some ⟨W1.heap.size + 1, 0, none⟩) 1 1]).run Tryz.prog ((W1.alloc (Obj.cells #[Value.int IntKind.i64 x.n, Value.int IntKind.i64 x.c, Value.string x.k, Value.bool x.d, Value.slice x.v.p x.v.n x.v.c, Value.slice x.x.p x.x.n x.x.c] 28)).alloc (.cells #[.slice (some ⟨W1.heap.size, 0, none⟩) 1 1] 35)) = .ok (.slice s'.p s'.n s'.c) w6) := by
                rw [show (W1.alloc (boxE x)).heap.size = W1.heap.size + 1 from Array.size_push ..] at hrun
                exact hrun
              clear hrun hsg6 hsn6 hkk hW1
              go_wp2_with (at_builtin; refine wpList_app2 rfl (.tmp 43) (.tmp 46) 22 22 rfl _ _ rfl rfl _ _ HRUN.out ?_)
              go_roundw
              case rel => exact ⟨j + 1, s', _, rfl, by go_num, by omega, by rw [HSN.out]; exact HN.out⟩
              case measure => simp [intOf]; omega
            case false =>
              have hkk : (x.k.toList == key0.toList) = false := hq
              have HN : Hid (G1 w W1 s Bs (L ++ [x]) key0 (.string key0) (.bool false)) := ⟨by rw [List.filter_append, show [x].filter (fun e => keq e.k key0) = [] from by simp [hq], List.append_nil]; exact HG.out.kept0 HA1.out, .inr ⟨by simp, rfl, rfl⟩⟩
              clear hL HST hq
              go_wp2_with fail
              try rw [hW1]
              go_roundw
              case rel => exact ⟨j + 1, s, Bs, rfl, by go_num, by omega, by rw [HSN.out]; exact HN.out⟩
              case measure => simp [intOf]; omega
        · obtain rfl : t.n = j := by omega
          have HGE : Hid (catL F i ++ es.take t.n = catL F (i + 1)) := by
            unfold Hid
            rw [List.take_of_length_le (by rw [HEL.out]; exact Nat.le_refl _), Hes.out]; rfl
          rw [HGE.out] at HGG
          unfold Sl.v
          go_wp2_with fail
          go_roundw
          case rel => exact ⟨i + 1, s, Bs, rfl, by go_num, by omega, HGG.out⟩
          case measure => simp [intOf]; omega
    · obtain rfl : n = i := by omega
      have HA0 := hid HG.out.sg.nw.ap
      have HRw : Hid (Rdg w R ((catL F n).filter (fun e => keq e.k key0))) := HR.out.sub (fun e he => (List.mem_filter.1 he).1)
      obtain ⟨L1, HL1⟩ : ∃ L1, Hid (L1 = (catL F n).filter (fun e => keq e.k key0)) := ⟨_, rfl⟩
      have hsg := HG.out.sg
      rw [← HL1.out] at hsg HRw
      have hl1 : L1.length = s.n := hsg.lx
      have hlb : L1.length ≤ 1048576 := by
        have h1 := HCL.out n (Nat.le_refl _)
        have h2 := List.length_filter_le (fun e => keq e.k key0) (catL F n)
        rw [← HL1.out] at h2
        omega
      have hsn : s.n ≤ 1048576 := by omega
      have hEa := reach_ok wr s.p s.n s.c (sgF Bs L1 R) (hsg.sets (HRw.out.kept0 HA0.out)) (by omega) (by rw [(sg_cat Bs L1 R s.n (by omega)).2]; omega) (fun i hi => by rw [(sg_cat Bs L1 R i (by omega)).1, (sg_cat Bs L1 R i (by omega)).2, List.length_take]; omega)
      rw [(sg_cat Bs L1 R s.n (by omega)).1, ← hl1, List.take_length, hl1] at hEa
      have hel : (eachE L1).length ≤ 1500000 := by
        have := each_len _ L1 rfl
        omega
      have HRL : Hid (Rdg w R (eachE L1)) := HRw.out.sub (fun e he => eachE_sub L1 e he)
      have HKL : Hid (∀ e ∈ eachE L1, keq e.k key0 = true) := fun e he => by
        have h1 := eachE_sub L1 e he
        rw [HL1.out] at h1
        exact (List.mem_filter.1 h1).2
      obtain ⟨L2, HL2⟩ : ∃ L2, Hid (L2 = eachE L1) := ⟨_, rfl⟩
      rw [← HL2.out] at hEa hel HRL HKL
      clear hsg HG
      unfold Sl.v
      go_wp2_with fail
      refine hEa.mono ?_
      rintro _ wb ⟨s2, rfl, ho2⟩
      clear hEa
      have HO2 := hid ho2
      have hn2 := ho2.len
      have HAB : Hid (Apart [] w wb) := HA0.out.trans ho2.nw.ap
      clear ho2 HA0
      obtain ⟨p2, N2, c2⟩ := s2
      simp only at hn2
      obtain ⟨rs, Hrs⟩ : ∃ rs, Hid (rs = L2.map R) := ⟨_, rfl⟩
      have HRE : Hid (∀ j, j < N2 → Reads wb (gE L2 j) (gR rs j)) := fun j hj => by
        rw [Hrs.out]; exact (HRL.out.kept0 HAB.out).at j (by rw [hn2]; exact hj)
      have HKK : Hid (∀ i, i < rs.length → ∀ j, j < rs.length → keq (gR rs j).k (gR rs i).k = true) := fun i hi j hj => by
        rw [Hrs.out, List.length_map] at hi hj
        rw [Hrs.out, gR_map R L2 i hi, gR_map R L2 j hj, ← (HRL.out.rd _ (gE_memE L2 i hi)).k, ← (HRL.out.rd _ (gE_memE L2 j hj)).k, (keq_iff _ _).1 (HKL.out _ (gE_memE L2 i hi)), (keq_iff _ _).1 (HKL.out _ (gE_memE L2 j hj))]
        exact (keq_iff _ _).2 rfl
      have HLE : Hid (LE wb p2 N2 L2) := HO2.out.LE (by simp only; omega)
      unfold Sl.v
      dsimp only
      go_wp2_with fail
      go_loopw [10, 11] (fun u v wr => ∃ (i : Nat) (s3 : Sl), u = s3.v ∧ v = .int .i64 (i : Nat) ∧ i ≤ N2 ∧ OwnE wb wr s3 (ouE L2 rs N2 i)) (fun _ v _ => N2 - (intOf v).toNat)
      case atStart => exact ⟨0, ⟨none, 0, 0⟩, rfl, rfl, Nat.zero_le _, OwnE.nil _ _ (Apart.refl _ _)⟩
      case round =>
        obtain ⟨i, s3, rfl, rfl, hi, ho3⟩ := hrel
        have HO3 := hid ho3
        have hs3 : s3.n ≤ 1500000 := by
          have h1 := ouE_len L2 rs N2 i
          have h2 := ho3.len
          omega
        clear ho3
        by_cases hlt : i < N2
        · obtain ⟨P, o, rfl, hP, _⟩ := HLE.out.at (by omega)
          have HC : Hid (∀ W, Apart [] wb W → ∀ k, k < N2 → W.cell? ⟨P, o + k * 6, none⟩ = some (.int .i64 (gE L2 k).n) ∧ W.cell? ⟨P, o + k * 6 + 1, none⟩ = some (.int .i64 (gE L2 k).c) ∧ W.cell? ⟨P, o + k * 6 + 2, none⟩ = some (.string (gE L2 k).k) ∧ W.cell? ⟨P, o + k * 6 + 3, none⟩ = some (.bool (gE L2 k).d) ∧ W.cell? ⟨P, o + k * 6 + 4, none⟩ = some (gE L2 k).v.v ∧ W.cell? ⟨P, o + k * 6 + 5, none⟩ = some (gE L2 k).x.v) := fun W a k hk => by
            obtain ⟨P', o', e, _, hc⟩ := (HLE.out.kept0 a).at (by omega)
            simp at e
            obtain ⟨rfl, rfl⟩ := e
            exact hc k hk
          have hiN : ((i : Nat) : Int) < (N2 : Int) := by omega
          unfold Sl.v
          go_wp2_with fail
          go_loopw [12, 13] (fun u v wr => ∃ j : Nat, u = .bool (cj rs i j) ∧ v = .int .i64 (j : Nat) ∧ j ≤ N2 ∧ OwnE wb wr s3 (ouE L2 rs N2 i)) (fun _ v _ => N2 - (intOf v).toNat)
          case atStart => exact ⟨0, rfl, rfl, Nat.zero_le _, HO3.out⟩
          case round =>
            obtain ⟨j, rfl, rfl, hj, ho4⟩ := hrel
            have HO4 := hid ho4
            clear ho4 HO3
            by_cases hjl : j < N2
            · have hjN : ((j : Nat) : Int) < (N2 : Int) := by omega
              have HCi : Hid (∀ W, Apart [] wb W → _) := fun W a => HC.out W a i hlt
              have HCj : Hid (∀ W, Apart [] wb W → _) := fun W a => HC.out W a j hjl
              have hCv : ∀ W, Apart [] wb W → Calls Tryz.prog 25 #[(gE L2 j).agg, (gE L2 i).agg] W fun r w' => r = .returned (.bool (cvW (gR rs j) (gR rs i))) ∧ Apart [] W w' := fun W a => rcovers_ok _ _ (gR rs j).xs W ((HRE.out j hjl).x.kept0 a) _ (by
                have r1 := HRE.out i hlt
                have r2 := HRE.out j hjl
                unfold cvW cvE hasd
                rw [r1.k, r2.k, r1.n, r1.c])
              unfold E.agg Sl.v at hCv
              have HCv := hid hCv
              clear hCv
              have hv0 : cj rs i (j + 1) = (cj rs i j || (decide (j ≠ i) && cvW (gR rs j) (gR rs i))) := rfl
              obtain ⟨cv, Hcv⟩ : ∃ cv, Hid (cv = cvW (gR rs j) (gR rs i)) := ⟨_, rfl⟩
              obtain ⟨cc1, Hcc⟩ : ∃ cc1, Hid (cc1 = cj rs i j) := ⟨_, rfl⟩
              obtain ⟨cn, Hcn⟩ : ∃ cn, Hid (cn = cj rs i (j + 1)) := ⟨_, rfl⟩
              rw [← Hcn.out, ← Hcc.out, ← Hcv.out] at hv0
              rw [← Hcv.out] at HCv
              rw [← Hcc.out]
              have HV0 := hid hv0
              clear hv0 HC
              go_upto_region 25 with fail
              have HAD : Hid (OwnE wb wr.drew s3 (ouE L2 rs N2 i)) := HO4.out.kept (Apart.refl [] wr).drew
              clear HO4
              generalize gE L2 i = x at *
              generalize gE L2 j = y at *
              have hij0 : True := trivial
              cases hcc : cc1
              case true =>
                have HV1 : Hid (cn = true) := by unfold Hid; rw [HV0.out, hcc]; rfl
                clear HV0
                subst hcc
                refine wp_region_held_drew (S := fun X => OwnE wb X s3 (ouE L2 rs N2 i)) (by kernel_rfl) HAD.out (fun hHeld => ?_)
                generalize wr.drew = wd at *
                refine tk 0 62 (.bool true) rfl ?_ ?_
                · intro W hSW; go_simp
                simp only [Act.put, List.setIfInBounds_toArray, List.set_cons_zero, List.set_cons_succ]
                refine tk 1 63 (.bool true) rfl ?_ ?_
                · intro W hSW; go_simp
                simp only [Act.put, List.setIfInBounds_toArray, List.set_cons_zero, List.set_cons_succ]
                refine tu 2 64 rfl ?_
                simp only [Act.put, List.setIfInBounds_toArray, List.set_cons_zero, List.set_cons_succ]
                refine tu 3 65 rfl ?_
                simp only [Act.put, List.setIfInBounds_toArray, List.set_cons_zero, List.set_cons_succ]
                refine tu 4 66 rfl ?_
                simp only [Act.put, List.setIfInBounds_toArray, List.set_cons_zero, List.set_cons_succ]
                refine tu 5 67 rfl ?_
                simp only [Act.put, List.setIfInBounds_toArray, List.set_cons_zero, List.set_cons_succ]
                refine tu 6 68 rfl ?_
                simp only [Act.put, List.setIfInBounds_toArray, List.set_cons_zero, List.set_cons_succ]
                refine tu 7 69 rfl ?_
                simp only [Act.put, List.setIfInBounds_toArray, List.set_cons_zero, List.set_cons_succ]
                refine tu 8 70 rfl ?_
                simp only [Act.put, List.setIfInBounds_toArray, List.set_cons_zero, List.set_cons_succ]
                refine tu 9 71 rfl ?_
                simp only [Act.put, List.setIfInBounds_toArray, List.set_cons_zero, List.set_cons_succ]
                refine tu 10 72 rfl ?_
                simp only [Act.put, List.setIfInBounds_toArray, List.set_cons_zero, List.set_cons_succ]
                refine tu 11 73 rfl ?_
                simp only [Act.put, List.setIfInBounds_toArray, List.set_cons_zero, List.set_cons_succ]
                refine tu 12 74 rfl ?_
                simp only [Act.put, List.setIfInBounds_toArray, List.set_cons_zero, List.set_cons_succ]
                refine tu 13 75 rfl ?_
                simp only [Act.put, List.setIfInBounds_toArray, List.set_cons_zero, List.set_cons_succ]
                refine wpAnyH_pass 14 (o := ⟨some 76, _, _, _, _, _⟩) (by kernel_rfl) rfl (by kernel_rfl) hHeld ?_
                simp only [Act.put, List.setIfInBounds_toArray, List.set_cons_zero, List.set_cons_succ]
                refine tu 15 77 rfl ?_
                simp only [Act.put, List.setIfInBounds_toArray, List.set_cons_zero, List.set_cons_succ]
                refine tk 16 78 (.bool true) rfl ?_ ?_
                · intro W hSW; go_simp
                simp only [Act.put, List.setIfInBounds_toArray, List.set_cons_zero, List.set_cons_succ]
                refine tk 17 12 (.bool true) rfl ?_ ?_
                · intro W hSW; go_simp
                simp only [Act.put, List.setIfInBounds_toArray, List.set_cons_zero, List.set_cons_succ]
                refine wpAnyH_done (by kernel_rfl) ?_ _
                try dsimp only
                have HOF := hid hHeld
                clear hHeld
                go_wp2_with fail
                go_roundw
                case rel => exact ⟨j + 1, by rw [← Hcn.out, HV1.out], by go_num, by omega, HOF.out⟩
                case measure => simp [intOf]; omega
              case false =>
                by_cases hij : j = i
                · subst hij
                  have HV1 : Hid (cn = false) := by unfold Hid; rw [HV0.out, hcc]; simp
                  clear HV0
                  subst hcc
                  refine wp_region_held_drew (S := fun X => OwnE wb X s3 (ouE L2 rs N2 j)) (by kernel_rfl) HAD.out (fun hHeld => ?_)
                  generalize wr.drew = wd at *
                  refine tk 0 62 (.bool false) rfl ?_ ?_
                  · intro W hSW; go_simp
                  simp only [Act.put, List.setIfInBounds_toArray, List.set_cons_zero, List.set_cons_succ]
                  refine tk 1 63 (.bool false) rfl ?_ ?_
                  · intro W hSW; go_simp
                  simp only [Act.put, List.setIfInBounds_toArray, List.set_cons_zero, List.set_cons_succ]
                  refine tk 2 64 (.int .i64 (j : Nat)) rfl ?_ ?_
                  · intro W hSW; go_simp
                  simp only [Act.put, List.setIfInBounds_toArray, List.set_cons_zero, List.set_cons_succ]
                  refine tk 3 65 (.int .i64 (j : Nat)) rfl ?_ ?_
                  · intro W hSW; go_simp
                  simp only [Act.put, List.setIfInBounds_toArray, List.set_cons_zero, List.set_cons_succ]
                  refine tk 4 66 (.bool false) rfl ?_ ?_
                  · intro W hSW; go_simp
                  simp only [Act.put, List.setIfInBounds_toArray, List.set_cons_zero, List.set_cons_succ]
                  refine tk 5 67 (.bool false) rfl ?_ ?_
                  · intro W hSW; go_simp
                  simp only [Act.put, List.setIfInBounds_toArray, List.set_cons_zero, List.set_cons_succ]
                  refine tu 6 68 rfl ?_
                  simp only [Act.put, List.setIfInBounds_toArray, List.set_cons_zero, List.set_cons_succ]
                  refine tu 7 69 rfl ?_
                  simp only [Act.put, List.setIfInBounds_toArray, List.set_cons_zero, List.set_cons_succ]
                  refine tu 8 70 rfl ?_
                  simp only [Act.put, List.setIfInBounds_toArray, List.set_cons_zero, List.set_cons_succ]
                  refine tu 9 71 rfl ?_
                  simp only [Act.put, List.setIfInBounds_toArray, List.set_cons_zero, List.set_cons_succ]
                  refine tu 10 72 rfl ?_
                  simp only [Act.put, List.setIfInBounds_toArray, List.set_cons_zero, List.set_cons_succ]
                  refine tu 11 73 rfl ?_
                  simp only [Act.put, List.setIfInBounds_toArray, List.set_cons_zero, List.set_cons_succ]
                  refine tu 12 74 rfl ?_
                  simp only [Act.put, List.setIfInBounds_toArray, List.set_cons_zero, List.set_cons_succ]
                  refine tu 13 75 rfl ?_
                  simp only [Act.put, List.setIfInBounds_toArray, List.set_cons_zero, List.set_cons_succ]
                  refine wpAnyH_pass 14 (o := ⟨some 76, _, _, _, _, _⟩) (by kernel_rfl) rfl (by kernel_rfl) hHeld ?_
                  simp only [Act.put, List.setIfInBounds_toArray, List.set_cons_zero, List.set_cons_succ]
                  refine tk 15 77 (.bool false) rfl ?_ ?_
                  · intro W hSW; go_simp
                  simp only [Act.put, List.setIfInBounds_toArray, List.set_cons_zero, List.set_cons_succ]
                  refine tk 16 78 (.bool false) rfl ?_ ?_
                  · intro W hSW; go_simp
                  simp only [Act.put, List.setIfInBounds_toArray, List.set_cons_zero, List.set_cons_succ]
                  refine tk 17 12 (.bool false) rfl ?_ ?_
                  · intro W hSW; go_simp
                  simp only [Act.put, List.setIfInBounds_toArray, List.set_cons_zero, List.set_cons_succ]
                  refine wpAnyH_done (by kernel_rfl) ?_ _
                  try dsimp only
                  have HOF := hid hHeld
                  clear hHeld
                  go_wp2_with fail
                  go_roundw
                  case rel => exact ⟨j + 1, by rw [← Hcn.out, HV1.out], by go_num, by omega, HOF.out⟩
                  case measure => simp [intOf]; omega
                · have HV1 : Hid (cn = cv) := by unfold Hid; rw [HV0.out, hcc]; simp [hij]
                  have hne : ¬ ((j : Nat) : Int) = ((i : Nat) : Int) := by omega
                  clear HV0
                  subst hcc
                  refine wp_region_held_drew (S := fun X => OwnE wb X s3 (ouE L2 rs N2 i)) (by kernel_rfl) HAD.out (fun hHeld => ?_)
                  generalize wr.drew = wd at *
                  refine tk 0 62 (.bool false) rfl ?_ ?_
                  · intro W hSW; go_simp
                  simp only [Act.put, List.setIfInBounds_toArray, List.set_cons_zero, List.set_cons_succ]
                  refine tk 1 63 (.bool false) rfl ?_ ?_
                  · intro W hSW; go_simp
                  simp only [Act.put, List.setIfInBounds_toArray, List.set_cons_zero, List.set_cons_succ]
                  refine tk 2 64 (.int .i64 (j : Nat)) rfl ?_ ?_
                  · intro W hSW; go_simp
                  simp only [Act.put, List.setIfInBounds_toArray, List.set_cons_zero, List.set_cons_succ]
                  refine tk 3 65 (.int .i64 (i : Nat)) rfl ?_ ?_
                  · intro W hSW; go_simp
                  simp only [Act.put, List.setIfInBounds_toArray, List.set_cons_zero, List.set_cons_succ]
                  refine tk 4 66 (.bool true) rfl ?_ ?_
                  · intro W hSW; go_simp
                  simp only [Act.put, List.setIfInBounds_toArray, List.set_cons_zero, List.set_cons_succ]
                  refine tk 5 67 (.bool true) rfl ?_ ?_
                  · intro W hSW; go_simp
                  simp only [Act.put, List.setIfInBounds_toArray, List.set_cons_zero, List.set_cons_succ]
                  refine tk 6 68 (.slice (some ⟨P, o, none⟩) N2 c2) rfl ?_ ?_
                  · intro W hSW; go_simp
                  simp only [Act.put, List.setIfInBounds_toArray, List.set_cons_zero, List.set_cons_succ]
                  refine tk 7 69 (.int .i64 (j : Nat)) rfl ?_ ?_
                  · intro W hSW; go_simp
                  simp only [Act.put, List.setIfInBounds_toArray, List.set_cons_zero, List.set_cons_succ]
                  refine tk 8 70 (.pointer (some ⟨P, o + j * 6, none⟩)) rfl ?_ ?_
                  · intro W hSW; go_simp
                  simp only [Act.put, List.setIfInBounds_toArray, List.set_cons_zero, List.set_cons_succ]
                  refine tk 9 71 (.agg #[.int .i64 y.n, .int .i64 y.c, .string y.k, .bool y.d, .slice y.v.p y.v.n y.v.c, .slice y.x.p y.x.n y.x.c]) rfl ?_ ?_
                  · intro W hSW; obtain ⟨k0, k1, k2, k3, k4, k5⟩ := HCj.out W hSW.nw.ap; unfold Sl.v at k4 k5; go_simp
                  simp only [Act.put, List.setIfInBounds_toArray, List.set_cons_zero, List.set_cons_succ]
                  refine tk 10 72 (.slice (some ⟨P, o, none⟩) N2 c2) rfl ?_ ?_
                  · intro W hSW; go_simp
                  simp only [Act.put, List.setIfInBounds_toArray, List.set_cons_zero, List.set_cons_succ]
                  refine tk 11 73 (.int .i64 (i : Nat)) rfl ?_ ?_
                  · intro W hSW; go_simp
                  simp only [Act.put, List.setIfInBounds_toArray, List.set_cons_zero, List.set_cons_succ]
                  refine tk 12 74 (.pointer (some ⟨P, o + i * 6, none⟩)) rfl ?_ ?_
                  · intro W hSW; go_simp
                  simp only [Act.put, List.setIfInBounds_toArray, List.set_cons_zero, List.set_cons_succ]
                  refine tk 13 75 (.agg #[.int .i64 x.n, .int .i64 x.c, .string x.k, .bool x.d, .slice x.v.p x.v.n x.v.c, .slice x.x.p x.x.n x.x.c]) rfl ?_ ?_
                  · intro W hSW; obtain ⟨k0, k1, k2, k3, k4, k5⟩ := HCi.out W hSW.nw.ap; unfold Sl.v at k4 k5; go_simp
                  simp only [Act.put, List.setIfInBounds_toArray, List.set_cons_zero, List.set_cons_succ]
                  refine wpAnyH_ready (rs := [14]) (by kernel_rfl) (by simp) ?_
                  refine AllReadyH.cons rfl (fun KK hKK => ?_) AllReadyH.nil
                  go_simp
                  refine (HCv.out _ hHeld.nw.ap).mono ?_
                  rintro _ w8 ⟨rfl, a_w8⟩
                  have hS_w8 : OwnE wb w8 s3 (ouE L2 rs N2 i) := hHeld.kept a_w8
                  clear a_w8
                  try dsimp only
                  refine hKK.out _ _ hS_w8 (fun hHeld => ?_)
                  clear hKK KK
                  refine tk 15 77 (.bool cv) rfl ?_ ?_
                  · intro W hSW; go_simp
                  simp only [Act.put, List.setIfInBounds_toArray, List.set_cons_zero, List.set_cons_succ]
                  refine tk 16 78 (.bool cv) rfl ?_ ?_
                  · intro W hSW; go_simp
                  simp only [Act.put, List.setIfInBounds_toArray, List.set_cons_zero, List.set_cons_succ]
                  refine tk 17 12 (.bool cv) rfl ?_ ?_
                  · intro W hSW; go_simp
                  simp only [Act.put, List.setIfInBounds_toArray, List.set_cons_zero, List.set_cons_succ]
                  refine wpAnyH_done (by kernel_rfl) ?_ _
                  try dsimp only
                  have HOF := hid hS_w8
                  clear hHeld
                  go_wp2_with fail
                  go_roundw
                  case rel => exact ⟨j + 1, by rw [← Hcn.out, HV1.out], by go_num, by omega, HOF.out⟩
                  case measure => simp [intOf]; omega
            · obtain rfl : N2 = j := by omega
              cases hcv : cj rs i N2
              case true =>
                have HN : Hid (ouE L2 rs N2 (i + 1) = ouE L2 rs N2 i) := by show (if _ then _ else _) = _; rw [if_pos hcv]
                try unfold Sl.v
                go_wp2_with fail
                go_roundw
                case rel => exact ⟨i + 1, s3, rfl, by go_num, by omega, by rw [HN.out]; exact HO4.out⟩
                case measure => simp [intOf]; omega
              case false =>
                have HN : Hid (ouE L2 rs N2 (i + 1) = ouE L2 rs N2 i ++ [gE L2 i]) := by show (if _ then _ else _) = _; rw [if_neg (by rw [hcv]; simp)]
                obtain ⟨s6, w6, hrun, ho6, hn6, _⟩ := run_appE HO4.out (by omega) (gE L2 i) 35
                rw [← HN.out] at ho6
                obtain ⟨k0, k1, k2, k3, k4, k5⟩ := HC.out _ HO4.out.nw.ap i hlt
                have HO6 := hid ho6
                clear ho6 HN HO4 HC hn6
                unfold Sl.v at k4 k5 hrun
                try unfold Sl.v
                generalize gE L2 i = x at *
                have HRUN : Hid ((Builtin.append_ #[35, 35] 35 #[.slice s3.p s3.n s3.c, .slice (some ⟨wr.heap.size, 0, none⟩) 1 1]).run Tryz.prog (wr.alloc (Obj.cells #[Value.int IntKind.i64 x.n, Value.int IntKind.i64 x.c, Value.string x.k, Value.bool x.d, Value.slice x.v.p x.v.n x.v.c, Value.slice x.x.p x.x.n x.x.c] 28)) = .ok (.slice s6.p s6.n s6.c) w6) := hrun
                clear hrun
                go_wp2_with (at_builtin; refine wpList_app2 rfl (.tmp 81) (.tmp 86) 35 35 rfl _ _ rfl rfl _ _ HRUN.out ?_)
                go_roundw
                case rel => exact ⟨i + 1, s6, rfl, by go_num, by omega, HO6.out⟩
                case measure => simp [intOf]; omega
        · obtain rfl : N2 = i := by omega
          have HFIN : Hid ((ouE L2 rs N2 N2).map R = gathW ((catL F n).map R) ∧ ∀ e ∈ ouE L2 rs N2 N2, e ∈ catL F n) := by
            have e0 : L2.length = N2 := hn2
            have e1 : eachW (((catL F n).map R).filter (fun e => keq e.k (gR ((catL F n).map R) 0).k)) = L2.map R := by
              rw [HL2.out, eachE_map (HR.out.sub (fun e he => by rw [HL1.out] at he; exact (List.mem_filter.1 he).1)), HL1.out, filt_map HR.out]
              by_cases h0 : catL F n = []
              · rw [h0]; rfl
              · have hp : 0 < (catL F n).length := List.length_pos_iff.2 h0
                have hk : (gR ((catL F n).map R) 0).k = key0 := by
                  rw [gR_map R _ 0 hp, Hkey.out, ← (HR.out.rd _ (gE_memE _ 0 hp)).k]
                rw [hk]
            have hrs := Hrs.out
            have e3 : ouE L2 rs N2 N2 = (bU L2 rs N2 N2).reverse := by
              have := ouE_all L2 rs HKK.out
              rw [show rs.length = N2 from by rw [hrs, List.length_map]; exact e0] at this
              exact this
            rw [e3, hrs]
            refine ⟨?_, fun e he => ?_⟩
            · unfold gathW uncW
              rw [e1, List.map_reverse, ← e0, bU_map _ (Nat.le_refl _), List.length_map]
            · rw [List.mem_reverse] at he
              have h1 := bU_sub L2 _ N2 (by omega) N2 (Nat.le_refl _) e he
              rw [HL2.out] at h1
              have h2 := eachE_sub L1 e h1
              rw [HL1.out] at h2
              exact (List.mem_filter.1 h2).1
          unfold Sl.v
          go_wp2_with fail
          go_ret
          exact ⟨s3, _, rfl, HO3.out.from HAB.out, HFIN.out.1, HFIN.out.2⟩
end Go.Proofs.YtokaeiahhmaokaaGreatDoor.ds
