import Derived.Test.YtdggkofihppcmaaDoorKw4
import Derived.Test.YtdggkofihppcmaaDoorEx2
import Derived.Deep.CutBlock
namespace Go.Proofs.YtdggkofihppcmaaDoor.ds
open Go.ChangeShapes Go.WideShapes Go.ChangeAt Go.RowKit
set_option linter.unusedVariables false
set_option linter.unusedSimpArgs false
theorem step_append3 {w : World} {ops : Array Oper} {o : Oper} {a : Act} {K : Act → World → Prop} {Q : Exit → Act → World → Prop} {E : Prop} (hgd : o.guard = none) (s x : Operand) (t : TypeId)
    (ho : o.op = .call { callee := .builtin .append, args := #[s, x], argTypes := #[t, t] }) (v u : Value) (hs : a.eval s = v) (hx : a.eval x = u) (v' : Value) (w' : World)
    (hrun : (Builtin.append_ #[t, t] o.type #[v, u]).run Tryd.prog w = .ok v' w') (hK : K (a.put o.dst v') w') : if Region.wanted o (yielded ops a.tmps) = true then Oper.wp Tryd.prog o a w K Q else E := by
  have hw : Region.wanted o (yielded ops a.tmps) = true := by simp [Region.wanted, hgd]
  rw [if_pos hw]
  unfold Oper.wp
  simp [execOp, ho, resolve, invoke, builtin, hs, hx, hrun, Result.andThen]
  exact hK
/-- lent: of the caller's own -/
theorem lentO {p : Option Addr} {N cap : Nat} {xs : List S} {w : World} (h : L w p N xs) (hN : N ≤ 4398046511104) : Calls Tryd.prog 30 #[.slice p N cap] w fun r w' => ∃ G cap, r = .returned (.slice (some ⟨G, 0, none⟩) (N + 2) cap) ∧ N + 2 ≤ cap ∧ Own w w' (some ⟨G, 0, none⟩) (N + 2) cap (xs ++ [m1, m2]) := by
  go_enter Tryd.func30, Tryd.ntmps30
  go_wp2_with fail
  refine (copied_ok h hN).mono ?_
  rintro r w1 ⟨⟨p1, c1, rfl, own1⟩⟩
  dsimp only
  go_wp2_with fail
  refine (mark1 w1).mono ?_
  rintro r w2 ⟨rfl, a2⟩
  dsimp only
  go_wp2_with fail
  refine (mark2 w2).mono ?_
  rintro r w3 ⟨rfl, a3⟩
  dsimp only
  have own3 := ((own1.kept a2).kept a3).kept ((Apart.refl [] w3).alloc (.cells #[.int .i64 7001, .int .i64 (-1), .int .u64 5, .int .i64 7002, .int .i64 (-2), .int .u64 5] 52))
  obtain ⟨G, cap', w4, hrun, hcap, own4⟩ := own_append2 own3 hN 22 ⟨w3.heap.size, 0, none⟩ m1 m2 (by simp [Addr.add, m1]) (by simp [Addr.add, m1]) (by simp [Addr.add, m1]) (by simp [Addr.add, m2]) (by simp [Addr.add, m2]) (by simp [Addr.add, m2])
  clear own3 own1
  go_wp2_with (at_builtin; refine wpList_append3 rfl (.tmp 4) (.tmp 7) 22 rfl _ _ rfl rfl _ _ hrun ?_)
  go_ret
  exact ⟨G, cap', rfl, hcap, own4⟩
theorem box7 {w : World} {B : Nat} {c0 c1 c2 c3 c4 c5 c6 : Value} (h : w.heap[B]? = some (.cells #[c0, c1, c2, c3, c4, c5, c6] 48 (0, 0))) : w.cell? ⟨B, 1, none⟩ = some c1 ∧ w.cell? ⟨B, 3, none⟩ = some c3 ∧ w.cell? ⟨B, 4, none⟩ = some c4 ∧ w.cell? ⟨B, 5, none⟩ = some c5 ∧ w.cell? ⟨B, 6, none⟩ = some c6 := by
  refine ⟨?_, ?_, ?_, ?_, ?_⟩ <;> (rw [cell_of_row _ _ _ _ _ _ h]; rfl)
theorem set_self {A : List (Value × List S)} {k : Nat} {v : Value} {z : List S} (h : A[k]? = some (v, z)) : A.set k (v, z) = A := by
  obtain ⟨hl, e⟩ := List.getElem?_eq_some_iff.1 h
  rw [← e]; exact List.set_getElem_self hl
theorem set_at {A : List (Value × List S)} {k : Nat} {b : Value × List S} (h : k < A.length) : (A.set k b)[k]? = some b := by simp [h]
theorem ST.fewer {w0 w : World} {av qv : Value} {a0 q0 ka kq : Nat} {A Q : List (Value × List S)} {BS BS' : List Nat} {LT : Option (Nat × Nat × Nat × List S)} (h : ST w0 w av qv a0 q0 ka kq A Q BS LT) (hs : ∀ b ∈ BS', b ∈ BS) : ST w0 w av qv a0 q0 ka kq A Q BS' LT := by
  obtain ⟨who, u, z, v, x, k, t1, t2, t3, t4, t5, t6⟩ := h.ex
  exact ⟨⟨who, u, z, v, x, k, t1, t2, t3, t4, fun b hb => t5 b (hs b hb), t6⟩, h.ka, h.kq⟩
theorem box3 {w : World} {B : Nat} {gp : Nat → Option Addr} {gn gc : Nat → Nat} (h : w.heap[B]? = some (.cells #[.slice (gp 0) (gn 0) (gc 0), .slice (gp 1) (gn 1) (gc 1), .slice (gp 2) (gn 2) (gc 2)] 49 (0, 0))) (r : Nat) (hr : r < 3) : w.cell? ⟨B, r, none⟩ = some (.slice (gp r) (gn r) (gc r)) := by
  rw [cell_of_row _ _ _ _ _ _ h]
  match r, hr with
  | 0, _ => rfl
  | 1, _ => rfl
  | 2, _ => rfl
structure CI (w wr : World) (i k OB GB : Nat) (bxs : Array Value) (gp : Nat → Option Addr) (gn gc : Nat → Nat) (av qv : Value) (A Q : List (Value × List S)) (LT : Option (Nat × Nat × Nat × List S)) : Prop where
  st : ST w wr av qv (3 * i) (2 * (3 * i)) k 6 A Q [GB, OB] LT
  len : A.length = 3
  vals : ∀ r, r < 3 → ∃ x, A[r]? = some (.slice (gp r) (gn r) (gc r), x)
  done : ∀ r, r < k → ∃ n, A[r]? = some (.slice (gp r) (gn r) (gc r), List.replicate n (mrk (10 + (3 * i + r))))
  ob : wr.heap[OB]? = some (.cells bxs 48 (0, 0))
  gb : wr.heap[GB]? = some (.cells #[.slice (gp 0) (gn 0) (gc 0), .slice (gp 1) (gn 1) (gc 1), .slice (gp 2) (gn 2) (gc 2)] 49 (0, 0))
def sp4 (j : Nat) : S := ⟨j, 4, 0⟩
def af (j : Nat) (l : List S) : List S := (List.range j).map sp4 ++ l.drop j
theorem af_zero (l : List S) : af 0 l = l := by simp [af]
theorem af_len (j : Nat) (l : List S) (h : j ≤ l.length) : (af j l).length = l.length := by simp [af]; omega
theorem af_set (j : Nat) (l : List S) (h : j < l.length) : (af j l).set j (sp4 j) = af (j + 1) l := by
  unfold af
  rw [List.set_append_right _ _ (by simp)]
  simp only [List.length_map, List.length_range, Nat.sub_self]
  rw [List.drop_eq_getElem_cons h, List.set_cons_zero, List.range_succ, List.map_append, List.append_assoc]
  rfl
theorem af_all (l : List S) (n : Nat) (h : l.length = n + 2) : af (n + 2) l = (List.range n).map sp4 ++ [sp4 n, sp4 (n + 1)] := by
  unfold af
  rw [List.drop_of_length_le (by omega), List.append_nil, List.range_succ, List.range_succ]
  simp
theorem ok4 (n : Nat) (h : n ≤ 8) : OkL 64 ((List.range n).map sp4) := by
  refine ⟨fun x hx => ?_, ?_⟩
  · simp only [List.mem_map, List.mem_range] at hx
    obtain ⟨j, hj, rfl⟩ := hx
    exact ⟨by show (0 : Int) ≤ j; omega, by show (j : Int) < 8; omega, by show (0 : Int) ≤ 4; decide, by show (4 : Int) ≤ 1048576; decide, fun e => by have : (4 : Int) = 0 := e.1; omega, rfl, by show ((bl 0 : Nat) : Int) ≤ 64; decide +kernel, by show (4 : Int) + ((bl 0 : Nat) : Int) ≤ 1048576; decide +kernel⟩
  · rw [List.pairwise_map]
    exact List.pairwise_lt_range.imp (fun {a b} h => by show (a : Int) < (b : Int); omega)
theorem cnt4 (n : Nat) (h : n ≤ 8) : (tot (norm ((List.range n).map sp4)) : Int) = 4 * (n : Int) := by
  rw [norm_of (ok4 n h)]
  match n, h with
  | 0, _ => decide +kernel
  | 1, _ => decide +kernel
  | 2, _ => decide +kernel
  | 3, _ => decide +kernel
  | 4, _ => decide +kernel
  | 5, _ => decide +kernel
  | 6, _ => decide +kernel
  | 7, _ => decide +kernel
  | 8, _ => decide +kernel
theorem has4 (n : Nat) (h : n ≤ 8) (h0 : 0 < n) : dot (ofn (norm ((List.range n).map sp4)) ((n : Int) - 1)) 4 = true := by
  rw [norm_of (ok4 n h)]
  match n, h, h0 with
  | 1, _, _ => decide +kernel
  | 2, _, _ => decide +kernel
  | 3, _, _ => decide +kernel
  | 4, _, _ => decide +kernel
  | 5, _, _ => decide +kernel
  | 6, _, _ => decide +kernel
  | 7, _, _ => decide +kernel
  | 8, _, _ => decide +kernel
theorem ST.la {w0 w : World} {av qv : Value} {a0 q0 ka kq : Nat} {A Q : List (Value × List S)} {BS : List Nat} {g n c : Nat} {xs ys : List S} (h : ST w0 w av qv a0 q0 ka kq A Q BS (some (g, n, c, xs ++ ys))) (hf : ∀ x ∈ xs, x.t < 2 ^ 64) (hl : xs.length ≤ 9223372036854775807) : L w (some ⟨g, 0, none⟩) xs.length xs := by
  obtain ⟨o, hn, _⟩ := h.lt
  have o2 := own_prefix o (by rw [hn]; simp)
  exact ⟨Sp.own o2 rfl, rfl, hl, hf⟩
def findCode (t : Nat) (b : Bool) : Code → Option Code
  | .region n ops d => if b = true ∧ n = t then some (.region n ops d) else none
  | .seq x y => match findCode t b x with
    | some c => some c
    | none => findCode t b y
  | .cond _ x y => match findCode t b x with
    | some c => some c
    | none => findCode t b y
  | .block n c => if b = false ∧ n = t then some (.block n c) else findCode t b c
  | .loop c => findCode t b c
  | .scope c => findCode t b c
  | _ => none
noncomputable def regC (t : Nat) : Code := (Tryd.f11.body.bind (findCode t true)).getD .skip
noncomputable def blkC (t : Nat) : Code := (Tryd.f11.body.bind (findCode t false)).getD .skip
set_option maxHeartbeats 16000000 in
set_option maxRecDepth 1000000 in
theorem r10 {w : World} {i OB : Nat} {kind gap stop : Int} {pa : Option Addr} {na ca : Nat} {pb : Option Addr} {nb cb : Nat} {dn dc : Int} {xs ys : List S} {e1 : Int} {z1 : List S} {e2 : Int} {z2 : List S} {av qv : Value} {W1 : World} (HT : Hid (Tab w)) (HLA : Hid (L w pa na xs)) (hna : na ≤ 1048576) (HADD : Hid (∀ (p : Option Addr) (N cap : Nat) w, Tab w → L w p N xs → Calls Tryd.prog 26 #[.slice p N cap, .agg #[.int .i64 dn, .int .i64 dc], .int .i64 gap] w fun r w' => OPost w w' r e1 z1)) (HS1 : Hid (ST w W1 av qv (3 * i) (2 * (3 * i)) 0 0 [] [] [OB] none)) (HB1 : Hid (W1.heap[OB]? = some (.cells #[.int .i64 kind, .int .i64 gap, .int .i64 stop, .slice pa na ca, .slice pb nb cb, .int .i64 dn, .int .i64 dc] 48 (0, 0)))) {sl0 sl1 sl2 sl3 sl4 sl5 sl6 sl8 sl9 sl10 sl11 sl12 sl13 sl14 sl15 sl16 sl17 sl18 sl19 sl20 sl21 sl22 sl23 sl24 sl25 sl26 sl27 sl28 sl29 sl30 sl31 sl32 sl33 sl34 sl35 sl36 sl37 sl38 sl39 sl40 sl41 sl42 sl43 sl44 sl45 sl46 sl47 sl48 sl49 sl50 sl51 sl52 sl53 sl54 sl55 sl56 sl57 sl58 sl59 sl60 sl61 sl62 sl63 sl64 sl65 sl66 sl67 sl68 sl69 sl70 sl71 sl72 sl73 sl74 sl75 sl76 sl77 sl78 sl79 sl80 sl81 sl82 sl83 sl84 sl85 sl86 sl87 sl88 sl89 sl90 sl91 sl92 sl93 sl94 sl95 sl96 sl97 sl98 sl99 sl100 sl101 sl102 sl103 sl104 sl105 sl106 sl107 sl108 sl109 sl110 sl111 sl112 sl113 sl114 sl115 sl116 sl117 sl118 sl119 sl120 sl121 sl122 sl123 sl124 sl125 sl126 sl127 sl128 sl129 sl130 sl131 sl132 sl133 sl134 sl135 sl136 sl137 sl138 sl139 sl140 sl141 sl142 sl143 sl144 sl145 sl146 sl147 sl148 sl149 sl150 sl151 sl152 sl153 sl154 sl155 sl156 sl157 sl158 sl159 sl160 sl161 sl162 sl163 sl164 sl165 sl166 sl167 sl168 sl169 sl170 sl171 sl172 sl173 sl174 sl175 sl176 sl177 sl178 sl179 sl180 sl181 sl182 sl183 sl184 sl185 sl186 sl187 sl188 sl189 sl190 sl191 sl192 sl193 sl194 sl195 sl196 sl197 sl198 sl199 sl200 sl201 sl202 sl203 sl204 sl205 sl206 sl207 sl208 sl209 sl210 sl211 sl212 sl213 sl214 sl215 sl216 sl217 sl218 sl219 sl220 sl221 sl222 sl223 sl224 sl225 sl226 sl227 sl228 sl229 sl230 sl231 sl232 sl233 sl234 sl235 sl236 sl237 sl238 sl239 sl240 sl241 sl242 sl243 sl244 sl245 sl246 sl247 sl248 sl249 sl250 sl251 sl252 sl253 sl254 sl255 sl256 sl257 : Value} {K' : Act → World → Prop} {Q' : Exit → Act → World → Prop} (hQ : ∀ x (a : Act) (d : Nat) v (w : World), Q' (.panic x) (a.put (some d) v) w → Q' (.panic x) a w) (hK : ∀ (p1 : Option Addr) (n1 c1 : Nat) (W' : World) (nt9 nt45 nt46 nt47 nt48 nt49 nt50 nt51 nt52 nt53 nt54 nt55 : Value), (ST w W' av qv (3 * i) (2 * (3 * i)) 0 0 [] [(.slice p1 n1 c1, z1)] [OB] none ∧ W'.heap[OB]? = some (.cells #[.int .i64 kind, .int .i64 gap, .int .i64 stop, .slice pa na ca, .slice pb nb cb, .int .i64 dn, .int .i64 dc] 48 (0, 0))) → K' ⟨#[sl0, sl1, sl2, sl3, sl4, sl5, sl6, (.pointer (some ⟨OB, 0, none⟩)), (.slice p1 n1 c1), nt9, sl10, sl11, sl12, sl13, sl14, sl15, sl16, sl17, sl18, sl19, sl20, sl21, sl22, sl23, sl24, sl25, sl26, sl27, sl28, sl29, sl30, sl31, sl32, sl33, sl34, sl35, sl36, sl37, sl38, sl39, sl40, sl41, sl42, sl43, sl44, nt45, nt46, nt47, nt48, nt49, nt50, nt51, nt52, nt53, nt54, nt55, sl56, sl57, sl58, sl59, sl60, sl61, sl62, sl63, sl64, sl65, sl66, sl67, sl68, sl69, sl70, sl71, sl72, sl73, sl74, sl75, sl76, sl77, sl78, sl79, sl80, sl81, sl82, sl83, sl84, sl85, sl86, sl87, sl88, sl89, sl90, sl91, sl92, sl93, sl94, sl95, sl96, sl97, sl98, sl99, sl100, sl101, sl102, sl103, sl104, sl105, sl106, sl107, sl108, sl109, sl110, sl111, sl112, sl113, sl114, sl115, sl116, sl117, sl118, sl119, sl120, sl121, sl122, sl123, sl124, sl125, sl126, sl127, sl128, sl129, sl130, sl131, sl132, sl133, sl134, sl135, sl136, sl137, sl138, sl139, sl140, sl141, sl142, sl143, sl144, sl145, sl146, sl147, sl148, sl149, sl150, sl151, sl152, sl153, sl154, sl155, sl156, sl157, sl158, sl159, sl160, sl161, sl162, sl163, sl164, sl165, sl166, sl167, sl168, sl169, sl170, sl171, sl172, sl173, sl174, sl175, sl176, sl177, sl178, sl179, sl180, sl181, sl182, sl183, sl184, sl185, sl186, sl187, sl188, sl189, sl190, sl191, sl192, sl193, sl194, sl195, sl196, sl197, sl198, sl199, sl200, sl201, sl202, sl203, sl204, sl205, sl206, sl207, sl208, sl209, sl210, sl211, sl212, sl213, sl214, sl215, sl216, sl217, sl218, sl219, sl220, sl221, sl222, sl223, sl224, sl225, sl226, sl227, sl228, sl229, sl230, sl231, sl232, sl233, sl234, sl235, sl236, sl237, sl238, sl239, sl240, sl241, sl242, sl243, sl244, sl245, sl246, sl247, sl248, sl249, sl250, sl251, sl252, sl253, sl254, sl255, sl256, sl257], []⟩ W') :
    Code.wp Tryd.prog (regC 10) (Exit.then K' Q') ⟨#[sl0, sl1, sl2, sl3, sl4, sl5, sl6, (.pointer (some ⟨OB, 0, none⟩)), sl8, sl9, sl10, sl11, sl12, sl13, sl14, sl15, sl16, sl17, sl18, sl19, sl20, sl21, sl22, sl23, sl24, sl25, sl26, sl27, sl28, sl29, sl30, sl31, sl32, sl33, sl34, sl35, sl36, sl37, sl38, sl39, sl40, sl41, sl42, sl43, sl44, sl45, sl46, sl47, sl48, sl49, sl50, sl51, sl52, sl53, sl54, sl55, sl56, sl57, sl58, sl59, sl60, sl61, sl62, sl63, sl64, sl65, sl66, sl67, sl68, sl69, sl70, sl71, sl72, sl73, sl74, sl75, sl76, sl77, sl78, sl79, sl80, sl81, sl82, sl83, sl84, sl85, sl86, sl87, sl88, sl89, sl90, sl91, sl92, sl93, sl94, sl95, sl96, sl97, sl98, sl99, sl100, sl101, sl102, sl103, sl104, sl105, sl106, sl107, sl108, sl109, sl110, sl111, sl112, sl113, sl114, sl115, sl116, sl117, sl118, sl119, sl120, sl121, sl122, sl123, sl124, sl125, sl126, sl127, sl128, sl129, sl130, sl131, sl132, sl133, sl134, sl135, sl136, sl137, sl138, sl139, sl140, sl141, sl142, sl143, sl144, sl145, sl146, sl147, sl148, sl149, sl150, sl151, sl152, sl153, sl154, sl155, sl156, sl157, sl158, sl159, sl160, sl161, sl162, sl163, sl164, sl165, sl166, sl167, sl168, sl169, sl170, sl171, sl172, sl173, sl174, sl175, sl176, sl177, sl178, sl179, sl180, sl181, sl182, sl183, sl184, sl185, sl186, sl187, sl188, sl189, sl190, sl191, sl192, sl193, sl194, sl195, sl196, sl197, sl198, sl199, sl200, sl201, sl202, sl203, sl204, sl205, sl206, sl207, sl208, sl209, sl210, sl211, sl212, sl213, sl214, sl215, sl216, sl217, sl218, sl219, sl220, sl221, sl222, sl223, sl224, sl225, sl226, sl227, sl228, sl229, sl230, sl231, sl232, sl233, sl234, sl235, sl236, sl237, sl238, sl239, sl240, sl241, sl242, sl243, sl244, sl245, sl246, sl247, sl248, sl249, sl250, sl251, sl252, sl253, sl254, sl255, sl256, sl257], []⟩ W1 := by
  have HKK := hid hK
  clear hK
  conv => arg 2; whnf
  have sD1 : ST w W1.drew av qv (3 * i) (2 * (3 * i)) 0 0 [] [] [OB] none := HS1.out.kept0 ((Apart.refl [] _).drewN 1)
  have HSD1 := hid sD1
  have HBD1 : Hid (W1.drew.heap[OB]? = some (.cells #[.int .i64 kind, .int .i64 gap, .int .i64 stop, .slice pa na ca, .slice pb nb cb, .int .i64 dn, .int .i64 dc] 48 (0, 0))) := HB1.out
  have cD1 := box7 HBD1.out
  have hC1 := copied_ok (cap := ca) (HLA.out.kept0 sD1.ap) (by omega)
  clear sD1
  refine wp_region_held_drew (S := fun X => X.cell? ⟨OB, 1, none⟩ = some (.int .i64 gap) ∧ X.cell? ⟨OB, 3, none⟩ = some (.slice pa na ca) ∧ X.cell? ⟨OB, 4, none⟩ = some (.slice pb nb cb) ∧ X.cell? ⟨OB, 5, none⟩ = some (.int .i64 dn) ∧ X.cell? ⟨OB, 6, none⟩ = some (.int .i64 dc)) (by kernel_rfl) cD1 (fun hHeld => ?_)
  refine wpAnyH_take (i := 0) (oi := ⟨some 46, _, _, _, _, _⟩) (v := (.pointer (some ⟨OB, 3, none⟩))) rfl (by kernel_rfl) (by kernel_rfl) (by kernel_rfl) (fun _ _ _ h => hQ _ _ _ _ _ h) (Or.inl ⟨by rfl, ?_⟩) (by assumption) ?_
  · intro W hSW; go_simp
  simp only [Act.put, List.setIfInBounds_toArray, List.set_cons_zero, List.set_cons_succ]
  refine wpAnyH_take (i := 1) (oi := ⟨some 47, _, _, _, _, _⟩) (v := (.slice pa na ca)) rfl (by kernel_rfl) (by kernel_rfl) (by kernel_rfl) (fun _ _ _ h => hQ _ _ _ _ _ h) (Or.inl ⟨by rfl, ?_⟩) (by assumption) ?_
  · intro W hSW; go_simp
  simp only [Act.put, List.setIfInBounds_toArray, List.set_cons_zero, List.set_cons_succ]
  refine wpAnyH_take (i := 3) (oi := ⟨some 49, _, _, _, _, _⟩) (v := (.pointer (some ⟨OB, 5, none⟩))) rfl (by kernel_rfl) (by kernel_rfl) (by kernel_rfl) (fun _ _ _ h => hQ _ _ _ _ _ h) (Or.inl ⟨by rfl, ?_⟩) (by assumption) ?_
  · intro W hSW; go_simp
  simp only [Act.put, List.setIfInBounds_toArray, List.set_cons_zero, List.set_cons_succ]
  refine wpAnyH_take (i := 4) (oi := ⟨some 50, _, _, _, _, _⟩) (v := (.agg #[.int .i64 dn, .int .i64 dc])) rfl (by kernel_rfl) (by kernel_rfl) (by kernel_rfl) (fun _ _ _ h => hQ _ _ _ _ _ h) (Or.inl ⟨by rfl, ?_⟩) (by assumption) ?_
  · intro W hSW; go_simp
  simp only [Act.put, List.setIfInBounds_toArray, List.set_cons_zero, List.set_cons_succ]
  refine wpAnyH_take (i := 5) (oi := ⟨some 51, _, _, _, _, _⟩) (v := (.pointer (some ⟨OB, 1, none⟩))) rfl (by kernel_rfl) (by kernel_rfl) (by kernel_rfl) (fun _ _ _ h => hQ _ _ _ _ _ h) (Or.inl ⟨by rfl, ?_⟩) (by assumption) ?_
  · intro W hSW; go_simp
  simp only [Act.put, List.setIfInBounds_toArray, List.set_cons_zero, List.set_cons_succ]
  refine wpAnyH_take (i := 6) (oi := ⟨some 52, _, _, _, _, _⟩) (v := (.int .i64 gap)) rfl (by kernel_rfl) (by kernel_rfl) (by kernel_rfl) (fun _ _ _ h => hQ _ _ _ _ _ h) (Or.inl ⟨by rfl, ?_⟩) (by assumption) ?_
  · intro W hSW; go_simp
  simp only [Act.put, List.setIfInBounds_toArray, List.set_cons_zero, List.set_cons_succ]
  refine wpAnyH_ready (rs := [2]) (by kernel_rfl) (by simp) ?_
  refine AllReadyH.cons rfl (fun KK hKK => ?_) AllReadyH.nil
  go_simp
  refine hC1.mono ?_
  rintro r W1a ⟨⟨p1a, c1a, rfl, o1⟩⟩
  dsimp only
  have HS1a : Hid (ST w W1a av qv (3 * i) (2 * (3 * i)) 0 0 [] [] [OB] none) := HSD1.out.kept0 o1.ap
  have HB1a : Hid (W1a.heap[OB]? = some (.cells #[.int .i64 kind, .int .i64 gap, .int .i64 stop, .slice pa na ca, .slice pb nb cb, .int .i64 dn, .int .i64 dc] 48 (0, 0))) := (o1.ap.block OB (lt_of_heap HBD1.out) (by simp)).trans HBD1.out
  have cB1a := box7 HB1a.out
  have hAd := HADD.out p1a na c1a W1a (HT.out.kept0 HS1a.out.ap) (o1.L (by omega) HLA.out.fit)
  clear o1 hC1 cD1 HSD1 HBD1
  refine hKK.out _ _ cB1a (fun hHeld => ?_)
  clear hKK KK
  refine wpAnyH_ready (rs := [7]) (by kernel_rfl) (by simp) ?_
  refine AllReadyH.cons rfl (fun KK hKK => ?_) AllReadyH.nil
  go_simp
  refine hAd.mono ?_
  rintro r W2 ⟨⟨p1, n1, c1, rfl, o2, hn2, hf2⟩⟩
  dsimp only
  have HS2 : Hid (ST w W2 av qv (3 * i) (2 * (3 * i)) 0 0 [] [(.slice p1 n1 c1, z1)] [OB] none) := HS1a.out.addQ o2 hn2 hf2
  have HB2 : Hid (W2.heap[OB]? = some (.cells #[.int .i64 kind, .int .i64 gap, .int .i64 stop, .slice pa na ca, .slice pb nb cb, .int .i64 dn, .int .i64 dc] 48 (0, 0))) := (o2.ap.block OB (lt_of_heap HB1a.out) (by simp)).trans HB1a.out
  have cB2 := box7 HB2.out
  clear o2 hn2 hf2 hAd cB1a HS1a HB1a HS1 HB1
  refine hKK.out _ _ cB2 (fun hHeld => ?_)
  clear hKK KK
  refine wpAnyH_take (i := 8) (oi := ⟨some 45, _, _, _, _, _⟩) (v := (.tuple #[.slice p1 n1 c1, .int .i64 e1])) rfl (by kernel_rfl) (by kernel_rfl) (by kernel_rfl) (fun _ _ _ h => hQ _ _ _ _ _ h) (Or.inl ⟨by rfl, ?_⟩) (by assumption) ?_
  · intro W hSW; go_simp
  simp only [Act.put, List.setIfInBounds_toArray, List.set_cons_zero, List.set_cons_succ]
  refine wpAnyH_take (i := 9) (oi := ⟨some 54, _, _, _, _, _⟩) (v := (.slice p1 n1 c1)) rfl (by kernel_rfl) (by kernel_rfl) (by kernel_rfl) (fun _ _ _ h => hQ _ _ _ _ _ h) (Or.inl ⟨by rfl, ?_⟩) (by assumption) ?_
  · intro W hSW; go_simp
  simp only [Act.put, List.setIfInBounds_toArray, List.set_cons_zero, List.set_cons_succ]
  refine wpAnyH_take (i := 10) (oi := ⟨some 55, _, _, _, _, _⟩) (v := (.int .i64 e1)) rfl (by kernel_rfl) (by kernel_rfl) (by kernel_rfl) (fun _ _ _ h => hQ _ _ _ _ _ h) (Or.inl ⟨by rfl, ?_⟩) (by assumption) ?_
  · intro W hSW; go_simp
  simp only [Act.put, List.setIfInBounds_toArray, List.set_cons_zero, List.set_cons_succ]
  refine wpAnyH_take (i := 11) (oi := ⟨some 8, _, _, _, _, _⟩) (v := (.slice p1 n1 c1)) rfl (by kernel_rfl) (by kernel_rfl) (by kernel_rfl) (fun _ _ _ h => hQ _ _ _ _ _ h) (Or.inl ⟨by rfl, ?_⟩) (by assumption) ?_
  · intro W hSW; go_simp
  simp only [Act.put, List.setIfInBounds_toArray, List.set_cons_zero, List.set_cons_succ]
  refine wpAnyH_take (i := 12) (oi := ⟨some 9, _, _, _, _, _⟩) (v := (.int .i64 e1)) rfl (by kernel_rfl) (by kernel_rfl) (by kernel_rfl) (fun _ _ _ h => hQ _ _ _ _ _ h) (Or.inl ⟨by rfl, ?_⟩) (by assumption) ?_
  · intro W hSW; go_simp
  simp only [Act.put, List.setIfInBounds_toArray, List.set_cons_zero, List.set_cons_succ]
  refine wpAnyH_done (by kernel_rfl) ?_ _
  clear cB2
  exact HKK.out p1 n1 c1 _ _ _ _ _ _ _ _ _ _ _ _ _ ⟨HS2.out, HB2.out⟩
set_option maxHeartbeats 16000000 in
set_option maxRecDepth 1000000 in
theorem r11 {w : World} {i OB : Nat} {kind gap stop : Int} {pa : Option Addr} {na ca : Nat} {pb : Option Addr} {nb cb : Nat} {dn dc : Int} {xs ys : List S} {e1 : Int} {z1 : List S} {e2 : Int} {z2 : List S} {av qv : Value} {W2 : World} {p1 : Option Addr} {n1 c1 : Nat} (HT : Hid (Tab w)) (HLA : Hid (L w pa na xs)) (hna : na ≤ 1048576) (HADD : Hid (∀ (p : Option Addr) (N cap : Nat) w, Tab w → L w p N xs → Calls Tryd.prog 26 #[.slice p N cap, .agg #[.int .i64 dn, .int .i64 dc], .int .i64 gap] w fun r w' => OPost w w' r e1 z1)) (HS2 : Hid (ST w W2 av qv (3 * i) (2 * (3 * i)) 0 0 [] [(.slice p1 n1 c1, z1)] [OB] none)) (HB2 : Hid (W2.heap[OB]? = some (.cells #[.int .i64 kind, .int .i64 gap, .int .i64 stop, .slice pa na ca, .slice pb nb cb, .int .i64 dn, .int .i64 dc] 48 (0, 0)))) {sl0 sl1 sl2 sl3 sl4 sl5 sl6 sl8 sl9 sl10 sl11 sl12 sl13 sl14 sl15 sl16 sl17 sl18 sl19 sl20 sl21 sl22 sl23 sl24 sl25 sl26 sl27 sl28 sl29 sl30 sl31 sl32 sl33 sl34 sl35 sl36 sl37 sl38 sl39 sl40 sl41 sl42 sl43 sl44 sl45 sl46 sl47 sl48 sl49 sl50 sl51 sl52 sl53 sl54 sl55 sl56 sl57 sl58 sl59 sl60 sl61 sl62 sl63 sl64 sl65 sl66 sl67 sl68 sl69 sl70 sl71 sl72 sl73 sl74 sl75 sl76 sl77 sl78 sl79 sl80 sl81 sl82 sl83 sl84 sl85 sl86 sl87 sl88 sl89 sl90 sl91 sl92 sl93 sl94 sl95 sl96 sl97 sl98 sl99 sl100 sl101 sl102 sl103 sl104 sl105 sl106 sl107 sl108 sl109 sl110 sl111 sl112 sl113 sl114 sl115 sl116 sl117 sl118 sl119 sl120 sl121 sl122 sl123 sl124 sl125 sl126 sl127 sl128 sl129 sl130 sl131 sl132 sl133 sl134 sl135 sl136 sl137 sl138 sl139 sl140 sl141 sl142 sl143 sl144 sl145 sl146 sl147 sl148 sl149 sl150 sl151 sl152 sl153 sl154 sl155 sl156 sl157 sl158 sl159 sl160 sl161 sl162 sl163 sl164 sl165 sl166 sl167 sl168 sl169 sl170 sl171 sl172 sl173 sl174 sl175 sl176 sl177 sl178 sl179 sl180 sl181 sl182 sl183 sl184 sl185 sl186 sl187 sl188 sl189 sl190 sl191 sl192 sl193 sl194 sl195 sl196 sl197 sl198 sl199 sl200 sl201 sl202 sl203 sl204 sl205 sl206 sl207 sl208 sl209 sl210 sl211 sl212 sl213 sl214 sl215 sl216 sl217 sl218 sl219 sl220 sl221 sl222 sl223 sl224 sl225 sl226 sl227 sl228 sl229 sl230 sl231 sl232 sl233 sl234 sl235 sl236 sl237 sl238 sl239 sl240 sl241 sl242 sl243 sl244 sl245 sl246 sl247 sl248 sl249 sl250 sl251 sl252 sl253 sl254 sl255 sl256 sl257 : Value} {K' : Act → World → Prop} {Q' : Exit → Act → World → Prop} (hQ : ∀ x (a : Act) (d : Nat) v (w : World), Q' (.panic x) (a.put (some d) v) w → Q' (.panic x) a w) (hK : ∀ (p2 : Option Addr) (n2 c2 : Nat) (W' : World) (nt11 nt56 nt57 nt58 nt59 nt60 nt61 nt62 nt63 nt64 nt65 nt66 : Value), (ST w W' av qv (3 * i) (2 * (3 * i)) 0 0 [] [(.slice p1 n1 c1, z1), (.slice p2 n2 c2, z1)] [OB] none ∧ W'.heap[OB]? = some (.cells #[.int .i64 kind, .int .i64 gap, .int .i64 stop, .slice pa na ca, .slice pb nb cb, .int .i64 dn, .int .i64 dc] 48 (0, 0))) → K' ⟨#[sl0, sl1, sl2, sl3, sl4, sl5, sl6, (.pointer (some ⟨OB, 0, none⟩)), sl8, sl9, (.slice p2 n2 c2), nt11, sl12, sl13, sl14, sl15, sl16, sl17, sl18, sl19, sl20, sl21, sl22, sl23, sl24, sl25, sl26, sl27, sl28, sl29, sl30, sl31, sl32, sl33, sl34, sl35, sl36, sl37, sl38, sl39, sl40, sl41, sl42, sl43, sl44, sl45, sl46, sl47, sl48, sl49, sl50, sl51, sl52, sl53, sl54, sl55, nt56, nt57, nt58, nt59, nt60, nt61, nt62, nt63, nt64, nt65, nt66, sl67, sl68, sl69, sl70, sl71, sl72, sl73, sl74, sl75, sl76, sl77, sl78, sl79, sl80, sl81, sl82, sl83, sl84, sl85, sl86, sl87, sl88, sl89, sl90, sl91, sl92, sl93, sl94, sl95, sl96, sl97, sl98, sl99, sl100, sl101, sl102, sl103, sl104, sl105, sl106, sl107, sl108, sl109, sl110, sl111, sl112, sl113, sl114, sl115, sl116, sl117, sl118, sl119, sl120, sl121, sl122, sl123, sl124, sl125, sl126, sl127, sl128, sl129, sl130, sl131, sl132, sl133, sl134, sl135, sl136, sl137, sl138, sl139, sl140, sl141, sl142, sl143, sl144, sl145, sl146, sl147, sl148, sl149, sl150, sl151, sl152, sl153, sl154, sl155, sl156, sl157, sl158, sl159, sl160, sl161, sl162, sl163, sl164, sl165, sl166, sl167, sl168, sl169, sl170, sl171, sl172, sl173, sl174, sl175, sl176, sl177, sl178, sl179, sl180, sl181, sl182, sl183, sl184, sl185, sl186, sl187, sl188, sl189, sl190, sl191, sl192, sl193, sl194, sl195, sl196, sl197, sl198, sl199, sl200, sl201, sl202, sl203, sl204, sl205, sl206, sl207, sl208, sl209, sl210, sl211, sl212, sl213, sl214, sl215, sl216, sl217, sl218, sl219, sl220, sl221, sl222, sl223, sl224, sl225, sl226, sl227, sl228, sl229, sl230, sl231, sl232, sl233, sl234, sl235, sl236, sl237, sl238, sl239, sl240, sl241, sl242, sl243, sl244, sl245, sl246, sl247, sl248, sl249, sl250, sl251, sl252, sl253, sl254, sl255, sl256, sl257], []⟩ W') :
    Code.wp Tryd.prog (regC 11) (Exit.then K' Q') ⟨#[sl0, sl1, sl2, sl3, sl4, sl5, sl6, (.pointer (some ⟨OB, 0, none⟩)), sl8, sl9, sl10, sl11, sl12, sl13, sl14, sl15, sl16, sl17, sl18, sl19, sl20, sl21, sl22, sl23, sl24, sl25, sl26, sl27, sl28, sl29, sl30, sl31, sl32, sl33, sl34, sl35, sl36, sl37, sl38, sl39, sl40, sl41, sl42, sl43, sl44, sl45, sl46, sl47, sl48, sl49, sl50, sl51, sl52, sl53, sl54, sl55, sl56, sl57, sl58, sl59, sl60, sl61, sl62, sl63, sl64, sl65, sl66, sl67, sl68, sl69, sl70, sl71, sl72, sl73, sl74, sl75, sl76, sl77, sl78, sl79, sl80, sl81, sl82, sl83, sl84, sl85, sl86, sl87, sl88, sl89, sl90, sl91, sl92, sl93, sl94, sl95, sl96, sl97, sl98, sl99, sl100, sl101, sl102, sl103, sl104, sl105, sl106, sl107, sl108, sl109, sl110, sl111, sl112, sl113, sl114, sl115, sl116, sl117, sl118, sl119, sl120, sl121, sl122, sl123, sl124, sl125, sl126, sl127, sl128, sl129, sl130, sl131, sl132, sl133, sl134, sl135, sl136, sl137, sl138, sl139, sl140, sl141, sl142, sl143, sl144, sl145, sl146, sl147, sl148, sl149, sl150, sl151, sl152, sl153, sl154, sl155, sl156, sl157, sl158, sl159, sl160, sl161, sl162, sl163, sl164, sl165, sl166, sl167, sl168, sl169, sl170, sl171, sl172, sl173, sl174, sl175, sl176, sl177, sl178, sl179, sl180, sl181, sl182, sl183, sl184, sl185, sl186, sl187, sl188, sl189, sl190, sl191, sl192, sl193, sl194, sl195, sl196, sl197, sl198, sl199, sl200, sl201, sl202, sl203, sl204, sl205, sl206, sl207, sl208, sl209, sl210, sl211, sl212, sl213, sl214, sl215, sl216, sl217, sl218, sl219, sl220, sl221, sl222, sl223, sl224, sl225, sl226, sl227, sl228, sl229, sl230, sl231, sl232, sl233, sl234, sl235, sl236, sl237, sl238, sl239, sl240, sl241, sl242, sl243, sl244, sl245, sl246, sl247, sl248, sl249, sl250, sl251, sl252, sl253, sl254, sl255, sl256, sl257], []⟩ W2 := by
  have HKK := hid hK
  clear hK
  conv => arg 2; whnf
  have sD2 : ST w W2.drew av qv (3 * i) (2 * (3 * i)) 0 0 [] [(.slice p1 n1 c1, z1)] [OB] none := HS2.out.kept0 ((Apart.refl [] _).drewN 1)
  have HSD2 := hid sD2
  have HBD2 : Hid (W2.drew.heap[OB]? = some (.cells #[.int .i64 kind, .int .i64 gap, .int .i64 stop, .slice pa na ca, .slice pb nb cb, .int .i64 dn, .int .i64 dc] 48 (0, 0))) := HB2.out
  have cD2 := box7 HBD2.out
  have hC2 := copied_ok (cap := ca) (HLA.out.kept0 sD2.ap) (by omega)
  clear sD2
  refine wp_region_held_drew (S := fun X => X.cell? ⟨OB, 1, none⟩ = some (.int .i64 gap) ∧ X.cell? ⟨OB, 3, none⟩ = some (.slice pa na ca) ∧ X.cell? ⟨OB, 4, none⟩ = some (.slice pb nb cb) ∧ X.cell? ⟨OB, 5, none⟩ = some (.int .i64 dn) ∧ X.cell? ⟨OB, 6, none⟩ = some (.int .i64 dc)) (by kernel_rfl) cD2 (fun hHeld => ?_)
  refine wpAnyH_take (i := 0) (oi := ⟨some 57, _, _, _, _, _⟩) (v := (.pointer (some ⟨OB, 3, none⟩))) rfl (by kernel_rfl) (by kernel_rfl) (by kernel_rfl) (fun _ _ _ h => hQ _ _ _ _ _ h) (Or.inl ⟨by rfl, ?_⟩) (by assumption) ?_
  · intro W hSW; go_simp
  simp only [Act.put, List.setIfInBounds_toArray, List.set_cons_zero, List.set_cons_succ]
  refine wpAnyH_take (i := 1) (oi := ⟨some 58, _, _, _, _, _⟩) (v := (.slice pa na ca)) rfl (by kernel_rfl) (by kernel_rfl) (by kernel_rfl) (fun _ _ _ h => hQ _ _ _ _ _ h) (Or.inl ⟨by rfl, ?_⟩) (by assumption) ?_
  · intro W hSW; go_simp
  simp only [Act.put, List.setIfInBounds_toArray, List.set_cons_zero, List.set_cons_succ]
  refine wpAnyH_take (i := 3) (oi := ⟨some 60, _, _, _, _, _⟩) (v := (.pointer (some ⟨OB, 5, none⟩))) rfl (by kernel_rfl) (by kernel_rfl) (by kernel_rfl) (fun _ _ _ h => hQ _ _ _ _ _ h) (Or.inl ⟨by rfl, ?_⟩) (by assumption) ?_
  · intro W hSW; go_simp
  simp only [Act.put, List.setIfInBounds_toArray, List.set_cons_zero, List.set_cons_succ]
  refine wpAnyH_take (i := 4) (oi := ⟨some 61, _, _, _, _, _⟩) (v := (.agg #[.int .i64 dn, .int .i64 dc])) rfl (by kernel_rfl) (by kernel_rfl) (by kernel_rfl) (fun _ _ _ h => hQ _ _ _ _ _ h) (Or.inl ⟨by rfl, ?_⟩) (by assumption) ?_
  · intro W hSW; go_simp
  simp only [Act.put, List.setIfInBounds_toArray, List.set_cons_zero, List.set_cons_succ]
  refine wpAnyH_take (i := 5) (oi := ⟨some 62, _, _, _, _, _⟩) (v := (.pointer (some ⟨OB, 1, none⟩))) rfl (by kernel_rfl) (by kernel_rfl) (by kernel_rfl) (fun _ _ _ h => hQ _ _ _ _ _ h) (Or.inl ⟨by rfl, ?_⟩) (by assumption) ?_
  · intro W hSW; go_simp
  simp only [Act.put, List.setIfInBounds_toArray, List.set_cons_zero, List.set_cons_succ]
  refine wpAnyH_take (i := 6) (oi := ⟨some 63, _, _, _, _, _⟩) (v := (.int .i64 gap)) rfl (by kernel_rfl) (by kernel_rfl) (by kernel_rfl) (fun _ _ _ h => hQ _ _ _ _ _ h) (Or.inl ⟨by rfl, ?_⟩) (by assumption) ?_
  · intro W hSW; go_simp
  simp only [Act.put, List.setIfInBounds_toArray, List.set_cons_zero, List.set_cons_succ]
  refine wpAnyH_ready (rs := [2]) (by kernel_rfl) (by simp) ?_
  refine AllReadyH.cons rfl (fun KK hKK => ?_) AllReadyH.nil
  go_simp
  refine hC2.mono ?_
  rintro r W2a ⟨⟨p2a, c2a, rfl, o1⟩⟩
  dsimp only
  have HS2a : Hid (ST w W2a av qv (3 * i) (2 * (3 * i)) 0 0 [] [(.slice p1 n1 c1, z1)] [OB] none) := HSD2.out.kept0 o1.ap
  have HB2a : Hid (W2a.heap[OB]? = some (.cells #[.int .i64 kind, .int .i64 gap, .int .i64 stop, .slice pa na ca, .slice pb nb cb, .int .i64 dn, .int .i64 dc] 48 (0, 0))) := (o1.ap.block OB (lt_of_heap HBD2.out) (by simp)).trans HBD2.out
  have cB2a := box7 HB2a.out
  have hAd := HADD.out p2a na c2a W2a (HT.out.kept0 HS2a.out.ap) (o1.L (by omega) HLA.out.fit)
  clear o1 hC2 cD2 HSD2 HBD2
  refine hKK.out _ _ cB2a (fun hHeld => ?_)
  clear hKK KK
  refine wpAnyH_ready (rs := [7]) (by kernel_rfl) (by simp) ?_
  refine AllReadyH.cons rfl (fun KK hKK => ?_) AllReadyH.nil
  go_simp
  refine hAd.mono ?_
  rintro r W3 ⟨⟨p2, n2, c2, rfl, o2, hn2, hf2⟩⟩
  dsimp only
  have HS3 : Hid (ST w W3 av qv (3 * i) (2 * (3 * i)) 0 0 [] [(.slice p1 n1 c1, z1), (.slice p2 n2 c2, z1)] [OB] none) := HS2a.out.addQ o2 hn2 hf2
  have HB3 : Hid (W3.heap[OB]? = some (.cells #[.int .i64 kind, .int .i64 gap, .int .i64 stop, .slice pa na ca, .slice pb nb cb, .int .i64 dn, .int .i64 dc] 48 (0, 0))) := (o2.ap.block OB (lt_of_heap HB2a.out) (by simp)).trans HB2a.out
  have cB3 := box7 HB3.out
  clear o2 hn2 hf2 hAd cB2a HS2a HB2a HS2 HB2
  refine hKK.out _ _ cB3 (fun hHeld => ?_)
  clear hKK KK
  refine wpAnyH_take (i := 8) (oi := ⟨some 56, _, _, _, _, _⟩) (v := (.tuple #[.slice p2 n2 c2, .int .i64 e1])) rfl (by kernel_rfl) (by kernel_rfl) (by kernel_rfl) (fun _ _ _ h => hQ _ _ _ _ _ h) (Or.inl ⟨by rfl, ?_⟩) (by assumption) ?_
  · intro W hSW; go_simp
  simp only [Act.put, List.setIfInBounds_toArray, List.set_cons_zero, List.set_cons_succ]
  refine wpAnyH_take (i := 9) (oi := ⟨some 65, _, _, _, _, _⟩) (v := (.slice p2 n2 c2)) rfl (by kernel_rfl) (by kernel_rfl) (by kernel_rfl) (fun _ _ _ h => hQ _ _ _ _ _ h) (Or.inl ⟨by rfl, ?_⟩) (by assumption) ?_
  · intro W hSW; go_simp
  simp only [Act.put, List.setIfInBounds_toArray, List.set_cons_zero, List.set_cons_succ]
  refine wpAnyH_take (i := 10) (oi := ⟨some 66, _, _, _, _, _⟩) (v := (.int .i64 e1)) rfl (by kernel_rfl) (by kernel_rfl) (by kernel_rfl) (fun _ _ _ h => hQ _ _ _ _ _ h) (Or.inl ⟨by rfl, ?_⟩) (by assumption) ?_
  · intro W hSW; go_simp
  simp only [Act.put, List.setIfInBounds_toArray, List.set_cons_zero, List.set_cons_succ]
  refine wpAnyH_take (i := 11) (oi := ⟨some 10, _, _, _, _, _⟩) (v := (.slice p2 n2 c2)) rfl (by kernel_rfl) (by kernel_rfl) (by kernel_rfl) (fun _ _ _ h => hQ _ _ _ _ _ h) (Or.inl ⟨by rfl, ?_⟩) (by assumption) ?_
  · intro W hSW; go_simp
  simp only [Act.put, List.setIfInBounds_toArray, List.set_cons_zero, List.set_cons_succ]
  refine wpAnyH_take (i := 12) (oi := ⟨some 11, _, _, _, _, _⟩) (v := (.int .i64 e1)) rfl (by kernel_rfl) (by kernel_rfl) (by kernel_rfl) (fun _ _ _ h => hQ _ _ _ _ _ h) (Or.inl ⟨by rfl, ?_⟩) (by assumption) ?_
  · intro W hSW; go_simp
  simp only [Act.put, List.setIfInBounds_toArray, List.set_cons_zero, List.set_cons_succ]
  refine wpAnyH_done (by kernel_rfl) ?_ _
  clear cB3
  exact HKK.out p2 n2 c2 _ _ _ _ _ _ _ _ _ _ _ _ _ ⟨HS3.out, HB3.out⟩
set_option maxHeartbeats 16000000 in
set_option maxRecDepth 1000000 in
theorem r12 {w : World} {i OB : Nat} {kind gap stop : Int} {pa : Option Addr} {na ca : Nat} {pb : Option Addr} {nb cb : Nat} {dn dc : Int} {xs ys : List S} {e1 : Int} {z1 : List S} {e2 : Int} {z2 : List S} {av qv : Value} {W3 : World} {p1 : Option Addr} {n1 c1 : Nat} {p2 : Option Addr} {n2 c2 : Nat} (HT : Hid (Tab w)) (HLA : Hid (L w pa na xs)) (hna : na ≤ 1048576) (HLB : Hid (L w pb nb ys)) (hnb : nb ≤ 1048576) (HUNI : Hid (∀ (p q : Option Addr) (N cap M cb : Nat) w, Tab w → L w p N xs → L w q M ys → Calls Tryd.prog 22 #[.slice p N cap, .slice q M cb, .int .i64 gap] w fun r w' => OPost w w' r e2 z2)) (HS3 : Hid (ST w W3 av qv (3 * i) (2 * (3 * i)) 0 0 [] [(.slice p1 n1 c1, z1), (.slice p2 n2 c2, z1)] [OB] none)) (HB3 : Hid (W3.heap[OB]? = some (.cells #[.int .i64 kind, .int .i64 gap, .int .i64 stop, .slice pa na ca, .slice pb nb cb, .int .i64 dn, .int .i64 dc] 48 (0, 0)))) {sl0 sl1 sl2 sl3 sl4 sl5 sl6 sl8 sl9 sl10 sl11 sl12 sl13 sl14 sl15 sl16 sl17 sl18 sl19 sl20 sl21 sl22 sl23 sl24 sl25 sl26 sl27 sl28 sl29 sl30 sl31 sl32 sl33 sl34 sl35 sl36 sl37 sl38 sl39 sl40 sl41 sl42 sl43 sl44 sl45 sl46 sl47 sl48 sl49 sl50 sl51 sl52 sl53 sl54 sl55 sl56 sl57 sl58 sl59 sl60 sl61 sl62 sl63 sl64 sl65 sl66 sl67 sl68 sl69 sl70 sl71 sl72 sl73 sl74 sl75 sl76 sl77 sl78 sl79 sl80 sl81 sl82 sl83 sl84 sl85 sl86 sl87 sl88 sl89 sl90 sl91 sl92 sl93 sl94 sl95 sl96 sl97 sl98 sl99 sl100 sl101 sl102 sl103 sl104 sl105 sl106 sl107 sl108 sl109 sl110 sl111 sl112 sl113 sl114 sl115 sl116 sl117 sl118 sl119 sl120 sl121 sl122 sl123 sl124 sl125 sl126 sl127 sl128 sl129 sl130 sl131 sl132 sl133 sl134 sl135 sl136 sl137 sl138 sl139 sl140 sl141 sl142 sl143 sl144 sl145 sl146 sl147 sl148 sl149 sl150 sl151 sl152 sl153 sl154 sl155 sl156 sl157 sl158 sl159 sl160 sl161 sl162 sl163 sl164 sl165 sl166 sl167 sl168 sl169 sl170 sl171 sl172 sl173 sl174 sl175 sl176 sl177 sl178 sl179 sl180 sl181 sl182 sl183 sl184 sl185 sl186 sl187 sl188 sl189 sl190 sl191 sl192 sl193 sl194 sl195 sl196 sl197 sl198 sl199 sl200 sl201 sl202 sl203 sl204 sl205 sl206 sl207 sl208 sl209 sl210 sl211 sl212 sl213 sl214 sl215 sl216 sl217 sl218 sl219 sl220 sl221 sl222 sl223 sl224 sl225 sl226 sl227 sl228 sl229 sl230 sl231 sl232 sl233 sl234 sl235 sl236 sl237 sl238 sl239 sl240 sl241 sl242 sl243 sl244 sl245 sl246 sl247 sl248 sl249 sl250 sl251 sl252 sl253 sl254 sl255 sl256 sl257 : Value} {K' : Act → World → Prop} {Q' : Exit → Act → World → Prop} (hQ : ∀ x (a : Act) (d : Nat) v (w : World), Q' (.panic x) (a.put (some d) v) w → Q' (.panic x) a w) (hK : ∀ (p3 : Option Addr) (n3 c3 : Nat) (W' : World) (nt13 nt67 nt68 nt69 nt70 nt71 nt72 nt73 nt74 nt75 nt76 nt77 nt78 : Value), (ST w W' av qv (3 * i) (2 * (3 * i)) 0 0 [] [(.slice p1 n1 c1, z1), (.slice p2 n2 c2, z1), (.slice p3 n3 c3, z2)] [OB] none ∧ W'.heap[OB]? = some (.cells #[.int .i64 kind, .int .i64 gap, .int .i64 stop, .slice pa na ca, .slice pb nb cb, .int .i64 dn, .int .i64 dc] 48 (0, 0))) → K' ⟨#[sl0, sl1, sl2, sl3, sl4, sl5, sl6, (.pointer (some ⟨OB, 0, none⟩)), sl8, sl9, sl10, sl11, (.slice p3 n3 c3), nt13, sl14, sl15, sl16, sl17, sl18, sl19, sl20, sl21, sl22, sl23, sl24, sl25, sl26, sl27, sl28, sl29, sl30, sl31, sl32, sl33, sl34, sl35, sl36, sl37, sl38, sl39, sl40, sl41, sl42, sl43, sl44, sl45, sl46, sl47, sl48, sl49, sl50, sl51, sl52, sl53, sl54, sl55, sl56, sl57, sl58, sl59, sl60, sl61, sl62, sl63, sl64, sl65, sl66, nt67, nt68, nt69, nt70, nt71, nt72, nt73, nt74, nt75, nt76, nt77, nt78, sl79, sl80, sl81, sl82, sl83, sl84, sl85, sl86, sl87, sl88, sl89, sl90, sl91, sl92, sl93, sl94, sl95, sl96, sl97, sl98, sl99, sl100, sl101, sl102, sl103, sl104, sl105, sl106, sl107, sl108, sl109, sl110, sl111, sl112, sl113, sl114, sl115, sl116, sl117, sl118, sl119, sl120, sl121, sl122, sl123, sl124, sl125, sl126, sl127, sl128, sl129, sl130, sl131, sl132, sl133, sl134, sl135, sl136, sl137, sl138, sl139, sl140, sl141, sl142, sl143, sl144, sl145, sl146, sl147, sl148, sl149, sl150, sl151, sl152, sl153, sl154, sl155, sl156, sl157, sl158, sl159, sl160, sl161, sl162, sl163, sl164, sl165, sl166, sl167, sl168, sl169, sl170, sl171, sl172, sl173, sl174, sl175, sl176, sl177, sl178, sl179, sl180, sl181, sl182, sl183, sl184, sl185, sl186, sl187, sl188, sl189, sl190, sl191, sl192, sl193, sl194, sl195, sl196, sl197, sl198, sl199, sl200, sl201, sl202, sl203, sl204, sl205, sl206, sl207, sl208, sl209, sl210, sl211, sl212, sl213, sl214, sl215, sl216, sl217, sl218, sl219, sl220, sl221, sl222, sl223, sl224, sl225, sl226, sl227, sl228, sl229, sl230, sl231, sl232, sl233, sl234, sl235, sl236, sl237, sl238, sl239, sl240, sl241, sl242, sl243, sl244, sl245, sl246, sl247, sl248, sl249, sl250, sl251, sl252, sl253, sl254, sl255, sl256, sl257], []⟩ W') :
    Code.wp Tryd.prog (regC 12) (Exit.then K' Q') ⟨#[sl0, sl1, sl2, sl3, sl4, sl5, sl6, (.pointer (some ⟨OB, 0, none⟩)), sl8, sl9, sl10, sl11, sl12, sl13, sl14, sl15, sl16, sl17, sl18, sl19, sl20, sl21, sl22, sl23, sl24, sl25, sl26, sl27, sl28, sl29, sl30, sl31, sl32, sl33, sl34, sl35, sl36, sl37, sl38, sl39, sl40, sl41, sl42, sl43, sl44, sl45, sl46, sl47, sl48, sl49, sl50, sl51, sl52, sl53, sl54, sl55, sl56, sl57, sl58, sl59, sl60, sl61, sl62, sl63, sl64, sl65, sl66, sl67, sl68, sl69, sl70, sl71, sl72, sl73, sl74, sl75, sl76, sl77, sl78, sl79, sl80, sl81, sl82, sl83, sl84, sl85, sl86, sl87, sl88, sl89, sl90, sl91, sl92, sl93, sl94, sl95, sl96, sl97, sl98, sl99, sl100, sl101, sl102, sl103, sl104, sl105, sl106, sl107, sl108, sl109, sl110, sl111, sl112, sl113, sl114, sl115, sl116, sl117, sl118, sl119, sl120, sl121, sl122, sl123, sl124, sl125, sl126, sl127, sl128, sl129, sl130, sl131, sl132, sl133, sl134, sl135, sl136, sl137, sl138, sl139, sl140, sl141, sl142, sl143, sl144, sl145, sl146, sl147, sl148, sl149, sl150, sl151, sl152, sl153, sl154, sl155, sl156, sl157, sl158, sl159, sl160, sl161, sl162, sl163, sl164, sl165, sl166, sl167, sl168, sl169, sl170, sl171, sl172, sl173, sl174, sl175, sl176, sl177, sl178, sl179, sl180, sl181, sl182, sl183, sl184, sl185, sl186, sl187, sl188, sl189, sl190, sl191, sl192, sl193, sl194, sl195, sl196, sl197, sl198, sl199, sl200, sl201, sl202, sl203, sl204, sl205, sl206, sl207, sl208, sl209, sl210, sl211, sl212, sl213, sl214, sl215, sl216, sl217, sl218, sl219, sl220, sl221, sl222, sl223, sl224, sl225, sl226, sl227, sl228, sl229, sl230, sl231, sl232, sl233, sl234, sl235, sl236, sl237, sl238, sl239, sl240, sl241, sl242, sl243, sl244, sl245, sl246, sl247, sl248, sl249, sl250, sl251, sl252, sl253, sl254, sl255, sl256, sl257], []⟩ W3 := by
  have HKK := hid hK
  clear hK
  conv => arg 2; whnf
  have sD3 : ST w W3.drew av qv (3 * i) (2 * (3 * i)) 0 0 [] [(.slice p1 n1 c1, z1), (.slice p2 n2 c2, z1)] [OB] none := HS3.out.kept0 ((Apart.refl [] _).drewN 1)
  have HSD3 := hid sD3
  have HBD3 : Hid (W3.drew.heap[OB]? = some (.cells #[.int .i64 kind, .int .i64 gap, .int .i64 stop, .slice pa na ca, .slice pb nb cb, .int .i64 dn, .int .i64 dc] 48 (0, 0))) := HB3.out
  have cD3 := box7 HBD3.out
  have hC3 := copied_ok (cap := ca) (HLA.out.kept0 sD3.ap) (by omega)
  clear sD3
  refine wp_region_held_drew (S := fun X => X.cell? ⟨OB, 1, none⟩ = some (.int .i64 gap) ∧ X.cell? ⟨OB, 3, none⟩ = some (.slice pa na ca) ∧ X.cell? ⟨OB, 4, none⟩ = some (.slice pb nb cb) ∧ X.cell? ⟨OB, 5, none⟩ = some (.int .i64 dn) ∧ X.cell? ⟨OB, 6, none⟩ = some (.int .i64 dc)) (by kernel_rfl) cD3 (fun hHeld => ?_)
  refine wpAnyH_take (i := 0) (oi := ⟨some 68, _, _, _, _, _⟩) (v := (.pointer (some ⟨OB, 3, none⟩))) rfl (by kernel_rfl) (by kernel_rfl) (by kernel_rfl) (fun _ _ _ h => hQ _ _ _ _ _ h) (Or.inl ⟨by rfl, ?_⟩) (by assumption) ?_
  · intro W hSW; go_simp
  simp only [Act.put, List.setIfInBounds_toArray, List.set_cons_zero, List.set_cons_succ]
  refine wpAnyH_take (i := 1) (oi := ⟨some 69, _, _, _, _, _⟩) (v := (.slice pa na ca)) rfl (by kernel_rfl) (by kernel_rfl) (by kernel_rfl) (fun _ _ _ h => hQ _ _ _ _ _ h) (Or.inl ⟨by rfl, ?_⟩) (by assumption) ?_
  · intro W hSW; go_simp
  simp only [Act.put, List.setIfInBounds_toArray, List.set_cons_zero, List.set_cons_succ]
  refine wpAnyH_take (i := 3) (oi := ⟨some 71, _, _, _, _, _⟩) (v := (.pointer (some ⟨OB, 4, none⟩))) rfl (by kernel_rfl) (by kernel_rfl) (by kernel_rfl) (fun _ _ _ h => hQ _ _ _ _ _ h) (Or.inl ⟨by rfl, ?_⟩) (by assumption) ?_
  · intro W hSW; go_simp
  simp only [Act.put, List.setIfInBounds_toArray, List.set_cons_zero, List.set_cons_succ]
  refine wpAnyH_take (i := 4) (oi := ⟨some 72, _, _, _, _, _⟩) (v := (.slice pb nb cb)) rfl (by kernel_rfl) (by kernel_rfl) (by kernel_rfl) (fun _ _ _ h => hQ _ _ _ _ _ h) (Or.inl ⟨by rfl, ?_⟩) (by assumption) ?_
  · intro W hSW; go_simp
  simp only [Act.put, List.setIfInBounds_toArray, List.set_cons_zero, List.set_cons_succ]
  refine wpAnyH_take (i := 6) (oi := ⟨some 74, _, _, _, _, _⟩) (v := (.pointer (some ⟨OB, 1, none⟩))) rfl (by kernel_rfl) (by kernel_rfl) (by kernel_rfl) (fun _ _ _ h => hQ _ _ _ _ _ h) (Or.inl ⟨by rfl, ?_⟩) (by assumption) ?_
  · intro W hSW; go_simp
  simp only [Act.put, List.setIfInBounds_toArray, List.set_cons_zero, List.set_cons_succ]
  refine wpAnyH_take (i := 7) (oi := ⟨some 75, _, _, _, _, _⟩) (v := (.int .i64 gap)) rfl (by kernel_rfl) (by kernel_rfl) (by kernel_rfl) (fun _ _ _ h => hQ _ _ _ _ _ h) (Or.inl ⟨by rfl, ?_⟩) (by assumption) ?_
  · intro W hSW; go_simp
  simp only [Act.put, List.setIfInBounds_toArray, List.set_cons_zero, List.set_cons_succ]
  refine wpAnyH_ready (rs := [2]) (by kernel_rfl) (by simp) ?_
  refine AllReadyH.cons rfl (fun KK hKK => ?_) AllReadyH.nil
  go_simp
  refine hC3.mono ?_
  rintro r W3a ⟨⟨p3a, c3a, rfl, o1⟩⟩
  dsimp only
  have HS3a : Hid (ST w W3a av qv (3 * i) (2 * (3 * i)) 0 0 [] [(.slice p1 n1 c1, z1), (.slice p2 n2 c2, z1)] [OB] none) := HSD3.out.kept0 o1.ap
  have HB3a : Hid (W3a.heap[OB]? = some (.cells #[.int .i64 kind, .int .i64 gap, .int .i64 stop, .slice pa na ca, .slice pb nb cb, .int .i64 dn, .int .i64 dc] 48 (0, 0))) := (o1.ap.block OB (lt_of_heap HBD3.out) (by simp)).trans HBD3.out
  have cB3a := box7 HB3a.out
  have hC2 := copied_ok (cap := cb) (HLB.out.kept0 HS3a.out.ap) (by omega)
  have HL1 := hid (o1.L (by omega) HLA.out.fit)
  clear o1 hC3 cD3 HSD3 HBD3
  refine hKK.out _ _ cB3a (fun hHeld => ?_)
  clear hKK KK
  refine wpAnyH_ready (rs := [5]) (by kernel_rfl) (by simp) ?_
  refine AllReadyH.cons rfl (fun KK hKK => ?_) AllReadyH.nil
  go_simp
  refine hC2.mono ?_
  rintro r W3b ⟨⟨p3b, c3b, rfl, o1⟩⟩
  dsimp only
  have HS3b : Hid (ST w W3b av qv (3 * i) (2 * (3 * i)) 0 0 [] [(.slice p1 n1 c1, z1), (.slice p2 n2 c2, z1)] [OB] none) := HS3a.out.kept0 o1.ap
  have HB3b : Hid (W3b.heap[OB]? = some (.cells #[.int .i64 kind, .int .i64 gap, .int .i64 stop, .slice pa na ca, .slice pb nb cb, .int .i64 dn, .int .i64 dc] 48 (0, 0))) := (o1.ap.block OB (lt_of_heap HB3a.out) (by simp)).trans HB3a.out
  have cB3b := box7 HB3b.out
  have hAd := HUNI.out p3a p3b na c3a nb c3b W3b (HT.out.kept0 HS3b.out.ap) (HL1.out.kept0 o1.ap) (o1.L (by omega) HLB.out.fit)
  clear o1 hC2 cB3a HS3a HB3a HL1
  refine hKK.out _ _ cB3b (fun hHeld => ?_)
  clear hKK KK
  refine wpAnyH_ready (rs := [8]) (by kernel_rfl) (by simp) ?_
  refine AllReadyH.cons rfl (fun KK hKK => ?_) AllReadyH.nil
  go_simp
  refine hAd.mono ?_
  rintro r W4 ⟨⟨p3, n3, c3, rfl, o2, hn2, hf2⟩⟩
  dsimp only
  have HS4 : Hid (ST w W4 av qv (3 * i) (2 * (3 * i)) 0 0 [] [(.slice p1 n1 c1, z1), (.slice p2 n2 c2, z1), (.slice p3 n3 c3, z2)] [OB] none) := HS3b.out.addQ o2 hn2 hf2
  have HB4 : Hid (W4.heap[OB]? = some (.cells #[.int .i64 kind, .int .i64 gap, .int .i64 stop, .slice pa na ca, .slice pb nb cb, .int .i64 dn, .int .i64 dc] 48 (0, 0))) := (o2.ap.block OB (lt_of_heap HB3b.out) (by simp)).trans HB3b.out
  have cB4 := box7 HB4.out
  clear o2 hn2 hf2 hAd cB3b HS3b HB3b HS3 HB3
  refine hKK.out _ _ cB4 (fun hHeld => ?_)
  clear hKK KK
  refine wpAnyH_take (i := 9) (oi := ⟨some 67, _, _, _, _, _⟩) (v := (.tuple #[.slice p3 n3 c3, .int .i64 e2])) rfl (by kernel_rfl) (by kernel_rfl) (by kernel_rfl) (fun _ _ _ h => hQ _ _ _ _ _ h) (Or.inl ⟨by rfl, ?_⟩) (by assumption) ?_
  · intro W hSW; go_simp
  simp only [Act.put, List.setIfInBounds_toArray, List.set_cons_zero, List.set_cons_succ]
  refine wpAnyH_take (i := 10) (oi := ⟨some 77, _, _, _, _, _⟩) (v := (.slice p3 n3 c3)) rfl (by kernel_rfl) (by kernel_rfl) (by kernel_rfl) (fun _ _ _ h => hQ _ _ _ _ _ h) (Or.inl ⟨by rfl, ?_⟩) (by assumption) ?_
  · intro W hSW; go_simp
  simp only [Act.put, List.setIfInBounds_toArray, List.set_cons_zero, List.set_cons_succ]
  refine wpAnyH_take (i := 11) (oi := ⟨some 78, _, _, _, _, _⟩) (v := (.int .i64 e2)) rfl (by kernel_rfl) (by kernel_rfl) (by kernel_rfl) (fun _ _ _ h => hQ _ _ _ _ _ h) (Or.inl ⟨by rfl, ?_⟩) (by assumption) ?_
  · intro W hSW; go_simp
  simp only [Act.put, List.setIfInBounds_toArray, List.set_cons_zero, List.set_cons_succ]
  refine wpAnyH_take (i := 12) (oi := ⟨some 12, _, _, _, _, _⟩) (v := (.slice p3 n3 c3)) rfl (by kernel_rfl) (by kernel_rfl) (by kernel_rfl) (fun _ _ _ h => hQ _ _ _ _ _ h) (Or.inl ⟨by rfl, ?_⟩) (by assumption) ?_
  · intro W hSW; go_simp
  simp only [Act.put, List.setIfInBounds_toArray, List.set_cons_zero, List.set_cons_succ]
  refine wpAnyH_take (i := 13) (oi := ⟨some 13, _, _, _, _, _⟩) (v := (.int .i64 e2)) rfl (by kernel_rfl) (by kernel_rfl) (by kernel_rfl) (fun _ _ _ h => hQ _ _ _ _ _ h) (Or.inl ⟨by rfl, ?_⟩) (by assumption) ?_
  · intro W hSW; go_simp
  simp only [Act.put, List.setIfInBounds_toArray, List.set_cons_zero, List.set_cons_succ]
  refine wpAnyH_done (by kernel_rfl) ?_ _
  clear cB4
  exact HKK.out p3 n3 c3 _ _ _ _ _ _ _ _ _ _ _ _ _ _ ⟨HS4.out, HB4.out⟩
set_option maxHeartbeats 16000000 in
set_option maxRecDepth 1000000 in
theorem r13 {w : World} {i OB : Nat} {kind gap stop : Int} {pa : Option Addr} {na ca : Nat} {pb : Option Addr} {nb cb : Nat} {dn dc : Int} {xs ys : List S} {e1 : Int} {z1 : List S} {e2 : Int} {z2 : List S} {av qv : Value} {W4 : World} {p1 : Option Addr} {n1 c1 : Nat} {p2 : Option Addr} {n2 c2 : Nat} {p3 : Option Addr} {n3 c3 : Nat} (HT : Hid (Tab w)) (HLA : Hid (L w pa na xs)) (hna : na ≤ 1048576) (HLB : Hid (L w pb nb ys)) (hnb : nb ≤ 1048576) (HUNI : Hid (∀ (p q : Option Addr) (N cap M cb : Nat) w, Tab w → L w p N xs → L w q M ys → Calls Tryd.prog 22 #[.slice p N cap, .slice q M cb, .int .i64 gap] w fun r w' => OPost w w' r e2 z2)) (HS4 : Hid (ST w W4 av qv (3 * i) (2 * (3 * i)) 0 0 [] [(.slice p1 n1 c1, z1), (.slice p2 n2 c2, z1), (.slice p3 n3 c3, z2)] [OB] none)) (HB4 : Hid (W4.heap[OB]? = some (.cells #[.int .i64 kind, .int .i64 gap, .int .i64 stop, .slice pa na ca, .slice pb nb cb, .int .i64 dn, .int .i64 dc] 48 (0, 0)))) {sl0 sl1 sl2 sl3 sl4 sl5 sl6 sl8 sl9 sl10 sl11 sl12 sl13 sl14 sl15 sl16 sl17 sl18 sl19 sl20 sl21 sl22 sl23 sl24 sl25 sl26 sl27 sl28 sl29 sl30 sl31 sl32 sl33 sl34 sl35 sl36 sl37 sl38 sl39 sl40 sl41 sl42 sl43 sl44 sl45 sl46 sl47 sl48 sl49 sl50 sl51 sl52 sl53 sl54 sl55 sl56 sl57 sl58 sl59 sl60 sl61 sl62 sl63 sl64 sl65 sl66 sl67 sl68 sl69 sl70 sl71 sl72 sl73 sl74 sl75 sl76 sl77 sl78 sl79 sl80 sl81 sl82 sl83 sl84 sl85 sl86 sl87 sl88 sl89 sl90 sl91 sl92 sl93 sl94 sl95 sl96 sl97 sl98 sl99 sl100 sl101 sl102 sl103 sl104 sl105 sl106 sl107 sl108 sl109 sl110 sl111 sl112 sl113 sl114 sl115 sl116 sl117 sl118 sl119 sl120 sl121 sl122 sl123 sl124 sl125 sl126 sl127 sl128 sl129 sl130 sl131 sl132 sl133 sl134 sl135 sl136 sl137 sl138 sl139 sl140 sl141 sl142 sl143 sl144 sl145 sl146 sl147 sl148 sl149 sl150 sl151 sl152 sl153 sl154 sl155 sl156 sl157 sl158 sl159 sl160 sl161 sl162 sl163 sl164 sl165 sl166 sl167 sl168 sl169 sl170 sl171 sl172 sl173 sl174 sl175 sl176 sl177 sl178 sl179 sl180 sl181 sl182 sl183 sl184 sl185 sl186 sl187 sl188 sl189 sl190 sl191 sl192 sl193 sl194 sl195 sl196 sl197 sl198 sl199 sl200 sl201 sl202 sl203 sl204 sl205 sl206 sl207 sl208 sl209 sl210 sl211 sl212 sl213 sl214 sl215 sl216 sl217 sl218 sl219 sl220 sl221 sl222 sl223 sl224 sl225 sl226 sl227 sl228 sl229 sl230 sl231 sl232 sl233 sl234 sl235 sl236 sl237 sl238 sl239 sl240 sl241 sl242 sl243 sl244 sl245 sl246 sl247 sl248 sl249 sl250 sl251 sl252 sl253 sl254 sl255 sl256 sl257 : Value} {K' : Act → World → Prop} {Q' : Exit → Act → World → Prop} (hQ : ∀ x (a : Act) (d : Nat) v (w : World), Q' (.panic x) (a.put (some d) v) w → Q' (.panic x) a w) (hK : ∀ (p4 : Option Addr) (n4 c4 : Nat) (W' : World) (nt15 nt79 nt80 nt81 nt82 nt83 nt84 nt85 nt86 nt87 nt88 nt89 nt90 : Value), (ST w W' av qv (3 * i) (2 * (3 * i)) 0 0 [] [(.slice p1 n1 c1, z1), (.slice p2 n2 c2, z1), (.slice p3 n3 c3, z2), (.slice p4 n4 c4, z2)] [OB] none ∧ W'.heap[OB]? = some (.cells #[.int .i64 kind, .int .i64 gap, .int .i64 stop, .slice pa na ca, .slice pb nb cb, .int .i64 dn, .int .i64 dc] 48 (0, 0))) → K' ⟨#[sl0, sl1, sl2, sl3, sl4, sl5, sl6, (.pointer (some ⟨OB, 0, none⟩)), sl8, sl9, sl10, sl11, sl12, sl13, (.slice p4 n4 c4), nt15, sl16, sl17, sl18, sl19, sl20, sl21, sl22, sl23, sl24, sl25, sl26, sl27, sl28, sl29, sl30, sl31, sl32, sl33, sl34, sl35, sl36, sl37, sl38, sl39, sl40, sl41, sl42, sl43, sl44, sl45, sl46, sl47, sl48, sl49, sl50, sl51, sl52, sl53, sl54, sl55, sl56, sl57, sl58, sl59, sl60, sl61, sl62, sl63, sl64, sl65, sl66, sl67, sl68, sl69, sl70, sl71, sl72, sl73, sl74, sl75, sl76, sl77, sl78, nt79, nt80, nt81, nt82, nt83, nt84, nt85, nt86, nt87, nt88, nt89, nt90, sl91, sl92, sl93, sl94, sl95, sl96, sl97, sl98, sl99, sl100, sl101, sl102, sl103, sl104, sl105, sl106, sl107, sl108, sl109, sl110, sl111, sl112, sl113, sl114, sl115, sl116, sl117, sl118, sl119, sl120, sl121, sl122, sl123, sl124, sl125, sl126, sl127, sl128, sl129, sl130, sl131, sl132, sl133, sl134, sl135, sl136, sl137, sl138, sl139, sl140, sl141, sl142, sl143, sl144, sl145, sl146, sl147, sl148, sl149, sl150, sl151, sl152, sl153, sl154, sl155, sl156, sl157, sl158, sl159, sl160, sl161, sl162, sl163, sl164, sl165, sl166, sl167, sl168, sl169, sl170, sl171, sl172, sl173, sl174, sl175, sl176, sl177, sl178, sl179, sl180, sl181, sl182, sl183, sl184, sl185, sl186, sl187, sl188, sl189, sl190, sl191, sl192, sl193, sl194, sl195, sl196, sl197, sl198, sl199, sl200, sl201, sl202, sl203, sl204, sl205, sl206, sl207, sl208, sl209, sl210, sl211, sl212, sl213, sl214, sl215, sl216, sl217, sl218, sl219, sl220, sl221, sl222, sl223, sl224, sl225, sl226, sl227, sl228, sl229, sl230, sl231, sl232, sl233, sl234, sl235, sl236, sl237, sl238, sl239, sl240, sl241, sl242, sl243, sl244, sl245, sl246, sl247, sl248, sl249, sl250, sl251, sl252, sl253, sl254, sl255, sl256, sl257], []⟩ W') :
    Code.wp Tryd.prog (regC 13) (Exit.then K' Q') ⟨#[sl0, sl1, sl2, sl3, sl4, sl5, sl6, (.pointer (some ⟨OB, 0, none⟩)), sl8, sl9, sl10, sl11, sl12, sl13, sl14, sl15, sl16, sl17, sl18, sl19, sl20, sl21, sl22, sl23, sl24, sl25, sl26, sl27, sl28, sl29, sl30, sl31, sl32, sl33, sl34, sl35, sl36, sl37, sl38, sl39, sl40, sl41, sl42, sl43, sl44, sl45, sl46, sl47, sl48, sl49, sl50, sl51, sl52, sl53, sl54, sl55, sl56, sl57, sl58, sl59, sl60, sl61, sl62, sl63, sl64, sl65, sl66, sl67, sl68, sl69, sl70, sl71, sl72, sl73, sl74, sl75, sl76, sl77, sl78, sl79, sl80, sl81, sl82, sl83, sl84, sl85, sl86, sl87, sl88, sl89, sl90, sl91, sl92, sl93, sl94, sl95, sl96, sl97, sl98, sl99, sl100, sl101, sl102, sl103, sl104, sl105, sl106, sl107, sl108, sl109, sl110, sl111, sl112, sl113, sl114, sl115, sl116, sl117, sl118, sl119, sl120, sl121, sl122, sl123, sl124, sl125, sl126, sl127, sl128, sl129, sl130, sl131, sl132, sl133, sl134, sl135, sl136, sl137, sl138, sl139, sl140, sl141, sl142, sl143, sl144, sl145, sl146, sl147, sl148, sl149, sl150, sl151, sl152, sl153, sl154, sl155, sl156, sl157, sl158, sl159, sl160, sl161, sl162, sl163, sl164, sl165, sl166, sl167, sl168, sl169, sl170, sl171, sl172, sl173, sl174, sl175, sl176, sl177, sl178, sl179, sl180, sl181, sl182, sl183, sl184, sl185, sl186, sl187, sl188, sl189, sl190, sl191, sl192, sl193, sl194, sl195, sl196, sl197, sl198, sl199, sl200, sl201, sl202, sl203, sl204, sl205, sl206, sl207, sl208, sl209, sl210, sl211, sl212, sl213, sl214, sl215, sl216, sl217, sl218, sl219, sl220, sl221, sl222, sl223, sl224, sl225, sl226, sl227, sl228, sl229, sl230, sl231, sl232, sl233, sl234, sl235, sl236, sl237, sl238, sl239, sl240, sl241, sl242, sl243, sl244, sl245, sl246, sl247, sl248, sl249, sl250, sl251, sl252, sl253, sl254, sl255, sl256, sl257], []⟩ W4 := by
  have HKK := hid hK
  clear hK
  conv => arg 2; whnf
  have sD4 : ST w W4.drew av qv (3 * i) (2 * (3 * i)) 0 0 [] [(.slice p1 n1 c1, z1), (.slice p2 n2 c2, z1), (.slice p3 n3 c3, z2)] [OB] none := HS4.out.kept0 ((Apart.refl [] _).drewN 1)
  have HSD4 := hid sD4
  have HBD4 : Hid (W4.drew.heap[OB]? = some (.cells #[.int .i64 kind, .int .i64 gap, .int .i64 stop, .slice pa na ca, .slice pb nb cb, .int .i64 dn, .int .i64 dc] 48 (0, 0))) := HB4.out
  have cD4 := box7 HBD4.out
  have hC4 := copied_ok (cap := ca) (HLA.out.kept0 sD4.ap) (by omega)
  clear sD4
  refine wp_region_held_drew (S := fun X => X.cell? ⟨OB, 1, none⟩ = some (.int .i64 gap) ∧ X.cell? ⟨OB, 3, none⟩ = some (.slice pa na ca) ∧ X.cell? ⟨OB, 4, none⟩ = some (.slice pb nb cb) ∧ X.cell? ⟨OB, 5, none⟩ = some (.int .i64 dn) ∧ X.cell? ⟨OB, 6, none⟩ = some (.int .i64 dc)) (by kernel_rfl) cD4 (fun hHeld => ?_)
  refine wpAnyH_take (i := 0) (oi := ⟨some 80, _, _, _, _, _⟩) (v := (.pointer (some ⟨OB, 3, none⟩))) rfl (by kernel_rfl) (by kernel_rfl) (by kernel_rfl) (fun _ _ _ h => hQ _ _ _ _ _ h) (Or.inl ⟨by rfl, ?_⟩) (by assumption) ?_
  · intro W hSW; go_simp
  simp only [Act.put, List.setIfInBounds_toArray, List.set_cons_zero, List.set_cons_succ]
  refine wpAnyH_take (i := 1) (oi := ⟨some 81, _, _, _, _, _⟩) (v := (.slice pa na ca)) rfl (by kernel_rfl) (by kernel_rfl) (by kernel_rfl) (fun _ _ _ h => hQ _ _ _ _ _ h) (Or.inl ⟨by rfl, ?_⟩) (by assumption) ?_
  · intro W hSW; go_simp
  simp only [Act.put, List.setIfInBounds_toArray, List.set_cons_zero, List.set_cons_succ]
  refine wpAnyH_take (i := 3) (oi := ⟨some 83, _, _, _, _, _⟩) (v := (.pointer (some ⟨OB, 4, none⟩))) rfl (by kernel_rfl) (by kernel_rfl) (by kernel_rfl) (fun _ _ _ h => hQ _ _ _ _ _ h) (Or.inl ⟨by rfl, ?_⟩) (by assumption) ?_
  · intro W hSW; go_simp
  simp only [Act.put, List.setIfInBounds_toArray, List.set_cons_zero, List.set_cons_succ]
  refine wpAnyH_take (i := 4) (oi := ⟨some 84, _, _, _, _, _⟩) (v := (.slice pb nb cb)) rfl (by kernel_rfl) (by kernel_rfl) (by kernel_rfl) (fun _ _ _ h => hQ _ _ _ _ _ h) (Or.inl ⟨by rfl, ?_⟩) (by assumption) ?_
  · intro W hSW; go_simp
  simp only [Act.put, List.setIfInBounds_toArray, List.set_cons_zero, List.set_cons_succ]
  refine wpAnyH_take (i := 6) (oi := ⟨some 86, _, _, _, _, _⟩) (v := (.pointer (some ⟨OB, 1, none⟩))) rfl (by kernel_rfl) (by kernel_rfl) (by kernel_rfl) (fun _ _ _ h => hQ _ _ _ _ _ h) (Or.inl ⟨by rfl, ?_⟩) (by assumption) ?_
  · intro W hSW; go_simp
  simp only [Act.put, List.setIfInBounds_toArray, List.set_cons_zero, List.set_cons_succ]
  refine wpAnyH_take (i := 7) (oi := ⟨some 87, _, _, _, _, _⟩) (v := (.int .i64 gap)) rfl (by kernel_rfl) (by kernel_rfl) (by kernel_rfl) (fun _ _ _ h => hQ _ _ _ _ _ h) (Or.inl ⟨by rfl, ?_⟩) (by assumption) ?_
  · intro W hSW; go_simp
  simp only [Act.put, List.setIfInBounds_toArray, List.set_cons_zero, List.set_cons_succ]
  refine wpAnyH_ready (rs := [2]) (by kernel_rfl) (by simp) ?_
  refine AllReadyH.cons rfl (fun KK hKK => ?_) AllReadyH.nil
  go_simp
  refine hC4.mono ?_
  rintro r W4a ⟨⟨p4a, c4a, rfl, o1⟩⟩
  dsimp only
  have HS4a : Hid (ST w W4a av qv (3 * i) (2 * (3 * i)) 0 0 [] [(.slice p1 n1 c1, z1), (.slice p2 n2 c2, z1), (.slice p3 n3 c3, z2)] [OB] none) := HSD4.out.kept0 o1.ap
  have HB4a : Hid (W4a.heap[OB]? = some (.cells #[.int .i64 kind, .int .i64 gap, .int .i64 stop, .slice pa na ca, .slice pb nb cb, .int .i64 dn, .int .i64 dc] 48 (0, 0))) := (o1.ap.block OB (lt_of_heap HBD4.out) (by simp)).trans HBD4.out
  have cB4a := box7 HB4a.out
  have hC2 := copied_ok (cap := cb) (HLB.out.kept0 HS4a.out.ap) (by omega)
  have HL1 := hid (o1.L (by omega) HLA.out.fit)
  clear o1 hC4 cD4 HSD4 HBD4
  refine hKK.out _ _ cB4a (fun hHeld => ?_)
  clear hKK KK
  refine wpAnyH_ready (rs := [5]) (by kernel_rfl) (by simp) ?_
  refine AllReadyH.cons rfl (fun KK hKK => ?_) AllReadyH.nil
  go_simp
  refine hC2.mono ?_
  rintro r W4b ⟨⟨p4b, c4b, rfl, o1⟩⟩
  dsimp only
  have HS4b : Hid (ST w W4b av qv (3 * i) (2 * (3 * i)) 0 0 [] [(.slice p1 n1 c1, z1), (.slice p2 n2 c2, z1), (.slice p3 n3 c3, z2)] [OB] none) := HS4a.out.kept0 o1.ap
  have HB4b : Hid (W4b.heap[OB]? = some (.cells #[.int .i64 kind, .int .i64 gap, .int .i64 stop, .slice pa na ca, .slice pb nb cb, .int .i64 dn, .int .i64 dc] 48 (0, 0))) := (o1.ap.block OB (lt_of_heap HB4a.out) (by simp)).trans HB4a.out
  have cB4b := box7 HB4b.out
  have hAd := HUNI.out p4a p4b na c4a nb c4b W4b (HT.out.kept0 HS4b.out.ap) (HL1.out.kept0 o1.ap) (o1.L (by omega) HLB.out.fit)
  clear o1 hC2 cB4a HS4a HB4a HL1
  refine hKK.out _ _ cB4b (fun hHeld => ?_)
  clear hKK KK
  refine wpAnyH_ready (rs := [8]) (by kernel_rfl) (by simp) ?_
  refine AllReadyH.cons rfl (fun KK hKK => ?_) AllReadyH.nil
  go_simp
  refine hAd.mono ?_
  rintro r W5 ⟨⟨p4, n4, c4, rfl, o2, hn2, hf2⟩⟩
  dsimp only
  have HS5 : Hid (ST w W5 av qv (3 * i) (2 * (3 * i)) 0 0 [] [(.slice p1 n1 c1, z1), (.slice p2 n2 c2, z1), (.slice p3 n3 c3, z2), (.slice p4 n4 c4, z2)] [OB] none) := HS4b.out.addQ o2 hn2 hf2
  have HB5 : Hid (W5.heap[OB]? = some (.cells #[.int .i64 kind, .int .i64 gap, .int .i64 stop, .slice pa na ca, .slice pb nb cb, .int .i64 dn, .int .i64 dc] 48 (0, 0))) := (o2.ap.block OB (lt_of_heap HB4b.out) (by simp)).trans HB4b.out
  have cB5 := box7 HB5.out
  clear o2 hn2 hf2 hAd cB4b HS4b HB4b HS4 HB4
  refine hKK.out _ _ cB5 (fun hHeld => ?_)
  clear hKK KK
  refine wpAnyH_take (i := 9) (oi := ⟨some 79, _, _, _, _, _⟩) (v := (.tuple #[.slice p4 n4 c4, .int .i64 e2])) rfl (by kernel_rfl) (by kernel_rfl) (by kernel_rfl) (fun _ _ _ h => hQ _ _ _ _ _ h) (Or.inl ⟨by rfl, ?_⟩) (by assumption) ?_
  · intro W hSW; go_simp
  simp only [Act.put, List.setIfInBounds_toArray, List.set_cons_zero, List.set_cons_succ]
  refine wpAnyH_take (i := 10) (oi := ⟨some 89, _, _, _, _, _⟩) (v := (.slice p4 n4 c4)) rfl (by kernel_rfl) (by kernel_rfl) (by kernel_rfl) (fun _ _ _ h => hQ _ _ _ _ _ h) (Or.inl ⟨by rfl, ?_⟩) (by assumption) ?_
  · intro W hSW; go_simp
  simp only [Act.put, List.setIfInBounds_toArray, List.set_cons_zero, List.set_cons_succ]
  refine wpAnyH_take (i := 11) (oi := ⟨some 90, _, _, _, _, _⟩) (v := (.int .i64 e2)) rfl (by kernel_rfl) (by kernel_rfl) (by kernel_rfl) (fun _ _ _ h => hQ _ _ _ _ _ h) (Or.inl ⟨by rfl, ?_⟩) (by assumption) ?_
  · intro W hSW; go_simp
  simp only [Act.put, List.setIfInBounds_toArray, List.set_cons_zero, List.set_cons_succ]
  refine wpAnyH_take (i := 12) (oi := ⟨some 14, _, _, _, _, _⟩) (v := (.slice p4 n4 c4)) rfl (by kernel_rfl) (by kernel_rfl) (by kernel_rfl) (fun _ _ _ h => hQ _ _ _ _ _ h) (Or.inl ⟨by rfl, ?_⟩) (by assumption) ?_
  · intro W hSW; go_simp
  simp only [Act.put, List.setIfInBounds_toArray, List.set_cons_zero, List.set_cons_succ]
  refine wpAnyH_take (i := 13) (oi := ⟨some 15, _, _, _, _, _⟩) (v := (.int .i64 e2)) rfl (by kernel_rfl) (by kernel_rfl) (by kernel_rfl) (fun _ _ _ h => hQ _ _ _ _ _ h) (Or.inl ⟨by rfl, ?_⟩) (by assumption) ?_
  · intro W hSW; go_simp
  simp only [Act.put, List.setIfInBounds_toArray, List.set_cons_zero, List.set_cons_succ]
  refine wpAnyH_done (by kernel_rfl) ?_ _
  clear cB5
  exact HKK.out p4 n4 c4 _ _ _ _ _ _ _ _ _ _ _ _ _ _ ⟨HS5.out, HB5.out⟩
end Go.Proofs.YtdggkofihppcmaaDoor.ds
