import PyProof.Rows.All
import Wide.All
import OpenK.AllK
import Wide.FinOn
import HandS.ForMost
import HandS.ForExc
import HandS.Wide
import HandS.Style
import HandS.TupSets
import KE.SortData
import KE.DataCmp
import HandS.TupAny
import HandS.IsInst
import HandS.Zip
import HandS.Flow
import HandS.More
import HandS.FStr
import HandS.Walk
import KE.DataEq
import HandS.Deep
import HandS.MakeKwOnly
import PyProof.EqAt
import PyProof.EqKinds
import PyProof.TupleCall
import KE.KExcInit
import PyProof.InstEq
import PyProof.Rows.Range3
import OpenK.KOps
import HandS.OwnEq
import PyProof.Conv_bool
import HandS.Defaults
import KE.KExcIs
import HandS.DeepEq
import PySem.Challenge.RW_manyruns_k02_marks_nexts_and_moves_taken
/-! A -/
set_option Elab.async false
set_option linter.all false
set_option maxRecDepth 100000
set_option maxHeartbeats 2000000
namespace Mr
open PySem PySem.Spec PyProof.Rows L2
def topS (i : Nat) : Stmt := PySem.Challenge.pw_manyruns_k02_marks_nexts_and_moves_taken.main.body.getD i (.Pass ⟨0, 0, 0, 0⟩)
abbrev sCell : Stmt := topS 26
abbrev sBox : Stmt := topS 27
abbrev sTake : Stmt := topS 28
theorem scCell : FnScope ["_law_script", "_law_k"] ["_law_script", "_law_k"] (defScope sCell) := ⟨rfl, rfl, rfl, by decide +kernel, rfl, by decide +kernel, by decide +kernel⟩
theorem scBox : FnScope ["_law_script", "_law_k", "_law_cell"] ["_law_script", "_law_k"] (defScope sBox) := ⟨rfl, rfl, rfl, by decide +kernel, rfl, by decide +kernel, by decide +kernel⟩
theorem scTake : FnScope ["_law_box_here", "_law_size", "_law_found", "_law_once", "_law_twice"] ["_law_box_here", "_law_size"] (defScope sTake) := ⟨rfl, rfl, rfl, by decide +kernel, rfl, by decide +kernel, by decide +kernel⟩

/-- the three numbers of a box at b, the last of them c -/
def Bx (H : Hp) (b : Addr) (c : Int) : Prop := ∃ x y : Int, H b = some (.lst [.int x, .int y, .int c]) ∧ 0 ≤ x ∧ 0 ≤ y ∧ y < 2 ^ 62
/-- what stood stands, but what is at b -/
def Kp (b : Addr) (H H' : Hp) : Prop := ∀ a o, a ≠ b → H a = some o → H' a = some o

section
variable {P : Program} {w : World} {K : PySem.W.Frag} {mg : Str → Option Value} {base : Heap}
def spCell (K : PySem.W.Frag) : Sp := fun vs H Q _ => ∃ (a : Addr) (ns : List Int) (k : Nat), vs = [.ref a, .int k] ∧ SqL K H a (ns.map V.int) ∧ ∀ z : Int, Q (.int z) H
theorem ok_cell {f : Addr} {fd : FuncData} {k : Nat} (F : Fun K "_law_cell_at" "_law_cell_at" sCell f fd) (ml : mg "len" = none) : FnOk P w K mg base CX0 (k + 1) f fd ["_law_script", "_law_k"] (spCell K) := by
  refine F.ok scCell (fun vs H Q E h => ?_) (fun cdv A outer s H vs Q E hr h => ?_)
  · obtain ⟨a, ns, k, rfl, _⟩ := h
    rfl
  · obtain ⟨a, ns, k, rfl, hS, q⟩ := h
    refine ⟨_, pss_cons (ps_if (pt_cmpR op_lt (pv 1) (pe_callB call_len_seq (by rfl) ml PySem.boot_len (pa_cons (pv 0) pa_nil)) (nomark _)) (pss_one (ps_ret (pe_ix ix_list (pv 0) (pv 1) (fun _ _ => rfl)))) pss_nil) (pss_one (ps_ret pe_int)), ?_⟩
    refine ⟨_, rfl, .ref a, rfl, a, ns.map V.int, rfl, .inl hS, k, _, rfl, rfl, _, rfl, ite2 (fun e => ?_) (fun e => ?_)⟩
    · have e1 : k < ns.length := by
        have := of_decide_eq_true e
        rw [List.length_map] at this
        omega
      exact ⟨.ref a, rfl, _, rfl, a, _, k, .int ns[k], rfl, rfl, hS, atI_nat (j := k) (by rw [List.getElem?_map, List.getElem?_eq_getElem e1]; rfl), q _⟩
    · exact q 0
end
end Mr

/-! B -/
set_option Elab.async false
set_option linter.all false
set_option maxRecDepth 100000
set_option maxHeartbeats 2000000
namespace Mr
open PySem PySem.Spec PyProof.Rows L2
theorem bit_in (b : Bool) : -(2 ^ 64) < (if b = true then (1 : Int) else 0) ∧ (if b = true then (1 : Int) else 0) < 2 ^ 64 := by cases b <;> decide
theorem bit_pos (b : Bool) : 0 ≤ (if b = true then (1 : Int) else 0) := by cases b <;> decide
section
variable {P : Program} {w : World} {K : PySem.W.Frag} {mg : Str → Option Value} {base : Heap}
def spBox (K : PySem.W.Frag) : Sp := fun vs H Q _ => ∃ (a : Addr) (ns : List Int) (k : Nat), vs = [.ref a, .int k] ∧ SqL K H a (ns.map V.int) ∧ k ≤ 100 ∧ ∀ p H', H p = none → (∀ a o, H a = some o → H' a = some o) → Bx H' p 0 → Q (.ref p) H'
theorem ok_box {f fC : Addr} {fd fdC : FuncData} {k : Nat} (F : Fun K "_law_box" "_law_box" sBox f fd) (FC : Fun K "_law_cell_at" "_law_cell_at" sCell fC fdC) (bC : Binds K fdC ["_law_script", "_law_k"] []) (mC : mg "_law_cell_at" = some (.ref fC))
    (ml : mg "len" = none) (ma : mg "abs" = none) (mi : mg "int" = none) : FnOk P w K mg base CX0 2 f fd ["_law_script", "_law_k"] (spBox K) := by
  have GC : FnOk P w K mg base CX0 1 fC fdC ["_law_script", "_law_k"] (spCell K) := ok_cell FC ml
  refine F.ok scBox (fun vs H Q E h => ?_) (fun cdv A outer s H vs Q E hr h => ?_)
  · obtain ⟨a, ns, k, rfl, _⟩ := h
    rfl
  · obtain ⟨a, ns, k, rfl, hS, hk, q⟩ := h
    refine ⟨_, pss_cons (ps_set (i := 2) scBox.nd rfl (.inl rfl) (pe_call GC hr (by rfl) mC FC.kp bC .nil pass0 (pa_cons (pv 0) (pa_cons (pv 1) pa_nil))))
      (pss_one (ps_ret (pe_lst (pa_cons (pe_op op_mul (pe_callB call_abs (by rfl) ma (by decide +kernel) (pa_cons (pv 2) pa_nil))
          (pe_callTy call_int1 (by rfl) mi (by decide +kernel) (pa_cons (pe_cmpR op_ge (pe_callB call_abs (by rfl) ma (by decide +kernel) (pa_cons (pv 2) pa_nil)) (pe_op op_pow pe_int pe_int) (nomark _)) pa_nil)))
        (pa_cons (pe_op op_add (pe_op op_add (pe_op op_mod (pv 2) pe_int) (pe_op op_mul pe_int (pv 1))) pe_int) (pa_cons pe_int pa_nil)))))), ?_⟩
    refine ⟨_, rfl, _, rfl, a, ns, k, rfl, hS, fun z => ?_⟩
    refine ⟨_, rfl, z, rfl, _, rfl, z, rfl, 10, 18, rfl, rfl, ⟨by decide, by decide, by decide⟩, _, _, rfl, rfl, ?_⟩
    refine .inr ⟨_, rfl, _, _, rfl, rfl, .inr (bit_in _), ?_⟩
    refine ⟨_, rfl, _, _, rfl, rfl, (by show (0:Int) < 2305843009213693951; decide), _, rfl, _, _, rfl, rfl, .inl ⟨by decide, by decide⟩, _, _, rfl, rfl, _, _, rfl, rfl, (by show 3 ≤ sizeLine; decide), fun p hp => q p _ hp (fun b o e => by rw [upd_ne (ne_of_none e hp)]; exact e) ?_⟩
    refine ⟨_, _, upd_same, ?_, ?_, ?_⟩
    · refine Int.mul_nonneg ?_ ?_
      · split <;> omega
      · exact bit_pos _
    · have := Int.emod_nonneg z (show (2305843009213693951 : Int) ≠ 0 by decide)
      omega
    · have := Int.emod_lt_of_pos z (show (0 : Int) < 2305843009213693951 by decide)
      omega
def spTake : Sp := fun vs H Q _ => ∃ (b : Addr) (n c : Int), vs = [.ref b, .int n] ∧ Bx H b c ∧ 0 ≤ c ∧ c ≤ 10000000 ∧ 0 < n ∧ n ≤ 1000000 ∧
  ∀ r c' H', 0 ≤ r → r < n → c ≤ c' → c' ≤ c + 1 → Bx H' b c' → Kp b H H' → (∀ a, a ≠ b → H' a = H a) → Q (.int r) H'
theorem ok_take {f : Addr} {fd : FuncData} {k : Nat} (F : Fun K "_law_take" "_law_take" sTake f fd) : FnOk P w K mg base CX0 (k + 1) f fd ["_law_box_here", "_law_size"] spTake := by
  refine F.ok scTake (fun vs H Q E h => ?_) (fun cdv A outer s H vs Q E hr h => ?_)
  · obtain ⟨b, n, c, rfl, _⟩ := h
    rfl
  · obtain ⟨b, n, c, rfl, ⟨x, y, hb, hx, hy, hy2⟩, hc, hc2, hn, hn2, q⟩ := h
    refine ⟨_, pss_cons (ps_if (pt_cmpR op_gt (pe_ix ix_list (pv 0) pe_int (fun _ _ => rfl)) pe_int (nomark _))
        (pss_cons (ps_set (i := 2) scTake.nd rfl (.inl rfl) (pe_op op_mod (pe_ix ix_list (pv 0) pe_int (fun _ _ => rfl)) (pv 1)))
        (pss_cons (ps_asg (pe_op op_fdivN (pe_ix ix_list (pv 0) pe_int (fun _ _ => rfl)) (pv 1)) (pg_sub (pv 0) pe_int set_list))
        (pss_one (ps_ret (pv 2))))) pss_nil)
      (pss_cons (ps_asg (pe_op op_add (pe_ix ix_list (pv 0) pe_int (fun _ _ => rfl)) pe_int) (pg_sub (pv 0) pe_int set_list))
      (pss_cons (ps_set (i := 3) scTake.nd rfl (.inl rfl) (pe_op op_mod (pe_op op_mul (pe_op op_add (pe_ix ix_list (pv 0) pe_int (fun _ _ => rfl)) (pe_op op_mul pe_int (pe_ix ix_list (pv 0) pe_int (fun _ _ => rfl)))) (pe_op op_add pe_int (pe_ix ix_list (pv 0) pe_int (fun _ _ => rfl)))) pe_int))
      (pss_cons (ps_set (i := 4) scTake.nd rfl (.inl rfl) (pe_op op_mod (pe_op op_mul (pe_op op_add (pe_op op_add (pv 3) (pe_ix ix_list (pv 0) pe_int (fun _ _ => rfl))) (pe_op op_fdiv (pe_ix ix_list (pv 0) pe_int (fun _ _ => rfl)) pe_int)) (pe_op op_add (pe_op op_mod (pv 3) pe_int) pe_int)) pe_int))
      (pss_one (ps_ret (pe_op op_mod (pe_op op_fdiv (pe_op op_mod (pe_op op_add (pe_op op_mul (pv 4) pe_int) (pv 3)) pe_int) pe_int) (pv 1))))))), ?_⟩
    have g0 : ∀ z0 z1 z2 : Int, atI [V.int z0, V.int z1, V.int z2] 0 = some (.int z0) := fun _ _ _ => rfl
    have g1 : ∀ z0 z1 z2 : Int, atI [V.int z0, V.int z1, V.int z2] 1 = some (.int z1) := fun _ _ _ => rfl
    have g2 : ∀ z0 z1 z2 : Int, atI [V.int z0, V.int z1, V.int z2] 2 = some (.int z2) := fun _ _ _ => rfl
    refine ⟨_, rfl, b, _, 0, _, rfl, rfl, SqL.of hb, g0 _ _ _, _, _, rfl, rfl, _, rfl, ite2 (fun e => ?_) (fun e => ?_)⟩
    · have e1 : 0 < x := of_decide_eq_true e
      refine ⟨_, rfl, b, _, 0, _, rfl, rfl, SqL.of hb, g0 _ _ _, _, rfl, _, _, rfl, rfl, hn, ?_⟩
      refine ⟨_, rfl, b, _, 0, _, rfl, rfl, SqL.of hb, g0 _ _ _, _, rfl, _, _, rfl, rfl, ⟨by omega, by omega⟩, ?_⟩
      refine ⟨_, rfl, b, _, 0, 0, rfl, rfl, hb, rfl, _, rfl, ?_⟩
      refine q _ c _ (Int.emod_nonneg _ (by omega)) (Int.emod_lt_of_pos _ hn) (Int.le_refl _) (by omega) ⟨_, _, upd_same, ?_, hy, hy2⟩ (fun a o ne e => by rw [upd_ne ne]; exact e) (fun a ne => upd_ne ne)
      exact Int.fdiv_nonneg (by omega) (by omega)
    · refine ⟨_, rfl, b, _, 2, _, rfl, rfl, SqL.of hb, g2 _ _ _, _, _, rfl, rfl, ?_⟩
      refine ⟨_, rfl, b, _, 2, 2, rfl, rfl, hb, rfl, ?_⟩
      have hb1 : (upd H b (.lst [V.int x, V.int y, V.int (c + 1)])) b = some (.lst [V.int x, V.int y, V.int (c + 1)]) := upd_same
      refine ⟨_, rfl, b, _, 1, _, rfl, rfl, SqL.of hb1, g1 _ _ _, _, rfl, b, _, 2, _, rfl, rfl, SqL.of hb1, g2 _ _ _, _, _, rfl, rfl, .inl ⟨by decide, by decide⟩, _, _, rfl, rfl, ?_⟩
      refine ⟨_, rfl, b, _, 2, _, rfl, rfl, SqL.of hb1, g2 _ _ _, _, _, rfl, rfl, _, _, rfl, rfl, .inl ⟨by omega, by omega⟩, _, _, rfl, rfl, (by show (0:Int) < 2147483647; decide), ?_⟩
      generalize eo : (y + 48271 * (c + 1)) * (39373 + (c + 1)) % 2147483647 = o
      have o1 : 0 ≤ o := by rw [← eo]; exact Int.emod_nonneg _ (by decide)
      have o2 : o < 2147483647 := by rw [← eo]; exact Int.emod_lt_of_pos _ (by decide)
      refine ⟨_, rfl, _, rfl, b, _, 2, _, rfl, rfl, SqL.of hb1, g2 _ _ _, _, _, rfl, rfl, _, rfl, b, _, 1, _, rfl, rfl, SqL.of hb1, g1 _ _ _, _, _, rfl, rfl, ⟨by decide, by decide⟩, _, _, rfl, rfl, ?_⟩
      refine ⟨_, rfl, _, _, rfl, rfl, (by show (0:Int) < 40009; decide), _, _, rfl, rfl, _, _, rfl, rfl, .inl ⟨by omega, by omega⟩, _, _, rfl, rfl, (by show (0:Int) < 2147483629; decide), ?_⟩
      generalize et : (o + (c + 1) + y / 1000003) * (o % 40009 + 7) % 2147483629 = t
      have t1 : 0 ≤ t := by rw [← et]; exact Int.emod_nonneg _ (by decide)
      have t2 : t < 2147483629 := by rw [← et]; exact Int.emod_lt_of_pos _ (by decide)
      refine ⟨_, rfl, _, _, rfl, rfl, .inl ⟨by omega, by omega⟩, _, rfl, _, _, rfl, rfl, _, _, rfl, rfl, (by show (0:Int) < 2147483587; decide), _, _, rfl, rfl, ⟨by decide, by decide⟩, _, rfl, _, _, rfl, rfl, hn, ?_⟩
      exact q _ (c + 1) _ (Int.emod_nonneg _ (by omega)) (Int.emod_lt_of_pos _ hn) (by omega) (by omega) ⟨_, _, upd_same, hx, hy, hy2⟩ (fun a o ne e => by rw [upd_ne ne]; exact e) (fun a ne => upd_ne ne)
end
end Mr

/-! N -/
set_option Elab.async false
set_option linter.all false
set_option maxRecDepth 100000
set_option maxHeartbeats 2000000
namespace Mr
open PySem PySem.Spec PyProof.Rows L2 TL
/-! the names that a law draws -/
def Low (c : Nat) : Prop := 97 ≤ c ∧ c ≤ 122
def isNm (x : Str) : Prop := 1 ≤ (tl x).length ∧ (tl x).length ≤ 8 ∧ ∀ c ∈ tl x, Low c
/-- the letter of a number -/
def ltr (k : Nat) : Nat := 97 + k % 26
theorem ltr_low (k : Nat) : Low (ltr k) := by
  unfold Low ltr
  omega
abbrev abc : Str := Str.ofString "abcdefghijklmnopqrstuvwxyz"
theorem abc_at (k : Nat) (h : k < 26) : abc.cps[k]? = some (ltr k) := by
  have e : ∀ i : Fin 26, abc.cps[i.val]? = some (ltr i.val) := by decide +kernel
  exact e ⟨k, h⟩
theorem abc_len : abc.length = 26 := by decide +kernel
/-- the k-th name, when none is longer -/
def nmA (stem : List Nat) (spot shift k : Nat) : List Nat := stem.take spot ++ ltr (shift + 3 * k) :: stem.drop spot
def nm (stem : List Nat) (spot shift : Nat) (longer : Bool) (k : Nat) : List Nat :=
  if longer = true ∧ k % 2 = 1 then nmA stem spot shift (k - 1) ++ [ltr (shift + k)] else nmA stem spot shift k
theorem nmA_len (stem : List Nat) (spot shift k : Nat) : (nmA stem spot shift k).length = stem.length + 1 := by
  unfold nmA
  rw [List.length_append, List.length_cons, List.length_take, List.length_drop]
  omega
theorem nmA_low {stem : List Nat} (h : ∀ c ∈ stem, Low c) (spot shift k : Nat) : ∀ c ∈ nmA stem spot shift k, Low c := by
  intro c hc
  unfold nmA at hc
  rcases List.mem_append.mp hc with q | q
  · exact h c (List.mem_of_mem_take q)
  · rcases List.mem_cons.mp q with q | q
    · rw [q]; exact ltr_low _
    · exact h c (List.mem_of_mem_drop q)
theorem nmA_inj {stem : List Nat} {spot shift i j : Nat} (hi : i < 26) (hj : j < 26) (e : nmA stem spot shift i = nmA stem spot shift j) : i = j := by
  unfold nmA at e
  have e2 := List.append_cancel_left e
  have e3 : ltr (shift + 3 * i) = ltr (shift + 3 * j) := (List.cons.inj e2).1
  unfold ltr at e3
  omega
theorem nm_inj {stem : List Nat} {spot shift i j : Nat} {b : Bool} (hi : i < 26) (hj : j < 26) (e : nm stem spot shift b i = nm stem spot shift b j) : i = j := by
  unfold nm at e
  have la := congrArg List.length e
  split at e <;> split at e <;> rename_i h1 h2
  · have e2 := (List.append_inj e (by rw [nmA_len, nmA_len])).1
    have := nmA_inj (by omega) (by omega) e2
    omega
  · exfalso
    rw [if_pos h1, if_neg h2, List.length_append, nmA_len, nmA_len] at la
    simp at la
  · exfalso
    rw [if_neg h1, if_pos h2, List.length_append, nmA_len, nmA_len] at la
    simp at la
  · exact nmA_inj hi hj e
theorem nm_len {stem : List Nat} (h : stem.length ≤ 6) (spot shift : Nat) (b : Bool) (k : Nat) : 1 ≤ (nm stem spot shift b k).length ∧ (nm stem spot shift b k).length ≤ 8 := by
  unfold nm
  split
  · rw [List.length_append, nmA_len]
    simp
    omega
  · rw [nmA_len]
    omega
theorem nm_low {stem : List Nat} (h : ∀ c ∈ stem, Low c) (spot shift : Nat) (b : Bool) (k : Nat) : ∀ c ∈ nm stem spot shift b k, Low c := by
  intro c hc
  unfold nm at hc
  split at hc
  · rcases List.mem_append.mp hc with q | q
    · exact nmA_low h _ _ _ c q
    · rw [List.mem_singleton.mp q]; exact ltr_low _
  · exact nmA_low h _ _ _ c hc
def txt (l : List Nat) : Str := ⟨l.toArray⟩
theorem tl_txt (l : List Nat) : tl (txt l) = l := rfl
theorem txt_inj {l m : List Nat} (e : txt l = txt m) : l = m := by
  have := congrArg tl e
  exact this
theorem len_txt (l : List Nat) : (txt l).length = l.length := by rw [len_tl, tl_txt]
def nmS (stem : List Nat) (spot shift : Nat) (b : Bool) (k : Nat) : Str := txt (nm stem spot shift b k)
theorem nmS_is {stem : List Nat} (hl : stem.length ≤ 6) (h : ∀ c ∈ stem, Low c) (spot shift : Nat) (b : Bool) (k : Nat) : isNm (nmS stem spot shift b k) :=
  ⟨(nm_len hl spot shift b k).1, (nm_len hl spot shift b k).2, nm_low h spot shift b k⟩
def nmL (stem : List Nat) (spot shift : Nat) (b : Bool) (n : Nat) : List Str := (List.range n).map (nmS stem spot shift b)
theorem nmL_nodup (stem : List Nat) (spot shift : Nat) (b : Bool) {n : Nat} (hn : n ≤ 26) : (nmL stem spot shift b n).Nodup := by
  unfold nmL
  rw [List.nodup_iff_pairwise_ne, List.pairwise_map]
  have h0 : (List.range n).Pairwise (· ≠ ·) := List.nodup_iff_pairwise_ne.mp List.nodup_range
  refine List.Pairwise.imp_of_mem (fun {i j} hi hj ne e => ?_) h0
  have h1 := List.mem_range.mp hi
  have h2 := List.mem_range.mp hj
  exact ne (nm_inj (by omega) (by omega) (txt_inj e))
/-! texts glued -/
theorem tl_cut_to (z : Str) (k : Nat) : tl (cutS z none (some (k : Int))) = (tl z).take k := by
  unfold cutS
  show ((z.cps.toList.drop (HT.sIx z.length 0 none)).take (HT.sIx z.length z.length (some (k : Int)) - HT.sIx z.length 0 none)) = _
  rw [HT.sIx_none, HT.sIx_nat, len_tl, List.drop_zero, Nat.sub_zero]
  show (tl z).take (min k (tl z).length) = (tl z).take k
  rw [← List.take_take, List.take_length]
theorem tl_cut_from (z : Str) (k : Nat) : tl (cutS z (some (k : Int)) none) = (tl z).drop k := by
  unfold cutS
  show ((z.cps.toList.drop (HT.sIx z.length 0 (some (k : Int)))).take (HT.sIx z.length z.length none - HT.sIx z.length 0 (some (k : Int)))) = _
  rw [HT.sIx_none, HT.sIx_nat, len_tl]
  show ((tl z).drop (min k (tl z).length)).take ((tl z).length - min k (tl z).length) = (tl z).drop k
  by_cases h : k ≤ (tl z).length
  · rw [Nat.min_eq_left h]
    exact List.take_of_length_le (by rw [List.length_drop]; omega)
  · rw [Nat.min_eq_right (by omega), List.drop_of_length_le (Nat.le_refl _), List.drop_of_length_le (show (tl z).length ≤ k by omega), List.take_nil]
theorem join_nil : ∀ parts : List Str, tl (Txt.join (Str.ofString "") parts) = (parts.map tl).flatten
  | [] => by rw [join_eq]; rfl
  | [x] => by rw [join_eq]; simp [Str.join]
  | x :: y :: r => by
    have ih := join_nil (y :: r)
    rw [join_eq] at ih ⊢
    show tl (x ++ Str.ofString "" ++ Str.join (Str.ofString "") (y :: r)) = _
    rw [tl_append, tl_append, ih]
    have e : tl (Str.ofString "") = [] := rfl
    rw [e, List.append_nil]
    rfl
theorem nmL_succ (stem : List Nat) (spot shift : Nat) (b : Bool) (n : Nat) : nmL stem spot shift b (n + 1) = nmL stem spot shift b n ++ [nmS stem spot shift b n] := by
  unfold nmL
  rw [List.range_succ, List.map_append]
  rfl
theorem nmL_len (stem : List Nat) (spot shift : Nat) (b : Bool) (n : Nat) : (nmL stem spot shift b n).length = n := by
  unfold nmL
  simp
theorem nmL_is {stem : List Nat} (hl : stem.length ≤ 6) (h : ∀ c ∈ stem, Low c) (spot shift : Nat) (b : Bool) (n : Nat) : ∀ x ∈ nmL stem spot shift b n, isNm x := by
  intro x hx
  obtain ⟨k, _, e⟩ := List.mem_map.mp hx
  rw [← e]
  exact nmS_is hl h _ _ _ _
theorem glue (stem : Str) (spot k : Nat) (z : Nat) : cutS stem none (some (spot : Int)) ++ (⟨#[z]⟩ : Str) ++ cutS stem (some (spot : Int)) none = txt ((tl stem).take spot ++ z :: (tl stem).drop spot) := by
  refine ext_tl ?_
  rw [tl_append, tl_append, tl_cut_to, tl_cut_from, tl_txt]
  show (tl stem).take spot ++ [z] ++ (tl stem).drop spot = _
  simp
theorem glue1 (l : List Nat) (z : Nat) : txt l ++ (⟨#[z]⟩ : Str) = txt (l ++ [z]) := by
  refine ext_tl ?_
  rw [tl_append, tl_txt, tl_txt]
theorem cut_to_len (z : Str) (k : Nat) : (cutS z none (some (k : Int))).length ≤ (tl z).length := by
  rw [len_tl, tl_cut_to, List.length_take]
  omega
theorem cut_from_len (z : Str) (k : Nat) : (cutS z (some (k : Int)) none).length ≤ (tl z).length := by
  rw [len_tl, tl_cut_from, List.length_drop]
  omega
theorem nm_plain {stem : List Nat} {spot shift k : Nat} {b : Bool} (h : ¬ (b = true ∧ k % 2 = 1)) : nmS stem spot shift b k = txt (nmA stem spot shift k) := by
  unfold nmS nm
  rw [if_neg h]
theorem nm_long {stem : List Nat} {spot shift k : Nat} {b : Bool} (h : b = true ∧ k % 2 = 1) : nmS stem spot shift b k = txt (nmA stem spot shift (k - 1) ++ [ltr (shift + k)]) := by
  unfold nmS nm
  rw [if_pos h]
theorem nmL_get (stem : List Nat) (spot shift : Nat) (b : Bool) {n k : Nat} (h : k < n) : (nmL stem spot shift b n)[k]? = some (nmS stem spot shift b k) := by
  unfold nmL
  rw [List.getElem?_map, List.getElem?_range h]
  rfl
theorem flat_ones : ∀ {l : List Str}, (∀ x ∈ l, ∃ z, x = (⟨#[z]⟩ : Str) ∧ Low z) → (l.map tl).flatten.length = l.length ∧ ∀ z ∈ (l.map tl).flatten, Low z
  | [], _ => ⟨rfl, fun z h => (by cases h)⟩
  | x :: r, h => by
    obtain ⟨z, e, hz⟩ := h x List.mem_cons_self
    obtain ⟨h1, h2⟩ := flat_ones (l := r) fun y hy => h y (List.mem_cons_of_mem _ hy)
    have ex : tl x = [z] := by rw [e]
    refine ⟨?_, fun y hy => ?_⟩
    · rw [List.map_cons, List.flatten_cons, List.length_append, h1, ex, List.length_cons]
      simp
      omega
    · rw [List.map_cons, List.flatten_cons, ex] at hy
      rcases List.mem_append.mp hy with q | q
      · rw [List.mem_singleton.mp q]; exact hz
      · exact h2 y q
theorem sum_ones : ∀ {l : List Str}, (∀ x ∈ l, ∃ z, x = (⟨#[z]⟩ : Str) ∧ Low z) → (l.map (·.length)).sum = l.length
  | [], _ => rfl
  | x :: r, h => by
    obtain ⟨z, e, _⟩ := h x List.mem_cons_self
    have h1 := sum_ones (l := r) fun y hy => h y (List.mem_cons_of_mem _ hy)
    rw [List.map_cons, List.sum_cons, h1, e, List.length_cons]
    show 1 + r.length = r.length + 1
    omega
end Mr

/-! C -/
set_option Elab.async false
set_option linter.all false
set_option maxRecDepth 100000
set_option maxHeartbeats 2000000
namespace Mr
open PySem PySem.Spec PyProof.Rows L2 TL
abbrev sOf : Stmt := topS 30
abbrev sNames : Stmt := topS 31
theorem scOf : FnScope ["_law_box_here", "_law_some"] ["_law_box_here", "_law_some"] (defScope sOf) := ⟨rfl, rfl, rfl, by decide +kernel, rfl, by decide +kernel, by decide +kernel⟩
theorem scNames : FnScope ["_law_box_here", "_law_size", "_law_letters", "_law_shift", "_law_stem", "_law_spot", "_law_longer", "_law_found", "_law_number", "_law_sign", "_law_turn"] ["_law_box_here", "_law_size"] (defScope sNames) := ⟨rfl, rfl, rfl, by decide +kernel, rfl, by decide +kernel, by decide +kernel⟩
section
variable {K : PySem.W.Frag} {H H1 H' : Hp} {a b : Addr} {xs : List V} {c : Int}
theorem Kp.refl : Kp b H H := fun _ _ _ e => e
theorem Kp.trans (p : Kp b H H1) (q : Kp b H1 H') : Kp b H H' := fun a o n e => q a o n (p a o n e)
theorem Kp.same (p : Same H H1) : Kp b H H1 := fun a o _ e => p a o e
theorem Kp.rd {u : HO} (k : Kp b H H') (n : a ≠ b) (h : Rd H a u) : Rd H' a u := by
  rcases h with h | ⟨o, h⟩
  · exact .inl (k a _ n h)
  · exact .inr ⟨o, k a _ n h⟩
theorem Kp.l (k : Kp b H H') (n : a ≠ b) (h : SqL K H a xs) : SqL K H' a xs := by
  rcases h with h | h
  · exact .inl (k.rd n h)
  · exact .inr h
theorem Bx.netup (hb : Bx H b c) (h : Rd H a (.tup xs)) : a ≠ b := by
  obtain ⟨x, y, e, _⟩ := hb
  rintro rfl
  rcases h with h | ⟨o, h⟩ <;> (rw [e] at h; cases h)
theorem Kp.t (k : Kp b H H') (hb : Bx H b c) (h : SqT K H a xs) : SqT K H' a xs := by
  rcases h with h | h
  · exact .inl (k.rd (hb.netup h) h)
  · exact .inr h
/-- a list that isn't the box, or a tuple -/
def Sq (K : PySem.W.Frag) (H : Hp) (b a : Addr) (xs : List V) : Prop := (SqL K H a xs ∧ a ≠ b) ∨ SqT K H a xs
theorem Sq.or (h : Sq K H b a xs) : SqL K H a xs ∨ SqT K H a xs := h.elim (fun p => .inl p.1) .inr
theorem Kp.sq (k : Kp b H H') (hb : Bx H b c) (h : Sq K H b a xs) : Sq K H' b a xs := by
  rcases h with ⟨h, n⟩ | h
  · exact .inl ⟨k.l n h, n⟩
  · exact .inr (k.t hb h)
theorem Bx.new {p : Addr} {o : HO} (hb : Bx H b c) (hp : H p = none) : Bx (upd H p o) b c := by
  obtain ⟨x, y, e, q⟩ := hb
  exact ⟨x, y, by rw [upd_ne (ne_of_none e hp)]; exact e, q⟩
theorem Bx.up {p : Addr} {o : HO} (hb : Bx H b c) (hp : b ≠ p) : Bx (upd H p o) b c := by
  obtain ⟨x, y, e, q⟩ := hb
  exact ⟨x, y, by rw [upd_ne hp]; exact e, q⟩
theorem Kp.new {p : Addr} {o : HO} (hp : H p = none) : Kp b H (upd H p o) := fun a u _ e => by
  rw [upd_ne (ne_of_none e hp)]
  exact e
theorem Bx.ne {p : Addr} (hb : Bx H b c) (hp : H p = none) : b ≠ p := by
  obtain ⟨x, y, e, _⟩ := hb
  exact ne_of_none e hp
end
theorem Kp.free {H H' : Hp} {b p : Addr} {c : Int} (k : Kp b H H') (hb : Bx H' b c) (hp : H' p = none) : H p = none := by
  cases e : H p with
  | none => rfl
  | some o =>
    have n : p ≠ b := fun z => hb.ne hp z.symm
    rw [k p o n e] at hp
    cases hp
theorem Kp.up {H H' : Hp} {b p : Addr} {o : HO} (k : Kp b H H') (hp : H p = none) : Kp b H (upd H' p o) := fun a u n e => by
  rw [upd_ne (ne_of_none e hp)]
  exact k a u n e
theorem lcYes {σ : L2.St} {H : Hp} {A B : Bool → Hp → Prop} (h : A true H) : tYes σ H (fun b H => if b = true then A b H else B b H) := h
theorem ix_at {n j : Nat} {i : Int} (e : i = (j : Int)) (hj : j < n) : ixN n i = some j := by
  subst e
  unfold ixN
  rw [if_pos (by omega), if_pos (by omega)]
  simp
theorem at_of {xs : List V} {r : Int} (h0 : 0 ≤ r) (h1 : r < xs.length) : ∃ v, xs[r.toNat]? = some v ∧ atI xs r = some v ∧ v ∈ xs := by
  obtain ⟨j, rfl⟩ := Int.eq_ofNat_of_zero_le h0
  have hj : j < xs.length := by omega
  exact ⟨xs[j], by simp [hj], atI_nat (by simp [hj]), List.getElem_mem hj⟩
section
variable {P : Program} {w : World} {K : PySem.W.Frag} {mg : Str → Option Value} {base : Heap}
def spOf (K : PySem.W.Frag) : Sp := fun vs H Q _ => ∃ (b a : Addr) (xs : List V) (c : Int), vs = [.ref b, .ref a] ∧ Bx H b c ∧ Sq K H b a xs ∧ xs ≠ [] ∧ xs.length ≤ 1000 ∧ 0 ≤ c ∧ c ≤ 10000000 ∧
  ∀ v c' H', v ∈ xs → c ≤ c' → c' ≤ c + 1 → Bx H' b c' → Kp b H H' → (∀ a, a ≠ b → H' a = H a) → Q v H'
theorem ok_of {f fT : Addr} {fd fdT : FuncData} (F : Fun K "_law_of" "_law_of" sOf f fd) (FT : Fun K "_law_take" "_law_take" sTake fT fdT) (bT : Binds K fdT ["_law_box_here", "_law_size"] []) (mT : mg "_law_take" = some (.ref fT))
    (ml : mg "len" = none) : FnOk P w K mg base CX0 2 f fd ["_law_box_here", "_law_some"] (spOf K) := by
  have GT : FnOk P w K mg base CX0 1 fT fdT ["_law_box_here", "_law_size"] spTake := ok_take FT
  refine F.ok scOf (fun vs H Q E h => ?_) (fun cdv A outer s H vs Q E hr h => ?_)
  · obtain ⟨b, a, xs, c, rfl, _⟩ := h
    rfl
  · obtain ⟨b, a, xs, c, rfl, hb, hS, hne, hlen, hc, hc2, q⟩ := h
    refine ⟨_, pss_one (ps_ret (pe_ix ix_seq (pv 1) (pe_call GT hr (by rfl) mT FT.kp bT .nil pass0 (pa_cons (pv 0) (pa_cons (pe_callB call_len_seq (by rfl) ml PySem.boot_len (pa_cons (pv 1) pa_nil)) pa_nil))) (fun _ _ => rfl))), ?_⟩
    have h1 : 0 < xs.length := List.length_pos_iff.mpr hne
    refine ⟨_, rfl, _, rfl, _, rfl, a, xs, rfl, hS.or, b, _, c, rfl, hb, hc, hc2, by omega, by omega, fun r c' H' h0 hr2 e1 e2 hb' kp ke => ?_⟩
    obtain ⟨v, _, hv, hm⟩ := at_of h0 hr2
    rcases kp.sq hb hS with ⟨hS', _⟩ | hS'
    · exact .inl ⟨a, xs, r, v, rfl, rfl, hS', hv, q v c' H' hm e1 e2 hb' kp ke⟩
    · exact .inr (.inl ⟨a, xs, r, v, rfl, rfl, hS', hv, q v c' H' hm e1 e2 hb' kp ke⟩)
end
end Mr

/-! D -/
set_option Elab.async false
set_option linter.all false
set_option maxRecDepth 100000
set_option maxHeartbeats 2000000
namespace Mr
open PySem PySem.Spec PyProof.Rows L2 TL
section
variable {P : Program} {w : World} {K : PySem.W.Frag} {mg : Str → Option Value} {base : Heap}
def spNames : Sp := fun vs H Q _ => ∃ (b : Addr) (n : Nat) (c : Int), vs = [.ref b, .int n] ∧ Bx H b c ∧ n ≤ 26 ∧ 0 ≤ c ∧ c ≤ 9000000 ∧
  ∀ p (xs : List Str) c' H', H p = none → xs.length = n → xs.Nodup → (∀ x ∈ xs, isNm x) → H' p = some (.lst (xs.map V.str)) → c ≤ c' → c' ≤ c + 10 → Bx H' b c' → Kp b H H' → Q (.ref p) H'
theorem ok_names {f fT : Addr} {fd fdT : FuncData} (F : Fun K "_law_names" "_law_names" sNames f fd) (FT : Fun K "_law_take" "_law_take" sTake fT fdT) (bT : Binds K fdT ["_law_box_here", "_law_size"] []) (mT : mg "_law_take" = some (.ref fT))
    (ml : mg "len" = none) (mr : mg "range" = none) : FnOk P w K mg base CX0 2 f fd ["_law_box_here", "_law_size"] spNames := by
  have GT : FnOk P w K mg base CX0 1 fT fdT ["_law_box_here", "_law_size"] spTake := ok_take FT
  refine F.ok scNames (fun vs H Q E h => ?_) (fun cdv A outer s H vs Q E hr h => ?_)
  · obtain ⟨b, n, c, rfl, _⟩ := h
    rfl
  · obtain ⟨b, n, c, rfl, hb, hn, hc, hc2, q⟩ := h
    refine ⟨_, pss_cons (ps_asg (pe_tup (pa_cons pe_str (pa_cons (pe_call GT hr (by rfl) mT FT.kp bT .nil pass0 (pa_cons (pv 0) (pa_cons pe_int pa_nil))) pa_nil)))
        (pg_tup rfl (pgs_cons (pg_name (i := 2) scNames.nd rfl (.inr rfl)) (pgs_cons (pg_name (i := 3) scNames.nd rfl (.inl rfl)) pgs_nil))))
      (pss_cons (ps_set (i := 4) scNames.nd rfl (.inl rfl) (pe_join pe_str
        (pe_lc (own := [("_law_turn", 10)]) (g := gName 10) (tt := tYes) rfl scNames.nd (pi_range1 rfl mr (pa_cons (pe_call GT hr (by rfl) mT FT.kp bT .nil pass0 (pa_cons (pv 0) (pa_cons pe_int pa_nil))) pa_nil))
          (blkOk_by (own := [("_law_turn", 10)]) (N := ["_law_box_here", "_law_size", "_law_letters", "_law_shift", "_law_stem", "_law_spot", "_law_longer", "_law_found", "_law_number", "_law_sign", "_law_turn"]) (sc := defScope sNames) (by decide +kernel))
          (fun _ _ _ _ _ => pg_name (i := 10) scNames.nd rfl (.inl rfl)) (fun _ _ _ _ _ => pts_nil)
          (fun _ _ _ _ _ => pe_item_str (pv 2) (pe_call GT hr (by rfl) mT FT.kp bT .nil pass0 (pa_cons (pv 0) (pa_cons pe_int pa_nil))) (fun _ _ => rfl)))))
      (pss_cons (ps_par3 (i := 5) (j := 6) (l := 7) rfl scNames.nd rfl rfl rfl (by decide) (by decide) (by decide) rfl rfl rfl
        (pa_cons (pe_call GT hr (by rfl) mT FT.kp bT .nil pass0 (pa_cons (pv 0) (pa_cons (pe_op op_add (pe_callB call_len_str (by rfl) ml PySem.boot_len (pa_cons (pv 4) pa_nil)) pe_int) pa_nil)))
        (pa_cons (pe_call GT hr (by rfl) mT FT.kp bT .nil pass0 (pa_cons (pv 0) (pa_cons pe_int pa_nil))) (pa_cons (pe_lst pa_nil) pa_nil))) (by rfl))
      (pss_cons (ps_for PassesOwn.never rfl (pi_range1 rfl mr (pa_cons (pv 1) pa_nil)) (pg_name (i := 8) scNames.nd rfl (.inl rfl))
        (pss_cons (ps_set (i := 9) scNames.nd rfl (.inl rfl) (pe_item_str (pv 2) (pe_op op_mod (pe_op op_add (pv 3) (pe_op op_mul pe_int (pv 8))) pe_int) (fun _ _ => rfl)))
        (pss_cons (ps_expr (pe_bm PySem.F.plainAttrs_list PySem.F.slot_list_append PySem.F.type_list_append mt_append (pv 7) (pa_cons (pe_op op_add_str (pe_op op_add_str (pe_slice sl_str (pv 4) po_none (po_some (pv 5))) (pv 9)) (pe_slice sl_str (pv 4) (po_some (pv 5)) po_none)) pa_nil)))
        (pss_one (ps_if (PW.pt (pw_and (pt_cmpR op_eq (pv 6) pe_int (nomark _)) (pw_and1 (pt_cmpR op_eq (pe_op op_mod (pv 8) pe_int) pe_int (nomark _)))))
          (pss_one (ps_asg (pe_op op_add_str (pe_ix ix_list (pv 7) (pe_op op_sub (pv 8) pe_int) (fun _ _ => rfl)) (pe_item_str (pv 2) (pe_op op_mod (pe_op op_add (pv 3) (pv 8)) pe_int) (fun _ _ => rfl)))
            (pg_sub (pv 7) (pv 8) set_list))) pss_nil)))))
      (pss_one (ps_ret (pv 7)))))), ?_⟩
    refine ⟨_, rfl, b, 26, c, rfl, hb, hc, by omega, by decide, by decide, fun r c1 H1 h0 h1 e1 e2 hb1 kp1 ke1 => ?_⟩
    refine ⟨(by show 2 ≤ sizeLine; decide), fun p hp => ⟨p, [.str abc, .int r], rfl, .inl (.inl upd_same), rfl, .str abc, [.int r], rfl, .int r, [], rfl, rfl, ?_⟩⟩
    have hb2 := hb1.new (o := .tup [V.str abc, .int r]) hp
    have kp2 : Kp b H (upd H1 p (.tup [V.str abc, .int r])) := kp1.trans (Kp.new hp)
    generalize upd H1 p (.tup [V.str abc, .int r]) = H2 at hb2 kp2 ⊢
    -- stem
    refine ⟨⟨_, rfl⟩, _, rfl, b, 7, c1, rfl, hb2, by omega, by omega, by decide, by decide, fun t c3 H3 t0 t1 e3 e4 hb3 kp3 ke3 => ?_⟩
    refine ⟨t, rfl, by omega, by omega, fun D hD => ?_⟩
    have kp3' := kp2.trans kp3
    refine lc_range (lo := 0) (n := t.toNat) (fun i H4 => ∃ (l : List Str) (c4 : Int), H4 D = some (.lst (l.map V.str)) ∧ l.length = i ∧ (∀ x ∈ l, ∃ z, x = (⟨#[z]⟩ : Str) ∧ Low z) ∧ Bx H4 b c4 ∧ c3 ≤ c4 ∧ c4 ≤ c3 + i ∧ Kp b H H4)
      ⟨[], c3, upd_same, rfl, fun x hx => (by cases hx), hb3.new hD, Int.le_refl _, by omega, kp3'.trans (Kp.new hD)⟩ ?_ ?_
    · rintro i H4 hi ⟨l, c4, hl, el, al, hb4, e5, e6, kp4⟩
      refine ⟨rfl, lcYes ?_⟩
      refine ⟨_, rfl, _, rfl, b, 26, c4, rfl, hb4, by omega, by omega, by decide, by decide, fun u c5 H5 u0 u1 e7 e8 hb5 kp5 ke5 => ?_⟩
      obtain ⟨j, rfl⟩ := Int.eq_ofNat_of_zero_le u0
      have hj : j < 26 := by omega
      refine ⟨abc, _, ltr j, rfl, rfl, by omega, by omega, by rw [abc_len]; omega, abc_at j hj, ?_⟩
      have nDb : b ≠ D := hb3.ne hD
      refine ⟨_, (by rw [ke5 D nDb.symm]; exact hl), by rw [List.length_map]; exact Nat.lt_of_lt_of_le (show l.length < 100 by omega) (by decide), l ++ [(⟨#[ltr j]⟩ : Str)], c5, by rw [upd_same, List.map_append]; rfl, by rw [List.length_append, el]; rfl, fun x hx => ?_, hb5.up nDb, by omega, by omega, (kp4.trans kp5).up (kp3'.free hb3 hD)⟩
      rcases List.mem_append.mp hx with z | z
      · exact al x z
      · exact ⟨ltr j, List.mem_singleton.mp z, ltr_low j⟩
    · rintro H4 ⟨l, c4, hl, el, al, hb4, e5, e6, kp4⟩
      have hfl : (l.map tl).flatten.length = l.length ∧ ∀ z ∈ (l.map tl).flatten, Low z := flat_ones al
      have hsum : (l.map (·.length)).sum = l.length := sum_ones al
      refine ⟨_, D, l, rfl, rfl, .inl (SqL.of hl), by rw [hsum]; show l.length + l.length * 0 ≤ _; omega, ?_⟩
      have hst : tl (Txt.join (Str.ofString "") l) = (l.map tl).flatten := join_nil l
      generalize Txt.join (Str.ofString "") l = stem at hst ⊢
      have s6 : (tl stem).length ≤ 6 := by rw [hst, hfl.1, el]; omega
      have sl : ∀ z ∈ tl stem, Low z := by rw [hst]; exact hfl.2
      clear hst hfl hsum al hl el
      -- spot, longer, found
      refine ⟨_, rfl, _, rfl, stem, rfl, by rw [len_tl]; exact Nat.le_trans s6 (by decide), _, _, rfl, rfl, b, _, c4, rfl, hb4, by omega, by omega, by omega, by rw [len_tl]; omega, fun sp c5 H5 p0 p1 e7 e8 hb5 kp5 ke5 => ?_⟩
      refine ⟨_, rfl, b, 2, c5, rfl, hb5, by omega, by omega, by decide, by decide, fun lo c6 H6 l0 l1 e9 e10 hb6 kp6 ke6 => ?_⟩
      refine ⟨Nat.zero_le _, fun L hL => ⟨_, _, _, rfl, ?_⟩⟩
      obtain ⟨spot, rfl⟩ := Int.eq_ofNat_of_zero_le p0
      obtain ⟨shift, rfl⟩ := Int.eq_ofNat_of_zero_le h0
      obtain ⟨lg, rfl⟩ := Int.eq_ofNat_of_zero_le l0
      have kp6' := (kp4.trans kp5).trans kp6
      have hL0 : H L = none := kp6'.free hb6 hL
      have nLb : b ≠ L := hb6.ne hL
      refine ⟨_, rfl, n, rfl, by omega, by omega, ?_⟩
      refine for_range (lo := 0) (n := n) (fun i σ H7 => ∃ (y8 y9 y10 : Option V) (c7 : Int), σ = [some (.ref b), some (.int n), some (.str abc), some (.int shift), some (.str stem), some (.int spot), some (.int lg), some (.ref L), y8, y9, y10] ∧
          H7 L = some (.lst ((nmL (tl stem) spot shift (decide (lg = 1)) i).map V.str)) ∧ Bx H7 b c6 ∧ Kp b H H7)
        ⟨_, _, _, c6, rfl, upd_same, hb6.up nLb, kp6'.up hL0⟩ ?_ ?_
      · rintro i σ H7 hi ⟨y8, y9, y10, c7, rfl, hl, hb7, kp7⟩
        have m0 : ((shift : Int) + 3 * (0 + (i : Int))) % 26 = (((shift + 3 * i) % 26 : Nat) : Int) := by omega
        have m1 : ((shift : Int) + (0 + (i : Int))) % 26 = (((shift + i) % 26 : Nat) : Int) := by omega
        have lt26 : ∀ k : Nat, k % 26 < 26 := fun k => Nat.mod_lt _ (by decide)
        have ab : ∀ k : Nat, abc.cps[(((k % 26 : Nat) : Int)).toNat]? = some (ltr k) := fun k => by
          rw [Int.toNat_natCast, abc_at _ (lt26 k)]
          unfold ltr
          rw [Nat.mod_mod]
        refine ⟨_, rfl, _, rfl, _, rfl, _, _, rfl, rfl, .inl ⟨by decide, by decide⟩, _, _, rfl, rfl, _, _, rfl, rfl, (by show (0 : Int) < 26; decide), abc, _, ltr (shift + 3 * i), rfl, rfl, by rw [m0]; omega, by rw [m0]; have := lt26 (shift + 3 * i); omega, by rw [m0, abc_len]; have := lt26 (shift + 3 * i); omega, by rw [m0]; exact ab _, ?_⟩
        have lS : (tl stem).length < 100 := by omega
        have small : ∀ {k : Nat}, k ≤ 1000 → k ≤ sizeLine := fun h => Nat.le_trans h (by decide)
        have c1' := cut_to_len stem spot
        have c2' := cut_from_len stem spot
        have g1 := glue stem spot i (ltr (shift + 3 * i))
        have ez : stem.length = (tl stem).length := len_tl stem
        refine ⟨_, rfl, .inl ⟨rfl, _, .inl (.inl hl)⟩, _, rfl, _, rfl, _, rfl, stem, rfl, small (by omega), _, rfl, _, _, rfl, rfl, small (by show _ + 1 ≤ 1000; omega), _, rfl, _, rfl, _, rfl, stem, rfl, small (by omega), _, _, rfl, rfl, small (by rw [len_tl, tl_append, List.length_append, ← len_tl, ← len_tl]; show _ + 1 + _ ≤ 1000; omega), L, _, _, rfl, rfl, hl, by rw [List.length_map, nmL_len]; exact Nat.lt_of_lt_of_le (show i < 100 by omega) (by decide), ?_⟩
        rw [g1]
        have hl8 : (upd H7 L (.lst ((nmL (tl stem) spot shift (decide (lg = 1)) i).map V.str ++ [.str (txt (nmA (tl stem) spot shift i))]))) L = some (.lst ((nmL (tl stem) spot shift (decide (lg = 1)) i).map V.str ++ [.str (txt (nmA (tl stem) spot shift i))])) := upd_same
        have hb8 := hb7.up (o := .lst ((nmL (tl stem) spot shift (decide (lg = 1)) i).map V.str ++ [.str (txt (nmA (tl stem) spot shift i))])) nLb
        have kp8 := kp7.up (o := .lst ((nmL (tl stem) spot shift (decide (lg = 1)) i).map V.str ++ [.str (txt (nmA (tl stem) spot shift i))])) hL0
        unfold nmA at hl8 hb8 kp8
        generalize upd H7 L (.lst _) = H8 at hl8 hb8 kp8 ⊢
        have plain : ¬ (decide (lg = 1) = true ∧ i % 2 = 1) → H8 L = some (.lst ((nmL (tl stem) spot shift (decide (lg = 1)) (i + 1)).map V.str)) := fun h => by
          rw [nmL_succ, nm_plain h, List.map_append]
          exact hl8
        refine ⟨_, rfl, rfl, _, rfl, ite2 (fun t1 => ?_) (fun t1 => ?_)⟩
        · refine ⟨_, rfl, _, _, rfl, rfl, (by show (0 : Int) < 2; decide), rfl, _, rfl, ite2 (fun t2 => ?_) (fun t2 => ?_)⟩
          · have k1 : (lg : Int) = 1 := V.int.inj (of_decide_eq_true t1)
            have k2 : (0 + (i : Int)) % 2 = 1 := V.int.inj (of_decide_eq_true t2)
            have hc : decide (lg = 1) = true ∧ i % 2 = 1 := ⟨decide_eq_true (by omega), by omega⟩
            obtain ⟨m, rfl⟩ : ∃ m, i = m + 1 := ⟨i - 1, by omega⟩
            have gm : ((nmL (tl stem) spot shift (decide (lg = 1)) (m + 1)).map V.str ++ [V.str (txt (nmA (tl stem) spot shift (m + 1)))])[m]? = some (.str (txt (nmA (tl stem) spot shift m))) := by
              rw [List.getElem?_append_left (by rw [List.length_map, nmL_len]; omega), List.getElem?_map, nmL_get _ _ _ _ (by omega), nm_plain (by omega)]
              rfl
            have ei : (0 + ((m + 1 : Nat) : Int)) - 1 = (m : Int) := by omega
            have la : (nmA (tl stem) spot shift m).length ≤ 7 := by rw [nmA_len]; omega
            refine ⟨_, rfl, _, rfl, _, _, rfl, rfl, L, _, _, _, rfl, rfl, SqL.of hl8, by rw [ei]; exact atI_nat gm, _, rfl, _, rfl, _, rfl, _, _, rfl, rfl, _, _, rfl, rfl, (by show (0 : Int) < 26; decide), abc, _, ltr (shift + (m + 1)), rfl, rfl, by rw [m1]; omega, by rw [m1]; have := lt26 (shift + (m + 1)); omega, by rw [m1, abc_len]; have := lt26 (shift + (m + 1)); omega, by rw [m1]; exact ab _, _, _, rfl, rfl, small (by rw [len_txt]; show _ + 1 ≤ 1000; omega), ?_⟩
            rw [glue1]
            refine ⟨_, rfl, _, rfl, L, _, _, m + 1, rfl, rfl, hl8, ?_, ?_⟩
            · refine ix_at (by omega) ?_
              rw [List.length_append, List.length_map, nmL_len]
              exact Nat.lt_succ_self _
            · refine ⟨_, _, _, c6, rfl, ?_, hb8.up nLb, kp8.up hL0⟩
              rw [upd_same, nmL_succ _ _ _ _ (m + 1), nm_long hc, List.map_append]
              congr 2
              have e9 : ((nmL (tl stem) spot shift (decide (lg = 1)) (m + 1)).map V.str).length = m + 1 := by rw [List.length_map, nmL_len]
              rw [List.set_append_right _ _ (by omega), e9]
              simp
          · exact ⟨_, _, _, c6, rfl, plain fun h => t2 (decide_eq_true (by have := h.2; show V.int ((0 + (i : Int)) % 2) = V.int 1; congr 1; omega)), hb8, kp8⟩
        · exact ⟨_, _, _, c6, rfl, plain fun h => t1 (decide_eq_true (by have := of_decide_eq_true h.1; show V.int (lg : Int) = V.int 1; congr 1; omega)), hb8, kp8⟩
      · rintro σ H7 ⟨y8, y9, y10, c7, rfl, hl, hb7, kp7⟩
        refine ⟨_, rfl, ?_⟩
        exact q L _ c6 H7 hL0 (by unfold nmL; simp) (nmL_nodup _ _ _ _ hn) (nmL_is s6 sl _ _ _ _) hl (by omega) (by omega) hb7 kp7
end
end Mr

/-! S1 -/
set_option Elab.async false
set_option linter.all false
set_option maxRecDepth 100000
set_option maxHeartbeats 3200000
namespace MrS
open PySem PySem.Spec PyProof.Rows L2

/-- the object that set(..) begins with -/
abbrev newSet (w : World) : Obj := { cls := .type "set", dict := none, data := .set #[] 0 (.fresh 0 0 (!w.params.followText "set-order")) }
/-- things that a set takes: which value is which key, and what is known of a set that holds such -/
structure Coll (P : Program) (w : World) (κ : Type) where
  is : Heap → κ → Value → Prop
  hash : κ → Int
  draws : κ → Nat
  room : Around → Prop
  stay : ∀ {h h' : Heap} {k : κ} {v : Value}, (∀ b o, h.get? b = some o → h'.get? b = some o) → is h k v → is h' k v
  pyHash : ∀ {A : Around} {E : Value → Shared → Prop} {s : Shared} {k : κ} {v : Value} {Q : Int → Shared → Prop}, room A → is s.heap k v → Q (hash k) { s with toks := s.toks + draws k } → wpAny (model P w) A (PySem.pyHash v) Q E s
  St : Heap → Addr → List (Value × κ) → Prop
  stay2 : ∀ {h h' : Heap} {a : Addr} {L : List (Value × κ)}, St h a L → (∀ o, h.get? a = some o → h'.get? a = some o) → (∀ p ∈ L, is h' p.2 p.1) → St h' a L
  fresh : ∀ {h : Heap} {a : Addr}, h.get? a = some (newSet w) → St h a []
  add : ∀ {A : Around} {E : Value → Shared → Prop} {s : Shared} {a : Addr} {L : List (Value × κ)} {k : κ} {v : Value} {Q : Bool → Shared → Prop}, room A → St s.heap a L → is s.heap k v → L.length + 1 < 64 →
    (∀ b h' L', Heap.SameBut a s.heap h' → St h' a L' → (k ∈ L.map (·.2) → L' = L) → (k ∉ L.map (·.2) → L'.Perm ((v, k) :: L)) → Q b { s with heap := h' }) → wpAny (model P w) A (setAddHashed a v (hash k)) Q E s
  gives : ∀ {h : Heap} {a : Addr} {L : List (Value × κ)}, St h a L → ∃ es ep t, SetAt h a es ep t ∧ t.fits es.size = true ∧ Ris t.place.toList ∧ (w.params.followText "set-order" = true ∨ t.led = true) ∧ es.size < 64 ∧ es.toList.map (·.2) = L.map (·.1)

/-- what has come of the first i things -/
structure Seen {κ : Type} (ks : List (Value × κ)) (i : Nat) (L : List (Value × κ)) : Prop where
  from_ : ∀ p ∈ L, p ∈ ks.take i
  every : ∀ p ∈ ks.take i, p.2 ∈ L.map (·.2)
  few : L.length ≤ i
  nd : (L.map (·.2)).Nodup
section
variable {κ : Type} {ks L L' : List (Value × κ)} {i : Nat} {x : Value × κ}
theorem Seen.start (ks : List (Value × κ)) : Seen ks 0 [] := ⟨fun p h => (by cases h), fun p h => (by simp at h), Nat.le_refl _, List.nodup_nil⟩
theorem Seen.old (g : Seen ks i L) (h : ks[i]? = some x) (hm : x.2 ∈ L.map (·.2)) : Seen ks (i + 1) L where
  from_ := fun p hp => by rw [take_next h]; exact List.mem_append.mpr (.inl (g.from_ p hp))
  every := fun p hp => by
    rw [take_next h, List.mem_append, List.mem_singleton] at hp
    exact hp.elim (g.every p) fun e => e ▸ hm
  few := Nat.le_succ_of_le g.few
  nd := g.nd
theorem Seen.new (g : Seen ks i L) (h : ks[i]? = some x) (hn : x.2 ∉ L.map (·.2)) (pm : L'.Perm (x :: L)) : Seen ks (i + 1) L' where
  from_ := fun p hp => by
    rw [take_next h, List.mem_append, List.mem_singleton]
    exact (List.mem_cons.mp (pm.mem_iff.mp hp)).elim .inr fun z => .inl (g.from_ p z)
  every := fun p hp => by
    rw [(pm.map (·.2)).mem_iff, List.map_cons, List.mem_cons]
    rw [take_next h, List.mem_append, List.mem_singleton] at hp
    exact hp.elim (fun z => .inr (g.every p z)) fun e => .inl (by rw [e])
  few := by rw [pm.length_eq]; exact Nat.succ_le_succ g.few
  nd := by
    rw [(pm.map (·.2)).nodup_iff, List.map_cons, List.nodup_cons]
    exact ⟨hn, g.nd⟩
end
section
variable {P : Program} {w : World} {κ : Type} {A : Around} {E : Value → Shared → Prop} {s : Shared}
/-- the loop of set(xs) -/
theorem fill (C : Coll P w κ) {I : Addr} {fp wr : List Addr} {G : Array GenState → Array GenState → Prop} {n : Nat} {Pv : Nat → Value → Prop} {St : Nat → Shared → Prop} {R : Result → Shared → Prop}
    (W : WalksS P w A.in1 I fp wr G n Pv St) (S : Addr) (out : S ∉ fp) (ks : List (Value × κ)) (hn : n = ks.length) (hfew : ks.length < 64) (hval : ∀ i v, Pv i v → ∃ p, ks[i]? = some p ∧ v = p.1)
    (hz : Heap) (hk : ∀ p ∈ ks, C.is hz p.2 p.1) (hS0 : hz.get? S = none) (hw0 : ∀ b ∈ wr, hz.get? b = none) (hu : C.room A.in1) :
    ∀ (m i : Nat) (s : Shared), n - i = m → i ≤ n → St i s → (∀ b o, hz.get? b = some o → s.heap.get? b = some o) → (∃ L, C.St s.heap S L ∧ Seen ks i L) →
      (∀ s' L, Moved (S :: wr) G s s' → C.St s'.heap S L → Seen ks n L → (∀ b o, hz.get? b = some o → s'.heap.get? b = some o) → R (.ok (.ret .none)) s') →
      codeAny (model P w) A (.builtin "set.update.loop" ⟨[.ref S, .ref I], []⟩) R s := by
  have Sw : S ∉ wr := fun z => out (W.sub _ z)
  have up : ∀ b ∈ wr, b ∈ S :: wr := fun b z => .tail _ z
  have kept : ∀ {s s' : Shared}, Moved wr G s s' → (∀ b o, hz.get? b = some o → s.heap.get? b = some o) → ∀ b o, hz.get? b = some o → s'.heap.get? b = some o := fun mv kp b o e =>
    mv.heap b o (fun z => by rw [hw0 b z] at e; cases e) (kp b o e)
  have sub : ∀ {i L}, Seen ks i L → ∀ p ∈ L, p ∈ ks := fun g p hp => List.mem_of_mem_take (g.from_ p hp)
  intro m
  induction m with
  | zero =>
    intro i s hm hi st kp ⟨L, hL, g⟩ fin
    obtain rfl : i = n := by omega
    refine codeAny_builtin F.entry_set_update_loop ?_
    rw [Around.under_plainId F.plain_set_update_loop _]
    show wpAny _ A.in1 (pyNext (.ref I) >>= _) _ _ s
    refine wpAny_bind (W.done s _ _ st fun s' mv => ?_)
    have kp' := kept mv kp
    show wpAny _ A.in1 (ret Value.none) _ _ s'
    refine wpAny_pure (fin s' L (mv.mono up) (C.stay2 hL (fun o e => mv.heap S o Sw e) fun p hp => C.stay kp' (hk p (sub g p hp))) g kp')
  | succ m ih =>
    intro i s hm hi st kp ⟨L, hL, g⟩ fin
    have lt : i < n := by omega
    refine codeAny_builtin F.entry_set_update_loop ?_
    rw [Around.under_plainId F.plain_set_update_loop _]
    show wpAny _ A.in1 (pyNext (.ref I) >>= _) _ _ s
    refine wpAny_bind (W.item i s _ _ lt st fun v s' hv st' mv => ?_)
    obtain ⟨p, hp, rfl⟩ := hval i v hv
    have kp' := kept mv kp
    have hL' : C.St s'.heap S L := C.stay2 hL (fun o e => mv.heap S o Sw e) fun q hq => C.stay kp' (hk q (sub g q hq))
    have hx : C.is s'.heap p.2 p.1 := C.stay kp' (hk p (List.mem_of_getElem? hp))
    show wpAny _ A.in1 (holding [p.1] (setAdd S p.1) >>= _) _ _ s'
    refine wpAny_bind (wpAny_holding ?_)
    unfold setAdd
    refine wpAny_holding (wpAny_bind (C.pyHash hu hx ?_))
    refine C.add (s := { s' with toks := s'.toks + C.draws p.2 }) hu hL' hx (by have := g.few; omega) fun b h2 L2 sb hL2 c1 c2 => ?_
    have g2 : Seen ks (i + 1) L2 := by
      rcases Classical.em (p.2 ∈ L.map (·.2)) with z | z
      · rw [c1 z]; exact g.old hp z
      · exact g.new hp z (c2 z)
    have kp2 : ∀ b o, hz.get? b = some o → h2.get? b = some o := fun b o e => (sb.2 b fun z => by rw [z, hS0] at e; cases e).trans (kp' b o e)
    refine wpAny_pure ⟨plainId_quiet F.plain_set_update_loop _, ih (i + 1) _ (by omega) lt (W.frame _ s' _ _ st' (Nat.le_add_right _ _) fun b hb o e => ?_) kp2 ⟨L2, hL2, g2⟩ fun s3 L3 mv3 hL3 g3 kp3 => ?_⟩
    · rw [sb.2 b fun z : b = S => out (z ▸ hb)]; exact e
    · refine fin s3 L3 (Moved.trans W.gtrans ((mv.mono up).then_heap (Nat.le_add_right _ _) fun b o hb e => ?_) mv3) hL3 g3 kp3
      rw [sb.2 b fun z : b = S => hb (z ▸ .head _)]; exact e
end
end MrS

/-! S2 -/
set_option Elab.async false
set_option linter.all false
set_option maxRecDepth 100000
set_option maxHeartbeats 6400000
namespace MrS
open PySem PySem.Spec PyProof.Rows L2
section
variable {P : Program} {w : World} {κ : Type} {A : Around} {E : Value → Shared → Prop} {s : Shared}
/-- set(xs), xs a list -/
theorem call_set (C : Coll P w κ) {l : Addr} {items : Array Value} (ks : List (Value × κ)) {Q : Value → Shared → Prop} (quiet : A.handled = none) (isl : s.heap.IsList l items) (its : items.toList = ks.map (·.1))
    (each : ∀ p ∈ ks, C.is s.heap p.2 p.1) (few : ks.length < 64) (rm : C.room A.in1.in1.in1)
    (goal : ∀ (h' : Heap) (tk : Nat) L, C.St h' s.heap.objs.size L → Seen ks ks.length L → (∀ b o, s.heap.get? b = some o → h'.get? b = some o) → Q (.ref s.heap.objs.size) { s with heap := h', toks := tk }) :
    wpAny (model P w) A (call (.type "set") [.ref l]) Q E s := by
  have size : items.size = ks.length := by
    rw [← Array.length_toList, its, List.length_map]
  obtain ⟨c, tl, ordr⟩ := F.called_set.mro
  have made := F.called_set.made
  have subs := F.called_set.sub
  refine wpAny_call (codeAny_of_tree ?_)
  show wpAny _ _ (callAny (.type "set") _) _ _ _
  refine wpAny_pure ⟨Code.quiet_builtin _ (by decide +kernel), codeAny_builtin F.entry_type_call ?_⟩
  rw [Around.under_plain (weight_type_call_type "set" [.ref l] []) rfl]
  have f1 := F.called_set.notType
  have f2 := F.called_set.canCreate
  have f3 := F.typeCall_set_1 (.ref l)
  repeat (any_goals (first | assumption | wp_step))
  refine codeAny_mono (code_set_led1 (.ref l) (E := E) (Q₁ := fun made t => made = .ref s.heap.objs.size ∧ t = { s with heap := s.heap.push (newSet w) }) ⟨rfl, rfl⟩) fun r t hr => ?_
  cases r with
  | error e => exact hr
  | ok fl =>
    cases fl with
    | ret obj =>
      obtain ⟨rfl, rfl⟩ := hr
      have at0 : (s.heap.push (newSet w)).get? s.heap.objs.size = some (newSet w) := Heap.get?_push_size _ rfl
      have ty0 : Shared.TypeIs { s with heap := s.heap.push (newSet w) } (.ref s.heap.objs.size) "set" := ⟨_, at0, rfl⟩
      have g1 := F.called_set.init.lookup
      have g2 := F.called_set.init.bind (.ref s.heap.objs.size)
      repeat (any_goals (first | assumption | wp_step))
      refine codeAny_mono (codeAny_call_builtin (R := wants (fun r t => r = .none ∧ ∃ h' tk L, t = { s with heap := h', toks := tk } ∧ C.St h' s.heap.objs.size L ∧ Seen ks ks.length L ∧
          (∀ b o, s.heap.get? b = some o → h'.get? b = some o)) E) F.called_set.init.plain F.entry_set_init (check_set_init_1 ty0 ?_)) fun r2 t2 hr2 => ?_
      · obtain ⟨ol, at1, cl1, nl, dl1⟩ := isl
        obtain ⟨ocls, odict, odata, oslots⟩ := ol
        simp only at cl1 dl1
        subst cl1; subst dl1
        have at2 : (s.heap.push (newSet w)).get? l = some { cls := .type "list", dict := odict, data := .seq items nl, slots := oslots } := Heap.get?_push_of_some _ at1
        have k1 := F.sub_list_set
        have k2 := F.sub_list_frozenset
        have k3 : (Value.type "list" == Value.type "dict") = false := by decide
        have isl1 : (s.heap.push (newSet w)).IsList l items := ⟨_, at2, rfl, nl, rfl⟩
        unfold Builtin.«set.__init__» noKeywords Builtin.Frozenset.updateFrom
        generalize hPI : pyIter = PI
        wp_walk
        subst hPI
        refine wpAny_pyIter_list isl1 ?_
        refine wpAny_bind (wpAny_runValue ?_)
        have lt1 : l < s.heap.objs.size := Heap.lt_size at1
        have q3 : A.in1.in1.in1.handled = none := by simp [quiet]
        have z1 : (s.heap.push (newSet w)).objs.size = s.heap.objs.size + 1 := Heap.size_push ..
        have apart : l ≠ (s.heap.push (newSet w)).objs.size := by
          rw [z1]; exact Nat.ne_of_lt (Nat.lt_succ_of_lt lt1)
        have outp : s.heap.objs.size ∉ [(s.heap.push (newSet w)).objs.size, l] := by
          rw [z1]; simp only [List.mem_cons, List.not_mem_nil, or_false, not_or]
          exact ⟨Nat.ne_of_lt (Nat.lt_succ_self _), Nat.ne_of_gt lt1⟩
        have vals : ∀ (i : Nat) (v : Value), items[i]? = some v → ∃ p, ks[i]? = some p ∧ v = p.1 := fun i v hv => by
          rw [← Array.getElem?_toList, its, List.getElem?_map] at hv
          obtain ⟨p, h1, h2⟩ := Option.map_eq_some_iff.mp hv
          exact ⟨p, h1, h2.symm⟩
        have beyond : ∀ b, s.heap.objs.size ≤ b → s.heap.get? b = none := fun b hb => by
          cases q : s.heap.get? b with
          | none => rfl
          | some o => exact absurd (Heap.lt_size q) (Nat.not_lt.mpr hb)
        refine fill C ((Walks.list q3 _ l apart items).toS) s.heap.objs.size
          outp ks size few vals s.heap each (beyond _ (Nat.le_refl _)) (fun b hb => beyond b (by
            rw [List.mem_singleton.mp hb, z1]; exact Nat.le_succ _)) rm (items.size - 0) 0 _ (by omega) (Nat.zero_le _)
          ⟨⟨_, Heap.get?_push_size _ rfl, rfl, rfl⟩, (isl1.push _)⟩ (fun b o e => Heap.get?_push_of_some _ (Heap.get?_push_of_some _ e)) ?_ ?_
        · exact ⟨[], C.fresh (Heap.get?_push_of_some _ at0), Seen.start ks⟩
        · intro t3 L mv hS g kp
          obtain ⟨h', gn, dr, tk', os'⟩ := t3
          have e1 : gn = s.gens := mv.gens
          have e2 : dr = s.drawn := mv.drawn
          have e3 : os' = s.os := mv.os
          subst e1; subst e2; subst e3
          show wpAny _ _ _ _ _ _
          refine wpAny_pure ?_
          show wpAny _ _ (ret Value.none) _ _ _
          rw [size] at g
          exact wpAny_pure ⟨rfl, h', tk', L, rfl, hS, g, kp⟩
      · cases r2 with
        | error e => exact hr2
        | ok fl2 =>
          cases fl2 with
          | ret r =>
            obtain ⟨rfl, h', tk, L, rfl, hS, g, kp⟩ := hr2
            repeat (any_goals (first | assumption | wp_step))
            exact goal _ _ _ hS g kp
          | _ => exact hr2.elim
    | _ => exact hr.elim
end
end MrS

/-! S3 -/
set_option Elab.async false
set_option linter.all false
set_option maxRecDepth 100000
set_option maxHeartbeats 3200000
namespace MrS
open PySem PySem.Spec PyProof.Rows L2
/-! a set of texts -/
def txOf : Value → Str
  | .str x _ => x
  | _ => Str.empty
def Txe (w : World) (e : Int × Value) : Prop := ∃ x t, e = (hashStr w x, Value.str x t)
def rowT (e : Int × Value) : Value × Str := (e.2, txOf e.2)
structure TxSt (w : World) (h : Heap) (a : Addr) (L : List (Value × Str)) : Prop where
  ex : ∃ o es ep t, h.get? a = some o ∧ o.ExactSet ∧ o.data = .set es ep t ∧ L = es.toList.map rowT ∧ (∀ e ∈ es.toList, Txe w e) ∧ t.fits es.size = true ∧ Ris t.place.toList ∧ (w.params.followText "set-order" = true ∨ t.led = true) ∧ es.size < 64
section
variable {P : Program} {w : World} {A : Around} {E : Value → Shared → Prop} {s : Shared} {a : Addr}
theorem txe_elems {l : List (Int × Value)} (g : ∀ e ∈ l, Txe w e) : ElemsOf (PySem.strKind P w) l := fun e he => by
  obtain ⟨x, t, rfl⟩ := g e he
  exact ⟨⟨x, by show Value.isStrOf x (.str x t) = true; simp [Value.isStrOf], rfl⟩, rfl⟩
theorem txe_is {e : Int × Value} (g : Txe w e) (k : Str) : (PySem.strKind P w).is k e.2 = true ↔ (rowT e).2 = k := by
  obtain ⟨x, t, rfl⟩ := g
  show Value.isStrOf k (.str x t) = true ↔ x = k
  constructor
  · intro h
    obtain ⟨t', e⟩ := Value.isStrOf_shape h
    injection e
  · rintro rfl
    show Value.isStrOf x (.str x t) = true
    simp [Value.isStrOf]
theorem tx_mem {l : List (Int × Value)} (g : ∀ e ∈ l, Txe w e) (k : Str) : k ∈ (l.map rowT).map (·.2) ↔ ∃ e ∈ l, (PySem.strKind P w).is k e.2 = true := by
  constructor
  · intro h
    obtain ⟨p, hp, rfl⟩ := List.mem_map.mp h
    obtain ⟨e, he, rfl⟩ := List.mem_map.mp hp
    exact ⟨e, he, (txe_is (g e he) _).mpr rfl⟩
  · rintro ⟨e, he, q⟩
    exact List.mem_map.mpr ⟨rowT e, List.mem_map.mpr ⟨e, he, rfl⟩, (txe_is (g e he) k).mp q⟩
/-- behind a new entry: it is stored, and all is laid anew where there's little room -/
theorem tx_store {g : Bool → Sem Unit} (hg : ∀ (b : Bool) (s₁ : Shared) (Q' : Unit → Shared → Prop), Q' () s₁ → wpAny (model P w) A (g b) Q' E s₁)
    {o : Obj} {es es1 : Array (Int × Value)} {ep : Nat} {t t2 : SetTable} (at0 : s.heap.get? a = some o) (exs : o.ExactSet) (dat : o.data = .set es ep t)
    (good : ∀ e ∈ es1.toList, Txe w e) (small : es1.size < 64) (fit : t2.fits es1.size = true) (ris : Ris t2.place.toList) (led : w.params.followText "set-order" = true ∨ t2.led = true) {dum : Bool} {R : Option Bool → Shared → Prop}
    (fin : ∀ h' (es2 : List (Int × Value)), Heap.SameBut a s.heap h' → TxSt w h' a (es2.map rowT) → es2.Perm es1.toList → R (some true) { s with heap := h' }) :
    wpAny (model P w) A (do
        storeSet a es1 t2
        if (!dum && t2.tooFull) = true then do
            g (relayAll t2 es1 (SetTable.grown es1.size)).2.2
            storeSet a (relayAll t2 es1 (SetTable.grown es1.size)).1 (relayAll t2 es1 (SetTable.grown es1.size)).2.1
            pure (some true)
          else pure (some true)) R E s := by
  have big : ∀ {n : Nat}, n < 64 → n ≤ sizeLine := fun h => Nat.le_trans (Nat.le_of_lt h) (by decide)
  refine wpAny_bind (wpAny_storeSet_of at0 dat ?_ (big small))
  have at1 := store_at (es' := es1) (t' := t2) at0 dat
  have but1 := Heap.SameBut.update s.heap a (Obj.putSet es1 t2)
  split
  · have pm := relayAll_perm t2 es1 (SetTable.grown es1.size)
    have r1 := relayAll_fits t2 es1 (SetTable.grown es1.size)
    have r2 := relayAll_ris t2 es1 (SetTable.grown es1.size)
    have r3 := relayAll_led t2 es1 (SetTable.grown es1.size)
    generalize relayAll t2 es1 (SetTable.grown es1.size) = Z at pm r1 r2 r3 ⊢
    obtain ⟨es2, t3, gave⟩ := Z
    dsimp only at pm r1 r2 r3 ⊢
    have sz : es2.size = es1.size := by rw [← Array.length_toList, pm.length_eq, Array.length_toList]
    refine wpAny_bind (hg _ _ _ (wpAny_bind (wpAny_storeSet_of at1 rfl ?_ (big (by rw [sz]; exact small)))))
    have at2 := store_at (es' := es2) (t' := t3) at1 rfl
    exact wpAny_pure (fin _ es2.toList (but1.trans (Heap.SameBut.update _ a _)) ⟨_, es2, _, t3, at2, exs, rfl, rfl, fun e he => good e (pm.mem_iff.mp he), r1, r2, led.imp id fun z => by rw [r3]; exact z, by rw [sz]; exact small⟩ pm)
  · exact wpAny_pure (fin _ es1.toList but1 ⟨_, es1, _, t2, at1, exs, rfl, rfl, good, fit, ris, led, small⟩ (List.Perm.refl _))
theorem tx_add {L : List (Value × Str)} {k : Str} {v : Value} {Q : Bool → Shared → Prop} (R : TxSt w s.heap a L) (isk : ∃ t, v = .str k t) (room : L.length + 1 < 64)
    (fin : ∀ b h' L', Heap.SameBut a s.heap h' → TxSt w h' a L' → (k ∈ L.map (·.2) → L' = L) → (k ∉ L.map (·.2) → L'.Perm ((v, k) :: L)) → Q b { s with heap := h' }) : wpAny (model P w) A (setAddHashed a v (hashStr w k)) Q E s := by
  obtain ⟨o, es, ep, t, at0, exs, dat, rfl, good, fit, ris, led, small⟩ := R
  obtain ⟨tk, rfl⟩ := isk
  rw [List.length_map, Array.length_toList] at room
  have sb : es.size < scanBound := Nat.lt_trans small (by decide)
  have hkey : (PySem.strKind P w).is k (.str k tk) = true := by show Value.isStrOf k (.str k tk) = true; simp [Value.isStrOf]
  have scn : (Value.str k tk).scannable = true := rfl
  have el : ElemsOf (PySem.strKind P w) es.toList := txe_elems good
  unfold setAddHashed setAddHashedIn
  refine wpAny_holding (wpAny_bind (wpAny_setState_of at0 dat fit ?_))
  dsimp only
  rw [byScan_of scn sb el]
  simp only [↓reduceIte]
  unfold setAddByScan
  refine wpAny_bind (wpAny_bind (wpAny_rule (wpAny_bind (wpAny_setScan_of hkey at0 dat fit el ?_))))
  cases fi : List.findIdx? (fun e => (PySem.strKind P w).is k e.2) es.toList with
  | some j =>
    dsimp only
    obtain ⟨hj, pj, _⟩ := List.findIdx?_eq_some_iff_getElem.mp fi
    have there : k ∈ (es.toList.map rowT).map (·.2) := (tx_mem (P := P) good k).mpr ⟨_, List.getElem_mem hj, pj⟩
    refine wpAny_pure (wpAny_pure ?_)
    exact fin false s.heap _ (Heap.SameBut.refl a s.heap) ⟨o, es, ep, t, at0, exs, dat, rfl, good, fit, ris, led, small⟩ (fun _ => rfl) fun z => absurd there z
  | none =>
    dsimp only
    have absent : k ∉ (es.toList.map rowT).map (·.2) := fun z => by
      obtain ⟨e, he, q⟩ := (tx_mem (P := P) good k).mp z
      have c := List.findIdx?_eq_none_iff.mp fi e he
      rw [q] at c
      cases c
    have gw : ∀ (b : Bool) (s₁ : Shared) (Q' : Unit → Shared → Prop), Q' () s₁ → wpAny (model P w) A (match b with | true => rule "set.scan.the-table-gave-way" | false => pure ()) Q' E s₁ :=
      fun b s₁ Q' q => by cases b <;> first | exact wpAny_pure q | exact wpAny_rule q
    have pm := layNew_perm t es (hashStr w k) (.str k tk)
    have l1 := layNew_fits t es (hashStr w k) (.str k tk)
    have l2 := layNew_ris t es (hashStr w k) (.str k tk) ris
    have l3 := layNew_led t es (hashStr w k) (.str k tk)
    show wpAny (model P w) A _ _ _ _
    have eh : (PySem.strKind P w).hash k = hashStr w k := rfl
    generalize layNew t es (hashStr w k) (.str k tk) = Z at pm l1 l2 l3 ⊢
    obtain ⟨es1, t1, dum, gave⟩ := Z
    dsimp only at pm l1 l2 l3 ⊢
    rw [Array.toList_push] at pm
    have pc : es1.toList.Perm ((hashStr w k, Value.str k tk) :: es.toList) := pm.trans (List.perm_append_singleton _ _)
    have good1 : ∀ e ∈ es1.toList, Txe w e := fun e he => by
      rcases List.mem_cons.mp (pc.mem_iff.mp he) with z | z
      · rw [z]; exact ⟨k, tk, rfl⟩
      · exact good e z
    have sz : es1.size = es.size + 1 := by rw [← Array.length_toList, pc.length_eq, List.length_cons, Array.length_toList]
    have led1 : w.params.followText "set-order" = true ∨ t1.led = true := led.imp id fun z => by rw [l3]; exact z
    have done : ∀ h' (es2 : List (Int × Value)), Heap.SameBut a s.heap h' → TxSt w h' a (es2.map rowT) → es2.Perm es1.toList → Q true { s with heap := h' } := fun h' es2 but R2 pm2 =>
      fin true h' _ but R2 (fun z => absurd z absent) fun _ => (pm2.trans pc).map rowT
    refine wpAny_bind (gw _ _ _ ?_)
    split
    · refine wpAny_bind ?_
      rw [hashByValue_scannable 8 scn]
      refine wpAny_pure ?_
      show wpAny (model P w) A _ _ _ _
      refine tx_store ?_ at0 exs dat good1 (by omega) ?_ ?_ ?_ ?_
      · intro b s₁ Q' q; cases b <;> first | exact wpAny_pure q | exact wpAny_rule q
      · first | exact SetTable.fits_plain_off l1 | exact l1
      · exact l2
      · exact led1
      · intro h' es2 but R2 pm2; dsimp only; exact wpAny_pure (done h' es2 but R2 pm2)
    · refine wpAny_bind (wpAny_pure ?_)
      simp only [↓reduceIte]
      refine tx_store ?_ at0 exs dat good1 (by omega) l1 l2 led1 ?_
      · intro b s₁ Q' q; cases b <;> first | exact wpAny_pure q | exact wpAny_rule q
      · intro h' es2 but R2 pm2; dsimp only; exact wpAny_pure (done h' es2 but R2 pm2)
end
def texts (P : Program) (w : World) : Coll P w Str where
  is := fun _ k v => ∃ t, v = .str k t
  hash := hashStr w
  draws := fun _ => 1
  room := fun _ => True
  stay := fun _ h => h
  pyHash := fun _ ⟨t, e⟩ h => by
    subst e
    exact wpAny_pyHash_str h
  St := TxSt w
  stay2 := fun ⟨o, es, ep, t, h0, r⟩ k _ => ⟨o, es, ep, t, k o h0, r⟩
  fresh := fun {h a} e => ⟨_, #[], 0, _, e, ⟨rfl, rfl, rfl⟩, rfl, rfl, fun e he => (by cases he), rfl, List.Pairwise.nil, by
    show _ ∨ (!w.params.followText "set-order") = true
    cases w.params.followText "set-order" <;> simp, by decide⟩
  add := fun _ R k room fin => tx_add R k room fin
  gives := fun ⟨o, es, ep, t, h0, ex, d, e, g, f, r, l, sm⟩ => ⟨es, ep, t, ⟨o, h0, ex.1, d⟩, f, r, l, sm, by rw [e, List.map_map]; rfl⟩
end MrS

/-! S4 -/
set_option Elab.async false
set_option linter.all false
set_option maxRecDepth 100000
set_option maxHeartbeats 3200000
namespace MrS
open PySem PySem.Spec PyProof.Rows L2
/-! a set of tuples of things carried by value -/
section
variable {P : Program} {w : World} {κ : Type} [DecidableEq κ] (knd : PySem.KeyKind P w κ) {A : Around} {E : Value → Shared → Prop} {s : Shared}
theorem noClass (n : Nat) {v : Value} (h : carriedByValue v = true) : ofAClassStatement n v = pure false := by
  cases v with
  | ref a => simp [carriedByValue] at h
  | _ => cases n <;> first | rfl | simp [ofAClassStatement]
theorem byVal_any (n : Nat) {v : Value} (h : carriedByValue v = true) : ∃ b, hashByValue n v = pure b := by
  cases v with
  | ref a => simp [carriedByValue] at h
  | _ => cases n <;> exact ⟨_, rfl⟩
variable {knd}
theorem tup_noClass {k : List κ} {b : Addr} {Q : Bool → Shared → Prop} (hk : IsTupleKey knd s.heap k b) (h : Q false s) : wpAny (model P w) A (ofAClassStatement 8 (.ref b)) Q E s := by
  have ty := hk.typeIs
  obtain ⟨o, items, n, at0, _, dat, hi⟩ := hk
  have bv := hi.byValue
  unfold ofAClassStatement
  refine wpAny_bind (wpAny_typeOf ty ?_)
  dsimp only
  have e : (("tuple" : String) == "tuple") = true := by decide
  simp only [e, if_true, Bool.not_true, Bool.false_eq_true, if_false]
  try refine wpAny_bind (wpAny_pure ?_)
  try simp only [Bool.not_true, Bool.false_eq_true, if_false]
  show wpAny _ _ (seqItems? (.ref b) >>= _) _ _ s
  refine wpAny_bind (wpAny_seqItems at0 dat ?_)
  dsimp only
  refine wpAny_bind ?_
  show wpAny _ _ (forIn items _ _) _ _ s
  rw [← Array.forIn_toList]
  refine wpAny_forIn_list _ (fun rest r t => r.1 = none ∧ t = s ∧ ∀ v ∈ rest, carriedByValue v = true) _ ?_ ?_ _ _ ⟨rfl, rfl, bv⟩
  · rintro v rest r t ⟨_, rfl, all⟩
    rw [noClass _ (all v (.head _))]
    refine wpAny_bind (wpAny_pure ?_)
    simp only [Bool.false_eq_true, if_false]
    exact wpAny_pure ⟨rfl, rfl, fun u hu => all u (.tail _ hu)⟩
  · rintro ⟨r1, r2⟩ t ⟨hr, rfl, _⟩
    obtain rfl : r1 = none := hr
    exact wpAny_pure h
theorem tup_byVal {k : List κ} {b : Addr} {Q : Bool → Shared → Prop} (hk : IsTupleKey knd s.heap k b) (h : ∀ c, Q c s) : wpAny (model P w) A (hashByValue 8 (.ref b)) Q E s := by
  have ty := hk.typeIs
  obtain ⟨o, items, n, at0, _, dat, hi⟩ := hk
  have bv := hi.byValue
  unfold hashByValue
  refine wpAny_bind (wpAny_specialOf ty F.slot_tuple_hash.lookup ?_)
  show wpAny _ _ (seqItems? (.ref b) >>= _) _ _ s
  refine wpAny_bind (wpAny_seqItems at0 dat ?_)
  refine wpAny_bind ?_
  show wpAny _ _ (forIn items _ _) _ _ s
  rw [← Array.forIn_toList]
  refine wpAny_forIn_list _ (fun rest r t => t = s ∧ ∀ v ∈ rest, carriedByValue v = true) _ ?_ ?_ _ _ ⟨rfl, bv⟩
  · rintro v rest r t ⟨rfl, all⟩
    obtain ⟨c, ec⟩ := byVal_any 7 (all v (.head _))
    rw [ec]
    refine wpAny_bind (wpAny_pure ?_)
    cases c with
    | true =>
      simp only [Bool.not_true, Bool.false_eq_true, if_false]
      exact wpAny_pure ⟨rfl, fun u hu => all u (.tail _ hu)⟩
    | false =>
      simp only [Bool.not_false, if_true]
      exact wpAny_pure (wpAny_pure (h false))
  · rintro ⟨r1, r2⟩ t ⟨rfl, _⟩
    cases r1 with
    | none => exact wpAny_pure (h _)
    | some c => exact wpAny_pure (h _)
theorem tup_unseen {k : List κ} {b : Addr} {Q : Bool → Shared → Prop} (hk : IsTupleKey knd s.heap k b) {ys : List Value} (hy : ∀ y ∈ ys, ∃ j c, y = Value.ref c ∧ IsTupleKey knd s.heap j c) (h : Q false s) :
    wpAny (model P w) A (searchCouldBeSeen (.ref b) ys) Q E s := by
  unfold searchCouldBeSeen
  refine wpAny_bind ?_
  refine wpAny_forIn_list _ (fun rest r t => r.1 = none ∧ t = s ∧ ∀ y ∈ rest, ∃ j c, y = Value.ref c ∧ IsTupleKey knd s.heap j c) _ ?_ ?_ _ _ ⟨rfl, rfl, hy⟩
  · rintro v rest r t ⟨_, rfl, all⟩
    obtain ⟨j, c, rfl, hc⟩ := all v (.head _)
    have more : ∀ y ∈ rest, ∃ j c, y = Value.ref c ∧ IsTupleKey knd t.heap j c := fun u hu => all u (.tail _ hu)
    dsimp only
    by_cases hv : (b == c || (carriedByValue (.ref b) && carriedByValue (.ref c))) = true
    · exact wp_if_pos hv (wpAny_pure ⟨rfl, rfl, more⟩)
    · refine wp_if_neg hv (wpAny_bind (wpAny_eqIsQuiet_tuple hk ?_))
      simp only [Bool.not_true, Bool.false_eq_true, if_false]
      refine wpAny_bind (wpAny_eqIsQuiet_tuple hc ?_)
      simp only [Bool.not_true, Bool.false_eq_true, if_false]
      refine wpAny_bind (tup_noClass hk ?_)
      simp only [Bool.false_eq_true, if_false]
      refine wpAny_bind (tup_noClass hc ?_)
      simp only [Bool.false_eq_true, if_false]
      exact wpAny_pure ⟨rfl, rfl, more⟩
  · rintro ⟨r1, r2⟩ t ⟨hr, rfl, _⟩
    obtain rfl : r1 = none := hr
    exact wpAny_pure h
end
end MrS

/-! S5 -/
set_option Elab.async false
set_option linter.all false
set_option maxRecDepth 100000
set_option maxHeartbeats 3200000
namespace MrS
open PySem PySem.Spec PyProof.Rows L2
section
variable {P : Program} {w : World} {κ : Type} [DecidableEq κ]
def rowH (knd : PySem.KeyKind P w κ) (p : Value × List κ) : Int × Value := (tupleKeyHash knd p.2, p.1)
def hsOf (knd : PySem.KeyKind P w κ) (L : List (Value × List κ)) : List Int := L.map fun p => tupleKeyHash knd p.2
/-- the set at a, its table told -/
structure Raw (knd : PySem.KeyKind P w κ) (h : Heap) (a : Addr) (L : List (Value × List κ)) (es : Array (Int × Value)) (ep : Nat) (t : SetTable) : Prop where
  ob : ∃ o, h.get? a = some o ∧ o.ExactSet ∧ o.data = .set es ep t
  rows : es.toList = L.map (rowH knd)
  tab : TabOk t (hsOf knd L)
  nd : (L.map (·.2)).Nodup
  each : ∀ p ∈ L, ∃ b, p.1 = .ref b ∧ IsTupleKey knd h p.2 b
  led : w.params.followText "set-order" = true ∨ t.led = true
  room : L.length * 5 < t.mask * 3
  few : L.length < 64
variable {knd : PySem.KeyKind P w κ} {A : Around} {E : Value → Shared → Prop} {s : Shared} {a : Addr} {L : List (Value × List κ)} {es : Array (Int × Value)} {ep : Nat} {t : SetTable}
theorem hs_len (L : List (Value × List κ)) : (hsOf knd L).length = L.length := List.length_map _
theorem size_rows (h : es.toList = L.map (rowH knd)) : es.size = L.length := by rw [← Array.length_toList, h, List.length_map]
theorem place_len {hs : List Int} (T : TabOk t hs) : t.place.toList.length = hs.length := by rw [Array.length_toList, T.sz]
theorem fits_of {hs : List Int} (T : TabOk t hs) (hl : hs.length ≤ t.mask) : t.fits hs.length = true := by
  unfold SetTable.fits SetTable.fill
  rw [T.dm, Bool.and_eq_true, beq_iff_eq, decide_eq_true_eq, T.sz]
  exact ⟨rfl, hl⟩
namespace Raw
theorem size (R : Raw knd s.heap a L es ep t) : es.size = L.length := size_rows R.rows
theorem fit (R : Raw knd s.heap a L es ep t) : t.fits es.size = true := by
  have z := fits_of R.tab (by rw [hs_len]; have := R.room; omega)
  rw [hs_len] at z
  rw [R.size]
  exact z
theorem row (R : Raw knd s.heap a L es ep t) {i : Nat} {p : Value × List κ} (h : L[i]? = some p) : es[i]? = some (rowH knd p) := by
  rw [← Array.getElem?_toList, R.rows, List.getElem?_map, h]
  rfl
theorem stands (R : Raw knd s.heap a L es ep t) : ¬ t.gaveWay = true := by
  unfold SetTable.gaveWay
  rw [mask_odd R.tab.mok]
  decide
end Raw
theorem no_dummy (m : Nat) : ∀ (n : Nat) (p : SetTable.Probe), p.dummy = none → (nth m p n).dummy = none
  | 0, _, h => h
  | n + 1, p, h => no_dummy m n (adv m p) (by
      unfold adv
      split <;> exact h)
abbrev probe0 (t : SetTable) (h : Int) : SetTable.Probe := runAt t.mask (SetTable.bits h % (t.mask + 1)) (SetTable.bits h)
/-- the search for a key k, behind c steps of its way: K is the first free place of the way -/
theorem seek (R : Raw knd s.heap a L es ep t) {x : Addr} {k : List κ} (hx : IsTupleKey knd s.heap k x) (hu : A.units < cLine) {K : Nat} (bound : K < 10 * SetTable.turns t.mask)
    (free : way t.mask (tupleKeyHash knd k) K ∉ t.place.toList) (full : ∀ c, c < K → way t.mask (tupleKeyHash knd k) c ∈ t.place.toList) {Q : SetFound → Shared → Prop}
    (inside : k ∈ L.map (·.2) → Q (.there none) s) (outside : k ∉ L.map (·.2) → Q (.free (way t.mask (tupleKeyHash knd k) K) false) s) :
    ∀ (f c : Nat) (stand : Option SetTable.Probe), stand.getD (t.probeStart (tupleKeyHash knd k)) = nth t.mask (probe0 t (tupleKeyHash knd k)) c → c ≤ K → K - c < f →
      (∀ (i : Nat) p, L[i]? = some p → p.2 = k → ∃ c', c ≤ c' ∧ c' < K ∧ t.place.toList[i]? = some (way t.mask (tupleKeyHash knd k) c')) →
      wpAny (model P w) A (setSearchFrom a (.ref x) (tupleKeyHash knd k) true f stand) Q E s := by
  generalize eh : tupleKeyHash knd k = hk at free full outside ⊢
  intro f
  induction f with
  | zero => intro c stand _ _ h _; exact absurd h (Nat.not_lt_zero _)
  | succ f ih =>
    intro c stand at_ le fuel later
    obtain ⟨o, at0, exs, dat⟩ := R.ob
    rw [setSearchFrom_succ]
    refine wpAny_bind (wpAny_setState_of at0 dat R.fit ?_)
    dsimp only
    refine wp_if_neg R.stands ?_
    try refine wpAny_bind (wpAny_pure ?_)
    have shift : ∀ q, nth t.mask (nth t.mask (probe0 t hk) c) q = nth t.mask (probe0 t hk) (c + q) := fun q => (nth_add t.mask c _ q).symm
    have spot : ∀ q, (nth t.mask (nth t.mask (probe0 t hk) c) q).j = way t.mask hk (c + q) := fun q => congrArg SetTable.Probe.j (shift q)
    have eK : c + (K - c) = K := by omega
    have hashOf : ∀ (i : Nat) p, L[i]? = some p → (es[i]?.map (·.1)).getD 0 = tupleKeyHash knd p.2 := fun i p hp => by
      rw [R.row hp]; rfl
    have found := go_spec t R.tab.ris R.tab.dm (fun i => (es[i]?.map (·.1)).getD 0) hk (10 * SetTable.turns t.mask) (K - c) _ (no_dummy t.mask c (probe0 t hk) rfl) (by omega)
      (fun q hq => by rw [spot]; exact full (c + q) (by omega)) (by rw [spot, eK]; exact free)
    rcases found with ⟨q, i, q1, q2, q3, q4, q5⟩ | ⟨q4, q5⟩
    · have pr : t.probe (fun i => (es[i]?.map (·.1)).getD 0) hk (stand.getD (t.probeStart hk)) = some (.candidate (way t.mask hk (c + q)) i (nth t.mask (probe0 t hk) (c + (q + 1)))) := by
        rw [at_, ← spot, ← shift]
        exact q5
      rw [pr]
      dsimp only
      rw [spot] at q2
      have lt : i < L.length := by
        have z := (List.getElem?_eq_some_iff.mp q2).1
        rw [place_len R.tab, hs_len] at z
        exact z
      obtain ⟨p, hp⟩ : ∃ p, L[i]? = some p := ⟨_, List.getElem?_eq_getElem lt⟩
      have mem : p ∈ L := List.mem_of_getElem? hp
      obtain ⟨y, ey, hy⟩ := R.each p mem
      have onward : wpAny (model P w) A (searchRest a (.ref x) hk true f es t (way t.mask hk (c + q)) i (nth t.mask (probe0 t hk) (c + (q + 1)))) Q E s := by
        unfold searchRest
        rw [R.row hp]
        dsimp only [rowH]
        rw [ey]
        refine wpAny_bind (wpAny_holding (wpAny_eqBool_tuple hu hy hx (wpAny_bind (wpAny_setState_of at0 dat R.fit ?_))))
        dsimp only
        by_cases same : p.2 = k
        · exact wp_if_pos (by simp [same]) (wpAny_pure (inside (List.mem_map.mpr ⟨p, mem, same⟩)))
        · refine wp_if_neg (by simp [same]) ?_
          try refine wpAny_bind (wpAny_pure ?_)
          rw [sameMem]
          dsimp only
          have live : t.slot (way t.mask hk (c + q)) = .live i := slot_live R.tab.ris q2
          simp only [if_true, live, R.row hp, rowH, ey]
          refine wpAny_bind (wpAny_isSame_ref_self (wpAny_bind (wpAny_pure ?_)))
          simp only [if_true]
          refine wp_if_neg (by simp [same]) ?_
          refine ih (c + (q + 1)) _ rfl (by omega) (by omega) fun i0 p0 h0 k0 => ?_
          obtain ⟨c', b1, b2, b3⟩ := later i0 p0 h0 k0
          refine ⟨c', ?_, b2, b3⟩
          rcases Nat.lt_or_ge c' (c + q) with z | z
          · exfalso
            refine q4 (c' - c) i0 (by omega) (by rw [spot, show c + (c' - c) = c' by omega]; exact b3) ?_
            show (es[i0]?.map (·.1)).getD 0 = hk
            rw [hashOf i0 p0 h0, k0, eh]
          · rcases Nat.lt_or_ge (c + q) c' with y1 | y1
            · omega
            · exfalso
              obtain rfl : c' = c + q := Nat.le_antisymm y1 z
              have l2 := slot_live R.tab.ris b3
              rw [live] at l2
              injection l2 with l2
              subst l2
              rw [hp] at h0
              exact same (by rw [Option.some.inj h0]; exact k0)
      by_cases ld : t.led = true
      · refine wp_if_neg (by simp [ld]) ?_
        try refine wpAny_bind (wpAny_pure ?_)
        exact onward
      · refine wp_if_pos (by simp [ld]) (wpAny_bind (tup_unseen hx (fun z hz => ?_) ?_))
        · obtain ⟨e, he, ee⟩ := List.mem_map.mp hz
          have h1 : e ∈ es ∧ e.1 = hk := by simpa using he
          have h2 : e ∈ es.toList := by simpa using h1.1
          rw [R.rows] at h2
          obtain ⟨p2, hp2, e2⟩ := List.mem_map.mp h2
          obtain ⟨b2, f2, i2⟩ := R.each p2 hp2
          exact ⟨p2.2, b2, by rw [← ee, ← e2]; exact f2, i2⟩
        · refine wp_if_neg (by decide) ?_
          try refine wpAny_bind (wpAny_pure ?_)
          exact onward
    · have pr : t.probe (fun i => (es[i]?.map (·.1)).getD 0) hk (stand.getD (t.probeStart hk)) = some (.empty (way t.mask hk K) none) := by
        have e2 := spot (K - c)
        rw [eK] at e2
        rw [at_, ← e2]
        exact q5
      rw [pr]
      dsimp only
      refine wpAny_pure (outside fun hm => ?_)
      obtain ⟨p0, m0, k0⟩ := List.mem_map.mp hm
      obtain ⟨i0, l0, e0⟩ := List.getElem_of_mem m0
      have h0 : L[i0]? = some p0 := by rw [List.getElem?_eq_getElem l0, e0]
      obtain ⟨c', b1, b2, b3⟩ := later i0 p0 h0 k0
      refine q4 (c' - c) i0 (by omega) (by rw [spot, show c + (c' - c) = c' by omega]; exact b3) ?_
      show (es[i0]?.map (·.1)).getD 0 = hk
      rw [hashOf i0 p0 h0, k0, eh]
theorem seek_all (R : Raw knd s.heap a L es ep t) {x : Addr} {k : List κ} (hx : IsTupleKey knd s.heap k x) (hu : A.units < cLine) {Q : SetFound → Shared → Prop}
    (inside : k ∈ L.map (·.2) → Q (.there none) s)
    (outside : ∀ K, k ∉ L.map (·.2) → way t.mask (tupleKeyHash knd k) K ∉ t.place.toList → (∀ c, c < K → way t.mask (tupleKeyHash knd k) c ∈ t.place.toList) → Q (.free (way t.mask (tupleKeyHash knd k) K) false) s) :
    wpAny (model P w) A (setSearch a (.ref x) (tupleKeyHash knd k) true) Q E s := by
  have rm := R.room
  obtain ⟨K, h1, h2, h3⟩ := R.tab.first (by rw [hs_len]; omega) (tupleKeyHash knd k)
  have low : K < 100000 := by
    have : 10 * SetTable.turns t.mask ≤ 1420 := by
      unfold SetTable.turns
      rcases R.tab.mok with e | e | e <;> omega
    omega
  unfold setSearch
  refine seek R hx hu h1 h2 h3 inside (fun hn => outside K hn h2 h3) 100000 0 none rfl (Nat.zero_le _) (by omega) fun i p hp hk => ?_
  have hi : (hsOf knd L)[i]? = some (tupleKeyHash knd k) := by
    unfold hsOf
    rw [List.getElem?_map, hp, ← hk]
    rfl
  have lt : i < t.place.toList.length := by
    rw [place_len R.tab]
    exact (List.getElem?_eq_some_iff.mp hi).1
  have hj := List.getElem?_eq_getElem lt
  obtain ⟨c, hc, e⟩ := R.tab.before h2 hi hj
  exact ⟨c, Nat.zero_le _, hc, by rw [hj, e]⟩
end
end MrS

/-! S6 -/
set_option Elab.async false
set_option linter.all false
set_option maxRecDepth 100000
set_option maxHeartbeats 3200000
namespace MrS
open PySem PySem.Spec PyProof.Rows L2
theorem pick_all {α : Type} (L : List α) : (List.range L.length).filterMap (fun i => L[i]?) = L := by
  have key : ∀ n, n ≤ L.length → (List.range n).filterMap (fun i => L[i]?) = L.take n := by
    intro n
    induction n with
    | zero => intro _; rfl
    | succ n ih =>
      intro hn
      have lt : n < L.length := hn
      rw [List.range_succ, List.filterMap_append, ih (by omega), List.take_succ, List.getElem?_eq_getElem lt, List.filterMap_cons_some (List.getElem?_eq_getElem lt)]
      rfl
  rw [key _ (Nat.le_refl _), List.take_length]
theorem pick_map {α β : Type} (f : α → β) (L : List α) : ∀ l : List Nat, l.filterMap (fun i => (L.map f)[i]?) = (l.filterMap fun i => L[i]?).map f
  | [] => rfl
  | i :: l => by
    have ih := pick_map f L l
    cases h : L[i]? with
    | none => rw [List.filterMap_cons_none (by rw [List.getElem?_map, h]; rfl), List.filterMap_cons_none h, ih]
    | some x => rw [List.filterMap_cons_some (b := f x) (by rw [List.getElem?_map, h]; rfl), List.filterMap_cons_some h, List.map_cons, ih]
theorem pick_get {α : Type} (f : α → Int) (L : List α) : ∀ l : List Nat, (∀ i ∈ l, i < L.length) → (l.filterMap fun i => L[i]?).map f = l.map fun i => ((L.map f)[i]?).getD 0
  | [], _ => rfl
  | i :: l, hl => by
    have lt := hl i List.mem_cons_self
    have h := List.getElem?_eq_getElem lt
    rw [List.filterMap_cons_some h, List.map_cons, List.map_cons, pick_get f L l fun j hj => hl j (List.mem_cons_of_mem _ hj), List.getElem?_map, h]
    rfl
section
variable {P : Program} {w : World} {κ : Type} [DecidableEq κ] {knd : PySem.KeyKind P w κ} {A : Around} {E : Value → Shared → Prop} {s : Shared} {a : Addr} {L : List (Value × List κ)} {es : Array (Int × Value)} {ep : Nat} {t : SetTable}
theorem key_but {h h' : Heap} {k : List κ} {b : Addr} {o : Obj} (x : IsTupleKey knd h k b) (at0 : h.get? a = some o) (dat : o.data = .set es ep t) (but : Heap.SameBut a h h') : IsTupleKey knd h' k b := by
  obtain ⟨o2, items, n, g1, g2, g3, g4⟩ := x
  refine ⟨o2, items, n, (but.2 b fun e => ?_).trans g1, g2, g3, g4⟩
  subst e
  obtain rfl := Option.some.inj (g1.symm.trans at0)
  rw [dat] at g3
  cases g3
theorem each_but {h h' : Heap} {o : Obj} (x : ∀ p ∈ L, ∃ b, p.1 = .ref b ∧ IsTupleKey knd h p.2 b) (at0 : h.get? a = some o) (dat : o.data = .set es ep t) (but : Heap.SameBut a h h') : ∀ p ∈ L, ∃ b, p.1 = .ref b ∧ IsTupleKey knd h' p.2 b := fun p hp =>
  let ⟨b, e, i⟩ := x p hp
  ⟨b, e, key_but i at0 dat but⟩
theorem fst_rows (L : List (Value × List κ)) : (L.map (rowH knd)).map (·.1) = hsOf knd L := by
  unfold hsOf
  rw [List.map_map]
  rfl
/-- the table is laid anew -/
theorem relay {o : Obj} (at0 : s.heap.get? a = some o) (exs : o.ExactSet) (dat : o.data = .set es ep t) (rows : es.toList = L.map (rowH knd)) (tab : TabOk t (hsOf knd L)) (fitL : L.length ≤ t.mask)
    (nd : (L.map (·.2)).Nodup) (each : ∀ p ∈ L, ∃ b, p.1 = .ref b ∧ IsTupleKey knd s.heap p.2 b) (led : w.params.followText "set-order" = true ∨ t.led = true) (few : L.length < 64) {wanted M : Nat}
    (hw : SetTable.sizeAbove wanted - 1 = M) (hM : MaskOk M) (hw2 : SetTable.sizeAbove wanted ≤ 128) (room : L.length * 5 < M * 3) {Q : Unit → Shared → Prop}
    (fin : ∀ h' L2 es2 ep2 t2, Heap.SameBut a s.heap h' → Raw knd h' a L2 es2 ep2 t2 → L2.Perm L → Q () { s with heap := h' }) : wpAny (model P w) A (setRelay a wanted) Q E s := by
  have sz := size_rows rows
  have fit : t.fits es.size = true := by
    have z := fits_of tab (by rw [hs_len]; exact fitL)
    rw [hs_len] at z
    rw [sz]
    exact z
  obtain ⟨t2, order, e1, pm, T, e2, e3, _, _⟩ := relaid_ok t (hs := es.map (·.1)) (wanted := wanted) hw hM (by rw [Array.size_map, sz]; omega)
  rw [Array.size_map, sz] at pm
  have low : ∀ i ∈ order.toList, i < L.length := fun i hi => List.mem_range.mp (pm.mem_iff.mp hi)
  obtain ⟨L2, eL⟩ : ∃ L2, L2 = order.toList.filterMap fun i => L[i]? := ⟨_, rfl⟩
  have pL : L2.Perm L := by
    rw [eL]
    have z := pm.filterMap fun i => L[i]?
    rw [pick_all] at z
    exact z
  have r1 : (order.filterMap (es[·]?)).toList = L2.map (rowH knd) := by
    rw [Array.toList_filterMap, eL, ← pick_map, ← rows]
    refine congrArg (fun f => order.toList.filterMap f) ?_
    funext i
    rw [Array.getElem?_toList]
  have r2 : (order.toList.map fun i => (es.map (·.1)).getD i 0) = hsOf knd L2 := by
    unfold hsOf
    rw [eL, pick_get _ _ _ low]
    refine List.map_congr_left fun i hi => ?_
    rw [Array.getD_eq_getD_getElem?, ← Array.getElem?_toList, Array.toList_map, rows, fst_rows]
    rfl
  rw [r2] at T
  have sz2 : (order.filterMap (es[·]?)).size = es.size := by
    rw [← Array.length_toList, r1, List.length_map, pL.length_eq, sz]
  rw [setRelay_eq]
  refine wpAny_bind (wpAny_setState_of at0 dat fit ?_)
  dsimp only
  refine wp_if_neg (by rw [sizeLine_eq]; omega) ?_
  try refine wpAny_bind (wpAny_pure ?_)
  rw [e1]
  dsimp only
  refine wpAny_bind (wp_if_neg (by rw [sz2]; simp) ?_)
  try refine wpAny_bind (wpAny_pure ?_)
  refine wpAny_pure ?_
  dsimp only
  refine wpAny_storeSet_of at0 dat ?_ (by rw [sz2, sz, sizeLine_eq]; omega)
  have but : Heap.SameBut a s.heap (s.heap.update a (Obj.putSet (order.filterMap (es[·]?)) t2)) := Heap.SameBut.update ..
  refine fin _ L2 (order.filterMap (es[·]?)) (ep + 1) t2 but ⟨⟨_, store_at at0 dat, ⟨exs.1, exs.2.1, exs.2.2⟩, rfl⟩, r1, T, (pL.map (·.2)).nodup_iff.mpr nd, each_but (fun p hp => each p (pL.mem_iff.mp hp)) at0 dat but, by rw [e3]; exact led, ?_, by rw [pL.length_eq]; exact few⟩ pL
  rw [pL.length_eq, e2]
  exact room
/-- one more -/
theorem tup_add (R : Raw knd s.heap a L es ep t) {x : Addr} {k : List κ} (hx : IsTupleKey knd s.heap k x) (hu : A.units < cLine) (more : L.length + 1 < 64) {Q : Bool → Shared → Prop}
    (fin : ∀ b h' L2 es2 ep2 t2, Heap.SameBut a s.heap h' → Raw knd h' a L2 es2 ep2 t2 → (k ∈ L.map (·.2) → L2 = L) → (k ∉ L.map (·.2) → L2.Perm ((.ref x, k) :: L)) → Q b { s with heap := h' }) :
    wpAny (model P w) A (setAddHashed a (.ref x) (tupleKeyHash knd k)) Q E s := by
  obtain ⟨o, at0, exs, dat⟩ := R.ob
  have sz := R.size
  have rm := R.room
  unfold setAddHashed
  refine wpAny_holding ?_
  rw [show (100000 : Nat) = 99999 + 1 from rfl, setAddHashedIn_succ]
  refine wpAny_bind (wpAny_setState_of at0 dat R.fit ?_)
  dsimp only
  refine wp_if_neg (by simp [byScan, Value.scannable]) ?_
  try refine wpAny_bind (wpAny_pure ?_)
  refine wpAny_bind (seek_all R hx hu (fun hm => ?_) fun K hm free full => ?_)
  · dsimp only
    exact wpAny_pure (fin false s.heap L es ep t (Heap.SameBut.refl a s.heap) R (fun _ => rfl) fun z => absurd hm z)
  · dsimp only
    refine wpAny_bind (wpAny_setState_of at0 dat R.fit ?_)
    dsimp only
    obtain ⟨q1, q2, q3, q4, q5, _, _, _, q9⟩ := R.tab.put free full
    generalize t.put (way t.mask (tupleKeyHash knd k) K) = pt at q1 q3 q4 q5 q9 ⊢
    obtain ⟨t1, place⟩ := pt
    dsimp only at q1 q3 q4 q5 q9 ⊢
    subst q1
    generalize SetTable.below t.place (way t.mask (tupleKeyHash knd k) K) = place at q2 q3 ⊢
    have rows1 : (SetTable.insertAt es place (tupleKeyHash knd k, Value.ref x)).toList = (L.take place ++ (Value.ref x, k) :: L.drop place).map (rowH knd) := by
      rw [SetTable.toList_insertAt, R.rows, List.map_append, List.map_cons, List.map_take, List.map_drop]
      rfl
    have pm := put_perm L place (Value.ref x, k)
    have hs1 : hsOf knd (L.take place ++ (Value.ref x, k) :: L.drop place) = (hsOf knd L).take place ++ tupleKeyHash knd k :: (hsOf knd L).drop place := by
      unfold hsOf
      rw [List.map_append, List.map_cons, List.map_take, List.map_drop]
    rw [← hs1] at q3
    have len1 := pm.length_eq
    rw [List.length_cons] at len1
    have nd1 : ((L.take place ++ (Value.ref x, k) :: L.drop place).map (·.2)).Nodup := by
      rw [(pm.map (·.2)).nodup_iff, List.map_cons, List.nodup_cons]
      exact ⟨hm, R.nd⟩
    generalize L.take place ++ (Value.ref x, k) :: L.drop place = L1 at rows1 pm q3 len1 nd1
    have sz1 := size_rows rows1
    generalize SetTable.insertAt es place (tupleKeyHash knd k, Value.ref x) = es1 at rows1 sz1 ⊢
    rw [hs_len] at q9
    -- whatever the table says of its things' hashes
    have go : ∀ t2 : SetTable, TabOk t2 (hsOf knd L1) → t2.mask = t.mask → t2.led = t.led → t2.fill = L.length + 1 → wpAny (model P w) A (do
        storeSet a es1 t2
        if (!false && t2.tooFull) = true then do
            setRelay a (SetTable.grown (es.size + 1))
            pure true
          else pure true) Q E s := by
      intro t2 T2 m2 l2 f2
      refine wpAny_bind (wpAny_storeSet_of at0 dat ?_ (by rw [sz1, len1, sizeLine_eq]; omega))
      have but : Heap.SameBut a s.heap (s.heap.update a (Obj.putSet es1 t2)) := Heap.SameBut.update ..
      have at1 := store_at (es' := es1) (t' := t2) at0 dat
      generalize s.heap.update a (Obj.putSet es1 t2) = h1 at but at1 ⊢
      have each1 : ∀ p ∈ L1, ∃ b, p.1 = .ref b ∧ IsTupleKey knd h1 p.2 b := each_but (fun p hp => by
        rcases List.mem_cons.mp (pm.mem_iff.mp hp) with e | hp
        · rw [e]; exact ⟨x, rfl, hx⟩
        · exact R.each p hp) at0 dat but
      have led1 : w.params.followText "set-order" = true ∨ t2.led = true := by rw [l2]; exact R.led
      by_cases fl : t2.tooFull = true
      · have hfull : (L.length + 1) * 5 ≥ t2.mask * 3 := by
          have z := fl
          unfold SetTable.tooFull at z
          rw [decide_eq_true_eq, f2] at z
          exact z
        have two : (t.mask = 7 ∧ L.length = 4) ∨ (t.mask = 31 ∧ L.length = 18) := by
          rcases R.tab.mok with e | e | e
          · left; rw [m2, e] at hfull; rw [e] at rm; exact ⟨e, by omega⟩
          · right; rw [m2, e] at hfull; rw [e] at rm; exact ⟨e, by omega⟩
          · exfalso; rw [m2, e] at hfull; omega
        have again : ∀ M, SetTable.sizeAbove (SetTable.grown (es.size + 1)) - 1 = M → MaskOk M → SetTable.sizeAbove (SetTable.grown (es.size + 1)) ≤ 128 → (L.length + 1) * 5 < M * 3 →
            wpAny (model P w) A (setRelay a (SetTable.grown (es.size + 1))) (fun _ s' => wpAny (model P w) A (pure true) Q E s') E { s with heap := h1 } := fun M z1 z2 z3 z4 => by
          refine relay (s := { s with heap := h1 }) at1 ⟨exs.1, exs.2.1, exs.2.2⟩ rfl rows1 T2 (by rw [len1, m2]; omega) nd1 each1 led1 (by rw [len1]; exact more) z1 z2 z3 (by rw [len1]; exact z4) ?_
          intro h2 L2 es2 ep2 t3 but2 R2 pm2
          exact wpAny_pure (fin true h2 L2 es2 ep2 t3 (but.trans but2) R2 (fun z => absurd z hm) fun _ => pm2.trans pm)
        first
          | (refine wpAny_bind ?_; refine wp_if_pos (by simp [fl]) ?_)
          | (refine wp_if_pos (by simp [fl]) ?_; refine wpAny_bind ?_)
        rcases two with ⟨_, e2⟩ | ⟨_, e2⟩
        · refine again 31 (by rw [sz, e2, size_20]) (.inr (.inl rfl)) (by rw [sz, e2, size_20]; decide) (by omega)
        · refine again 127 (by rw [sz, e2, size_76]) (.inr (.inr rfl)) (by rw [sz, e2, size_76]; decide) (by omega)
      · first
          | refine wp_if_neg (by simp [fl]) ?_
          | (refine wpAny_bind ?_; refine wp_if_neg (by simp [fl]) ?_; refine wpAny_pure ?_)
        refine wpAny_pure (fin true h1 L1 es1 (ep + 1) t2 but ⟨⟨_, at1, ⟨exs.1, exs.2.1, exs.2.2⟩, rfl⟩, rows1, T2, nd1, each1, led1, ?_, by rw [len1]; exact more⟩ (fun z => absurd z hm) fun _ => pm)
        have z := fl
        unfold SetTable.tooFull at z
        rw [decide_eq_true_eq, f2] at z
        rw [len1]
        omega
    have all : ∀ c : Bool, wpAny (model P w) A (do
        storeSet a es1 (if c = true then t1 else { t1 with plain := false })
        if (!false && (if c = true then t1 else { t1 with plain := false }).tooFull) = true then do
            setRelay a (SetTable.grown (es.size + 1))
            pure true
          else pure true) Q E s := fun c => by
      cases c with
      | true => exact go t1 q3 q4 q5 q9
      | false => exact go { t1 with plain := false } ⟨q3.ris, q3.dm, q3.sz, q3.mok, q3.bd, q3.reach⟩ q4 q5 q9
    by_cases pl : t1.plain = true
    · exact wp_if_pos pl (wpAny_bind (tup_byVal hx all))
    · exact wp_if_neg pl (wpAny_bind (wpAny_pure (all true)))
end
end MrS

/-! S7 -/
set_option Elab.async false
set_option linter.all false
set_option maxRecDepth 100000
set_option maxHeartbeats 3200000
namespace MrS
open PySem PySem.Spec PyProof.Rows L2 PySem.W
theorem raw_fit {P : Program} {w : World} {κ : Type} [DecidableEq κ] {knd : PySem.KeyKind P w κ} {h : Heap} {a : Addr} {L : List (Value × List κ)} {es : Array (Int × Value)} {ep : Nat} {t : SetTable} (R : Raw knd h a L es ep t) : t.fits es.size = true := by
  have z := fits_of R.tab (by rw [hs_len]; have := R.room; omega)
  rw [hs_len] at z
  rw [size_rows R.rows]
  exact z
def tups {P : Program} {w : World} {κ : Type} [DecidableEq κ] (knd : PySem.KeyKind P w κ) : Coll P w (List κ) where
  is := fun h k v => ∃ b, v = .ref b ∧ IsTupleKey knd h k b
  hash := tupleKeyHash knd
  draws := fun k => k.length + 1
  room := fun A => A.units < cLine
  stay := fun kp ⟨b, e, o, items, n, h0, r⟩ => ⟨b, e, o, items, n, kp b o h0, r⟩
  pyHash := fun hu ⟨b, e, hk⟩ h => by
    subst e
    exact wpAny_pyHash_tuple hu hk h
  St := fun h a L => ∃ es ep t, Raw knd h a L es ep t
  stay2 := fun ⟨es, ep, t, R⟩ kp each => ⟨es, ep, t, ⟨R.ob.elim fun o z => ⟨o, kp o z.1, z.2⟩, R.rows, R.tab, R.nd, each, R.led, R.room, R.few⟩⟩
  fresh := fun {h a} e => ⟨#[], 0, .fresh 0 0 (!w.params.followText "set-order"), ⟨_, e, ⟨rfl, rfl, rfl⟩, rfl⟩, rfl, ⟨List.Pairwise.nil, rfl, rfl, .inl rfl, fun x hx => (by cases hx), fun i h j hi => (by simp [hsOf] at hi)⟩, List.nodup_nil, fun p hp => (by cases hp), (by
    show _ ∨ (!w.params.followText "set-order") = true
    cases w.params.followText "set-order" <;> simp), (by
    show 0 * 5 < 7 * 3
    decide), (by
    show 0 < 64
    decide)⟩
  add := fun hu ⟨es, ep, t, R⟩ ⟨x, e, hx⟩ few fin => by
    subst e
    exact tup_add R hx hu few fun b h' L2 es2 ep2 t2 but R2 c1 c2 => fin b h' L2 but ⟨es2, ep2, t2, R2⟩ c1 c2
  gives := fun ⟨es, ep, t, R⟩ => ⟨es, ep, t, R.ob.elim fun o z => ⟨o, z.1, z.2.1.1, z.2.2⟩, raw_fit R, R.tab.ris, R.led, by rw [size_rows R.rows]; exact R.few, by rw [R.rows, List.map_map]; rfl⟩
mutual
theorem reads_lt {h : Heap} : ∀ {v : Value} {d : PyData} {as : List Addr}, Reads h v d as → ∀ b ∈ as, b < h.objs.size
  | _, _, _, .none, b, hb => by cases hb
  | _, _, _, .bool _, b, hb => by cases hb
  | _, _, _, .int _ _, b, hb => by cases hb
  | _, _, _, .str _ _, b, hb => by cases hb
  | _, _, _, .list h1 _ _ h4, b, hb => by
    rcases List.mem_cons.mp hb with e | hb
    · rw [e]; exact Heap.lt_size h1
    · exact readsAll_lt h4 b hb
  | _, _, _, .tuple _ _ _ h4, b, hb => readsAll_lt h4 b hb
  | _, _, _, .dict h1 _ _ h4 h5, b, hb => by
    rcases List.mem_append.mp hb with hb | hb
    · rcases List.mem_cons.mp hb with e | hb
      · rw [e]; exact Heap.lt_size h1
      · exact readsAll_lt h4 b hb
    · exact readsAll_lt h5 b hb
theorem readsAll_lt {h : Heap} : ∀ {vs : List Value} {ds : List PyData} {as : List Addr}, ReadsAll h vs ds as → ∀ b ∈ as, b < h.objs.size
  | _, _, _, .nil, b, hb => by cases hb
  | _, _, _, .cons h1 h2, b, hb => by
    rcases List.mem_append.mp hb with hb | hb
    · exact reads_lt h1 b hb
    · exact readsAll_lt h2 b hb
end
/-! over the layer -/
/-- a set that holds the things xs, in some order of its own -/
def SetV (w : World) (a : Addr) (xs : List V) : HO := .ext fun h => ∃ es ep t, SetAt h a es ep t ∧ t.fits es.size = true ∧ Ris t.place.toList ∧ (w.params.followText "set-order" = true ∨ t.led = true) ∧ es.size < 64 ∧ Vals xs (es.toList.map (·.2))
theorem setV_new {P : Program} {w : World} {H : Hp} {h : Heap} {a : Addr} {xs : List V} (R : ∃ es ep t, SetAt h a es ep t ∧ t.fits es.size = true ∧ Ris t.place.toList ∧ (w.params.followText "set-order" = true ∨ t.led = true) ∧ es.size < 64 ∧ Vals xs (es.toList.map (·.2))) :
    ObjOk P w H h a (SetV w a xs) := by
  refine ⟨R, ?_, fun h1 h2 p k => ?_⟩
  · obtain ⟨es, ep, t, ⟨o, ho, _⟩, _⟩ := R
    exact ⟨o, ho⟩
  · obtain ⟨es, ep, t, ⟨o, ho, r⟩, q⟩ := p
    exact ⟨es, ep, t, ⟨o, k o ho, r⟩, q⟩
section
variable {X : Cx}
/-- what the layer must say of a thing so that it's a key of this kind -/
structure Keyed (X : Cx) {κ : Type} (C : Coll X.prog X.w κ) (isV : Hp → κ → V → Prop) : Prop where
  to : ∀ {pins : List (Addr × Obj)} {σ : L2.St} {H : Hp} {s : Shared} {k : κ} {x : V} {u : Value}, Inv X pins σ H s → isV H k x → RelV x u → C.is s.heap k u
  room : X.A.units + 64 < cLine → C.room X.A.in1.in1.in1
theorem vals_sub {κ : Type} {xs : List V} {its : List Value} {ks : List (V × κ)} : Vals (ks.map (·.1)) its → ∃ us : List (Value × κ), us.map (·.1) = its ∧ us.map (·.2) = ks.map (·.2) ∧ ∀ p ∈ us, ∃ q ∈ ks, RelV q.1 p.1 ∧ q.2 = p.2 := by
  induction ks generalizing its with
  | nil => intro r; cases r; exact ⟨[], rfl, rfl, fun p hp => (by cases hp)⟩
  | cons q ks ih =>
    intro r
    cases r with
    | @cons _ u _ us r1 r2 =>
      obtain ⟨L, e1, e2, e3⟩ := ih r2
      refine ⟨(u, q.2) :: L, by rw [List.map_cons, e1], by rw [List.map_cons, e2, List.map_cons], fun p hp => ?_⟩
      rcases List.mem_cons.mp hp with e | hp
      · rw [e]; exact ⟨q, .head _, r1, rfl⟩
      · obtain ⟨z, m, y⟩ := e3 p hp
        exact ⟨z, .tail _ m, y⟩
theorem back {κ : Type} {ks : List (V × κ)} {us : List (Value × κ)} (each : ∀ p ∈ us, ∃ q ∈ ks, RelV q.1 p.1 ∧ q.2 = p.2) : ∀ L : List (Value × κ), (∀ p ∈ L, p ∈ us) → ∃ M : List (V × κ), (∀ q ∈ M, q ∈ ks) ∧ M.map (·.2) = L.map (·.2) ∧ Vals (M.map (·.1)) (L.map (·.1))
  | [], _ => ⟨[], fun q hq => (by cases hq), rfl, .nil⟩
  | p :: L, h => by
    obtain ⟨M, h1, h2, h3⟩ := back each L fun z hz => h z (.tail _ hz)
    obtain ⟨q, m, r, e⟩ := each p (h p (.head _))
    refine ⟨q :: M, fun z hz => ?_, by rw [List.map_cons, List.map_cons, h2, e], .cons r h3⟩
    rcases List.mem_cons.mp hz with y | y
    · rw [y]; exact m
    · exact h1 z y
def rSetOf {κ : Type} (K : PySem.W.Frag) (w : World) (isV : Hp → κ → V → Prop) : List V → Hp → VK → Prop := fun xs H Q => ∃ (l : Addr) (ks : List (V × κ)), xs = [V.ref l] ∧ SqL K H l (ks.map (·.1)) ∧ (∀ p ∈ ks, isV H p.2 p.1) ∧ ks.length < 64 ∧
  ∀ (a : Addr) (M : List (V × κ)), H a = none → (∀ p ∈ M, p ∈ ks) → (∀ p ∈ ks, p.2 ∈ M.map (·.2)) → (M.map (·.2)).Nodup → Q (.ref a) (upd H a (SetV w a (M.map (·.1))))
theorem cr_setOf {κ : Type} {C : Coll X.prog X.w κ} {isV : Hp → κ → V → Prop} (T : Keyed X C isV) (hc : X.calm = true) (hu : X.A.units + 64 < cLine) : CallR X (.type "set") (rSetOf X.K X.w isV) := by
  intro pins s σ H xs us Q I r h
  obtain ⟨l, ks, rfl, hl, hk, few, q⟩ := h
  rw [Vals.ref1 r]
  obtain ⟨its, rv, pl, _⟩ := I.list hl
  obtain ⟨us2, e1, e2, each⟩ := vals_sub (xs := []) rv
  have hn : H s.heap.objs.size = none := I.hok.fresh (Nat.le_refl _)
  have len : us2.length = ks.length := by rw [← List.length_map (f := (·.2)), e2, List.length_map]
  refine call_set C us2 (I.ok.hd hc) pl.isList (by simpa using e1.symm) (fun p hp => ?_) (by rw [len]; exact few) (T.room hu) fun h' tk L R g kp => ?_
  · obtain ⟨z, m, y1, y2⟩ := each p hp
    rw [← y2]
    exact T.to I (hk z m) y1
  · obtain ⟨M, m1, m2, m3⟩ := back each L fun p hp => List.mem_of_mem_take (g.from_ p hp)
    have ob : ObjOk X.prog X.w (upd H s.heap.objs.size (SetV X.w s.heap.objs.size (M.map (·.1)))) h' s.heap.objs.size (SetV X.w s.heap.objs.size (M.map (·.1))) := by
      obtain ⟨es, ep, t, g1, g2, g3, g4, g5, g6⟩ := C.gives R
      exact setV_new ⟨es, ep, t, g1, g2, g3, g4, g5, by rw [g6]; exact m3⟩
    refine ⟨.ref s.heap.objs.size, _, I.laid (t' := tk) kp (Nat.le_refl _) ob, rfl, q _ M hn m1 (fun p hp => ?_) (by rw [m2]; exact g.nd)⟩
    have z : p.2 ∈ us2.map (·.2) := by rw [e2]; exact List.mem_map.mpr ⟨p, hp, rfl⟩
    obtain ⟨u, hu2, eu⟩ := List.mem_map.mp z
    have y := g.every u (by rw [List.take_length]; exact hu2)
    rw [m2, ← eu]
    exact y
end
end MrS

/-! S8 -/
set_option Elab.async false
set_option linter.all false
set_option maxRecDepth 100000
set_option maxHeartbeats 3200000
namespace MrS
open PySem PySem.Spec PyProof.Rows L2 PySem.W
section
variable {X : Cx}
/-- texts as keys -/
theorem keyed_texts : Keyed X (texts X.prog X.w) (fun _ k x => x = .str k) where
  to := fun {pins σ H s k x u} _ e r => by
    subst e
    exact r
  room := fun _ => trivial
theorem items_strs {P : Program} {w : World} : ∀ {k : List Str} {us : List Value}, Vals (k.map V.str) us → ItemsAre (PySem.strKind P w) k us
  | [], _, .nil => .nil
  | x :: k, _, .cons r t => by
    obtain ⟨tk, rfl⟩ := r
    exact .cons (by show Value.isStrOf x (.str x tk) = true; simp [Value.isStrOf]) (items_strs t)
/-- tuples of texts as keys -/
theorem keyed_tups : Keyed X (tups (PySem.strKind X.prog X.w)) (fun H k x => ∃ b, x = .ref b ∧ SqT X.K H b (k.map V.str)) where
  to := fun {pins σ H s k x u} I ⟨b, e, h⟩ r => by
    subst e
    cases r
    obtain ⟨its, rv, ⟨o, ho, hc, n, hd⟩, _⟩ := I.tuple h
    exact ⟨b, rfl, o, its.toArray, n, ho, hc, hd, by simpa using items_strs rv⟩
  room := fun h => by
    show X.A.in1.in1.in1.units < cLine
    have : X.A.in1.in1.in1.units ≤ X.A.units + 3 := Nat.le_refl _
    omega
/-! ### sorted -/
abbrev Srd (zs : List (V × PyData)) : Prop := zs.Pairwise fun x y => dataLt y.2 x.2 = false
theorem srt_srd (bs : List (V × PyData)) : Srd (bs.mergeSort (dataLe false (·.2))) := by
  refine (sort_pairwise (sortLe_total (listOrd itemOrd) false fun b : V × PyData => keyToks b.2) bs).imp fun {x y} h => ?_
  have h' : (!PyProof.Rows.lexLt itemOrd (keyToks y.2) (keyToks x.2)) = true := h
  rw [Bool.not_eq_true'] at h'
  exact h'
theorem each_vals : ∀ {bs : List (V × PyData)} {us : List Value}, Vals (bs.map (·.1)) us → EachIs (fun u b => RelV b.1 u) us bs
  | [], _, .nil => .nil
  | _ :: _, _, .cons r t => .cons r (each_vals t)
theorem vals_each : ∀ {bs : List (V × PyData)} {us : List Value}, EachIs (fun u b => RelV b.1 u) us bs → Vals (bs.map (·.1)) us
  | _, _, .nil => .nil
  | _, _, .cons r t => .cons r (vals_each t)
theorem each_and {α β : Type} {R S : α → β → Prop} : ∀ {as : List α} {bs : List β}, EachIs R as bs → (∀ a b, b ∈ bs → R a b → S a b) → EachIs S as bs
  | _, _, .nil, _ => .nil
  | _, _, .cons r t, h => .cons (h _ _ (.head _) r) (each_and t fun a b hb => h a b (.tail _ hb))
theorem perm_each {R : Value → V × PyData → Prop} {vs vs0 : List Value} (pm : vs.Perm vs0) : ∀ {ps : List (V × PyData)}, EachIs R vs0 ps → ∃ bs : List (V × PyData), bs.Perm ps ∧ EachIs R vs bs := by
  induction pm with
  | nil => intro ps e0; exact ⟨ps, .refl _, e0⟩
  | cons x _ ih =>
    intro ps e0
    cases e0 with
    | cons r t =>
      obtain ⟨bs, p1, p2⟩ := ih t
      exact ⟨_, p1.cons _, .cons r p2⟩
  | swap x y l =>
    intro ps e0
    cases e0 with
    | cons r t =>
      cases t with
      | cons r2 t2 => exact ⟨_, .swap _ _ _, .cons r2 (.cons r t2)⟩
  | trans _ _ ih1 ih2 =>
    intro ps e0
    obtain ⟨b2, p1, p2⟩ := ih2 e0
    obtain ⟨b1, p3, p4⟩ := ih1 p2
    exact ⟨b1, p3.trans p1, p4⟩
def rSortedV (K : PySem.W.Frag) (w : World) : List V → Hp → VK → Prop := fun vs H Q => ∃ (a : Addr) (ps : List (V × PyData)), vs = [V.ref a] ∧ (H a = some (SetV w a (ps.map (·.1))) ∨ (SqL K H a (ps.map (·.1)) ∧ ps.length < 100)) ∧ (∀ p ∈ ps, Dp K H p.1 p.2) ∧ AllAlike (ps.map (·.2)) ∧ Sortable (ps.map (·.2)) ∧ (∀ p ∈ ps, p.2.depth ≤ 20) ∧
  ∀ (zs : List (V × PyData)) (q : Addr), zs.Perm ps → Srd zs → H q = none → Q (.ref q) (upd H q (.lst (zs.map (·.1))))
theorem cr_sortedV (hc : X.calm = true) (hu : X.A.units + 64 < cLine) : CallR X (.builtin "sorted") (rSortedV X.K X.w) := by
  intro pins s σ H vs us Q I r h
  obtain ⟨a, ps, rfl, src, hd, alk, srt, dep, q⟩ := h
  rw [Vals.ref1 r]
  have reads : ∀ {u : Value} {p : V × PyData}, p ∈ ps → RelV p.1 u → ∃ as, Reads s.heap u p.2 as := fun hp r => Dp.reads I _ _ _ (hd _ hp) r
  rcases src with src | ⟨src, few⟩
  · obtain ⟨es, ep, t, sa, fit, ris, led, few, rv⟩ := (I.hok a _ src).1
    have sz : ps.length = es.size := by
      have z := rv.length
      rw [List.length_map, List.length_map, Array.length_toList] at z
      exact z
    refine Calls.call_function_entry kind_sorted plain_sorted entry_sorted (args_sorted1 _) ?_
    unfold Builtin.«sorted»
    refine wpAny_bind (m := checkCount "sorted" 1 1 _) (wpAny_pure ?_)
    refine wpAny_bind (collect_set (A := X.A.in1) (I.ok.hd hc) sa fit (by unfold scanBound; omega) ris led fun s1 vs k1 z1 g1 o1 pm => ?_)
    have small : vs.length < 64 := by rw [pm.length_eq, List.length_map, Array.length_toList]; exact few
    obtain ⟨bs, pb, eb⟩ := perm_each pm (each_vals rv)
    have hn : H s1.heap.objs.size = none := I.hok.fresh z1
    refine wpAny_bind (wpAny_newList ?_ (by rw [sizeLine_eq]; omega))
    have at1 : (s1.heap.push (seqObj "list" vs.toArray 0)).get? s1.heap.objs.size = some (seqObj "list" vs.toArray 0) := Heap.get?_push_size _ rfl
    have alk1 : AllAlike (bs.map (·.2)) := fun d h1 e h2 => alk d ((pb.map (·.2)).mem_iff.mp h1) e ((pb.map (·.2)).mem_iff.mp h2)
    have srt1 : Sortable (bs.map (·.2)) := srt.imp (fun z d h1 => z d ((pb.map (·.2)).mem_iff.mp h1)) fun z d h1 => z d ((pb.map (·.2)).mem_iff.mp h1)
    have len : bs.length = vs.length := eb.length.symm
    have rd : EachIs (fun u (b : V × PyData) => ∃ as, Reads (s1.heap.push (seqObj "list" vs.toArray 0)) u b.2 as ∧ s1.heap.objs.size ∉ as) vs bs := each_and eb fun u b hb r => by
      obtain ⟨as, y⟩ := reads (pb.mem_iff.mp hb) r
      exact ⟨as, PyProof.Rows.Reads.keeps (fun _ _ e => Heap.get?_push_of_some _ (k1 _ _ e)) y, fun z => absurd (reads_lt y _ z) (Nat.not_lt.mpr z1)⟩
    refine wpAny_bind (wpAny_holding (list_sort_data (s := { s1 with heap := s1.heap.push (seqObj "list" vs.toArray 0) }) (enc := (·.2)) at1 eb rd alk1 srt1 (by rw [len, sizeLine_eq]; omega) (fun b hb => by
      have := dep b (pb.mem_iff.mp hb)
      show X.A.units + 1 + 1 + _ < _
      omega) fun out ho eo => ?_))
    obtain ⟨c, at2⟩ := sortedHeap_at (vs := vs) (out := out.toArray) at1
    have old : ∀ b o, s.heap.get? b = some o → (sortedHeap (s1.heap.push (seqObj "list" vs.toArray 0)) s1.heap.objs.size vs out.toArray).get? b = some o := fun b o e => by
      have lt := Nat.lt_of_lt_of_le (Heap.lt_size e) z1
      rw [sortedHeap_old (Nat.ne_of_lt lt) (by rw [size_push']; exact Nat.lt_succ_of_lt lt)]
      exact Heap.get?_push_of_some _ (k1 b o e)
    have pz : (bs.mergeSort (dataLe false (·.2))).Perm ps := (List.mergeSort_perm _ _).trans pb
    have rz : Vals ((bs.mergeSort (dataLe false (·.2))).map (·.1)) out := vals_each eo
    have lz : ((bs.mergeSort (dataLe false (·.2))).map (·.1)).length ≤ sizeLine := by rw [List.length_map, pz.length_eq, sz, sizeLine_eq]; omega
    refine wpAny_pure ⟨_, rfl, .ref s1.heap.objs.size, upd H s1.heap.objs.size (.lst ((bs.mergeSort (dataLe false (·.2))).map (·.1))), ?_, rfl, q _ _ pz (srt_srd _) hn⟩
    exact I.call' (ch := []) (s' := { s1 with heap := sortedHeap (s1.heap.push (seqObj "list" vs.toArray 0)) s1.heap.objs.size vs out.toArray }) o1 (Un.laid old z1 hn) (I.hok.laid old z1 ⟨lz, out, c, rz, at2⟩) (by show AllBare s1.gens; rw [g1]; exact I.bare) (fun _ z => nomatch z)
  · obtain ⟨its, rv, pl, hz⟩ := I.list src
    have ev := each_vals rv
    refine sorted_data (R := fun u (b : V × PyData) => RelV b.1 u) (enc := (·.2)) (bs := ps) pl.isList ev (each_and ev fun u b hb r => reads hb r) alk srt (by rw [← List.length_map (f := (·.1))]; exact hz) (fun b hb => by have := dep b hb; omega) fun out ho eo => ?_
    obtain ⟨c, at2⟩ := sortedAll_at s.heap its out.toArray
    have old : ∀ b o, s.heap.get? b = some o → (sortedAll s.heap its out.toArray).get? b = some o := fun b o e => sortedAll_old e
    have hn : H (s.heap.objs.size + 1) = none := I.hok.fresh (Nat.le_succ _)
    have pz : (ps.mergeSort (dataLe false (·.2))).Perm ps := List.mergeSort_perm _ _
    have rz : Vals ((ps.mergeSort (dataLe false (·.2))).map (·.1)) out := vals_each eo
    have lz : ((ps.mergeSort (dataLe false (·.2))).map (·.1)).length ≤ sizeLine := by rw [List.length_map, pz.length_eq]; exact Nat.le_trans (Nat.le_of_lt few) (by decide)
    exact ⟨.ref (s.heap.objs.size + 1), upd H (s.heap.objs.size + 1) (.lst ((ps.mergeSort (dataLe false (·.2))).map (·.1))), I.laid (t' := s.toks) (o := .lst ((ps.mergeSort (dataLe false (·.2))).map (·.1))) old (Nat.le_succ _) ⟨lz, out, c, rz, at2⟩, rfl, q _ _ pz (srt_srd _) hn⟩
end
end MrS

/-! R -/
set_option Elab.async false
set_option linter.all false
set_option maxRecDepth 100000
set_option maxHeartbeats 3200000
namespace MrS
open PySem PySem.Spec PyProof.Rows L2 PySem.W
section
variable {X : Cx}
/-- x < y of data that are alike -/
def rLtD (K : PySem.W.Frag) : R2 := fun x y H Q => ∃ d e, Dp K H x d ∧ Dp K H y e ∧ alike d e = true ∧ d ≠ .none ∧ d.depth ≤ 20 ∧ Q (.bl (dataLt d e)) H
theorem op_ltD (hu : X.A.units + 64 < cLine) : OpR X (compareOp .Lt) (rLtD X.K) := by
  intro pins s σ H x y v u Q I rx ry h
  obtain ⟨d, e, hd, he, al, nn, dp, q⟩ := h
  obtain ⟨as, r1⟩ := Dp.reads I d x v hd rx
  obtain ⟨bs, r2⟩ := Dp.reads I e y u he ry
  exact rcLt_alike d e _ _ _ _ _ _ r1 r2 al nn (by omega) _ _ _ _ ⟨.bl _, H, I, rfl, q⟩
/-- d.update(e) -/
def rUpdate : V → List V → Hp → VK → Prop := fun x vs H Q => ∃ d e kvs more, x = .ref d ∧ vs = [.ref e] ∧ d ≠ e ∧ H d = some (.dK kvs) ∧ H e = some (.dK more) ∧ kvs.length + more.length ≤ sizeLine ∧ Q .non (upd H d (.dK (mergeK kvs more)))
theorem mergeK_le : ∀ (more kvs : List (Key × V)), (mergeK kvs more).length ≤ kvs.length + more.length
  | [], kvs => Nat.le_refl _
  | p :: more, kvs => by
    have h1 := mergeK_le more (putK kvs p.1 p.2)
    have h2 : (putK kvs p.1 p.2).length ≤ kvs.length + 1 := by
      unfold putK
      split
      · rw [List.length_map]; omega
      · rw [List.length_append]; exact Nat.le_refl _
    show (mergeK (putK kvs p.1 p.2) more).length ≤ _
    rw [List.length_cons]
    omega
theorem mt_update : MtR X "dict.update" rUpdate := by
  intro pins s σ H x vs v us Q I rx rv h
  obtain ⟨d, e, kvs, more, rfl, rfl, ne, hd, he, hz, q⟩ := h
  cases rx
  obtain ⟨u, rfl, ru⟩ := rv.one
  cases ru
  obtain ⟨z1, s1, ws, r1, o1⟩ := dk_of I.hok hd
  obtain ⟨z2, s2, ys, r2, o2⟩ := dk_of I.hok he
  refine call_meetsIn PySem.F.slot_dict_update o1.typeIs PySem.F.entry_dict_update (PySem.F.args_dict_update_2 _ _) (meets_dict_update (mixKind X.prog X.w) d e ne s2) ⟨ws, ys, o1, o2, by rw [← r1.length, ← r2.length]; exact hz, fun h' o1' _ but => ?_⟩
  have there : ∃ q, h'.get? d = some q := let ⟨q, _, _, hq, _⟩ := o1'; ⟨q, hq⟩
  exact ⟨.non, _, d_write I (by rw [hd]; exact True.intro) but there (dk_new (Nat.le_trans (mergeK_le more kvs) hz) s1 (KV.merge r2 r1) o1'), rfl, q⟩
end
end MrS

/-! E -/
set_option Elab.async false
set_option linter.all false
set_option maxRecDepth 100000
set_option maxHeartbeats 2000000
namespace Mr
open PySem PySem.Spec PyProof.Rows L2 TL MrS RZ
abbrev sSame : Stmt := topS 29
theorem scSame : FnScope ["_law_found", "_law_due", "_law_one", "_law_two"] ["_law_found", "_law_due"] (defScope sSame) := ⟨rfl, rfl, rfl, by decide +kernel, rfl, by decide +kernel, by decide +kernel⟩
/-- data of this depth at most, its lists not long -/
def fine : Nat → PyData → Bool
  | _, .none => true
  | _, .bool _ => true
  | _, .int _ => true
  | _, .str _ => true
  | n + 1, .list xs => decide (xs.length ≤ 1000) && xs.all (fine n)
  | n + 1, .tuple xs => decide (xs.length ≤ 1000) && xs.all (fine n)
  | _, _ => false
def tyN : PyData → String
  | .none => "NoneType"
  | .bool _ => "bool"
  | .int _ => "int"
  | .str _ => "str"
  | .list _ => "list"
  | .tuple _ => "tuple"
  | .dict _ => "dict"
theorem ty_of {K : PySem.W.Frag} {H : Hp} {v : V} {d : PyData} (h : Dp K H v d) : TyX K H v (.type (tyN d)) := by
  cases h with
  | non => exact .base .non
  | bl b => exact .base (.bl b)
  | int i => exact .base (.int i)
  | str x => exact .base (.str x)
  | lst h _ =>
    rcases h with (h | ⟨o, h⟩) | ⟨o, its, n, h, c, _⟩
    · exact .base (.lst h)
    · exact .base (.frz h)
    · exact .kList h c
  | tup h _ =>
    rcases h with (h | ⟨o, h⟩) | ⟨o, its, n, h, c, _⟩
    · exact .base (.tup h)
    · exact .fTuple h
    · exact .kTuple h c
theorem dpa_at {K : PySem.W.Frag} {H : Hp} : ∀ {vs : List V} {ds : List PyData} {i : Nat} {v : V}, DpAll K H vs ds → vs[i]? = some v → ∃ d, ds[i]? = some d ∧ Dp K H v d
  | _, _, _, _, .nil, h => by simp at h
  | _, _, 0, _, .cons a _, h => by
    simp only [List.getElem?_cons_zero, Option.some.injEq] at h
    subst h
    exact ⟨_, rfl, a⟩
  | _, _, i + 1, v, .cons _ b, h => by
    simp only [List.getElem?_cons_succ] at h
    obtain ⟨d, e, r⟩ := dpa_at b h
    exact ⟨d, by simpa using e, r⟩
theorem dpa_len {K : PySem.W.Frag} {H : Hp} : ∀ {vs : List V} {ds : List PyData}, DpAll K H vs ds → vs.length = ds.length
  | _, _, .nil => rfl
  | _, _, .cons _ b => by rw [List.length_cons, List.length_cons, dpa_len b]
mutual
theorem dp_same {K : PySem.W.Frag} {H H' : Hp} (s : Same H H') : ∀ {v : V} {d : PyData}, Dp K H v d → Dp K H' v d
  | _, _, .non => .non
  | _, _, .bl b => .bl b
  | _, _, .int i => .int i
  | _, _, .str x => .str x
  | _, _, .lst h a => .lst (s.seq h) (dpa_same s a)
  | _, _, .tup h a => .tup (by
      rcases h with (h | ⟨o, h⟩) | h
      · exact .inl (.inl (s _ _ h))
      · exact .inl (.inr ⟨o, s _ _ h⟩)
      · exact .inr h) (dpa_same s a)
theorem dpa_same {K : PySem.W.Frag} {H H' : Hp} (s : Same H H') : ∀ {vs : List V} {ds : List PyData}, DpAll K H vs ds → DpAll K H' vs ds
  | _, _, .nil => .nil
  | _, _, .cons a b => .cons (dp_same s a) (dpa_same s b)
end
theorem tseq {K : PySem.W.Frag} {H H' : Hp} {a : Addr} {xs : List V} (s : Same H H') (h : SqT K H a xs) : SqT K H' a xs := by
  rcases h with (h | ⟨o, h⟩) | h
  · exact .inl (.inl (s _ _ h))
  · exact .inl (.inr ⟨o, s _ _ h⟩)
  · exact .inr h
theorem walk_zipT {K : PySem.W.Frag} {a b : Addr} {xs ys : List V} {n : Nat} (hn : n = min xs.length ys.length) : Walk (ItzT K a b) n (fun H => SqT K H a xs ∧ SqT K H b ys) (YPair (fun i => xs[i]?) (fun i => ys[i]?)) := by
  subst hn
  refine ⟨fun i _ hi q => ⟨xs, ys, xs[i]'(by omega), ys[i]'(by omega), q.1, q.2, by simp, by simp⟩, fun _ q => ⟨xs, ys, q.1, q.2, by omega⟩, fun i H v H' _ q y => ?_⟩
  obtain ⟨T, x, z, h1, h2, h3, h4, h5⟩ := y
  exact ⟨T, x, z, h1, h2, h3, h4 xs q.1, h5 ys q.2⟩
theorem same_upd {H : Hp} {p : Addr} {o : HO} (h : H p = none) : Same H (upd H p o) := fun b x e => by
  rw [upd_ne (ne_of_none e h)]
  exact e
section
variable {P : Program} {w : World} {K : PySem.W.Frag} {mg : Str → Option Value} {base : Heap}
/-- what is alike is told so -/
def spSame (K : PySem.W.Frag) : Nat → Sp
  | 0 => fun _ _ _ _ => False
  | n + 1 => fun vs H Q _ => ∃ (v u : V) (d : PyData), vs = [v, u] ∧ Dp K H v d ∧ Dp K H u d ∧ fine n d = true ∧ ∀ H', Same H H' → Q (.bl true) H'
theorem ok_none {k : Nat} {f : Addr} {fd : FuncData} {ps : List Str} : FnOk P w K mg base CX0 k f fd ps (fun _ _ _ _ => False) where
  len := fun _ _ _ _ h => h.elim
  run := fun _ _ _ _ _ _ _ _ _ _ _ _ _ h => h.elim
def leafy : PyData → Bool
  | .none => true
  | .bool _ => true
  | .int _ => true
  | .str _ => true
  | _ => false
theorem leaf_kits {d : PyData} (h : leafy d = true) : kitB (tyN d) "list" = some false ∧ kitB (tyN d) "tuple" = some false ∧ (∃ b, kitB (tyN d) "bool" = some b) ∧ ∃ b, kitB (tyN d) "int" = some b := by
  cases d with
  | none => exact ⟨by decide +kernel, by decide +kernel, ⟨false, by decide +kernel⟩, ⟨false, by decide +kernel⟩⟩
  | bool _ => exact ⟨(by decide +kernel : kitB "bool" "list" = some false), (by decide +kernel : kitB "bool" "tuple" = some false), ⟨true, (by decide +kernel : kitB "bool" "bool" = some true)⟩, ⟨true, (by decide +kernel : kitB "bool" "int" = some true)⟩⟩
  | int _ => exact ⟨(by decide +kernel : kitB "int" "list" = some false), (by decide +kernel : kitB "int" "tuple" = some false), ⟨false, (by decide +kernel : kitB "int" "bool" = some false)⟩, ⟨true, (by decide +kernel : kitB "int" "int" = some true)⟩⟩
  | str _ => exact ⟨(by decide +kernel : kitB "str" "list" = some false), (by decide +kernel : kitB "str" "tuple" = some false), ⟨false, (by decide +kernel : kitB "str" "bool" = some false)⟩, ⟨false, (by decide +kernel : kitB "str" "int" = some false)⟩⟩
  | list _ => cases h
  | tuple _ => cases h
  | dict _ => cases h
theorem leaf_one {H : Hp} {v u : V} {d : PyData} (h : leafy d = true) (a : Dp K H v d) (b : Dp K H u d) : v = u ∧ scal v u = true := by
  cases d with
  | none => cases a; cases b; exact ⟨rfl, rfl⟩
  | bool _ => cases a; cases b; exact ⟨rfl, rfl⟩
  | int _ => cases a; cases b; exact ⟨rfl, rfl⟩
  | str _ => cases a; cases b; exact ⟨rfl, rfl⟩
  | list _ => cases h
  | tuple _ => cases h
  | dict _ => cases h
theorem fine_all {n : Nat} {ds : List PyData} {i : Nat} {d : PyData} (h : ds.all (fine n) = true) (hi : ds[i]? = some d) : fine n d = true := List.all_eq_true.mp h d (List.mem_of_getElem? hi)
theorem ok_same {f : Addr} {fd : FuncData} (F : Fun K "_law_same" "_law_same" sSame f fd) (bF : Binds K fd ["_law_found", "_law_due"] []) (mF : mg "_law_same" = some (.ref f))
    (mi : mg "isinstance" = none) (ml : mg "len" = none) (ma : mg "all" = none) (mz : mg "zip" = none) (m1 : mg "list" = none) (m2 : mg "tuple" = none) (m3 : mg "bool" = none) (m4 : mg "int" = none) :
    ∀ n, FnOk P w K mg base CX0 n f fd ["_law_found", "_law_due"] (spSame K n)
  | 0 => ok_none
  | n + 1 => by
    have G := ok_same F bF mF mi ml ma mz m1 m2 m3 m4 n
    refine F.ok scSame (fun vs H Q E h => ?_) (fun cdv A outer s H vs Q E hr h => ?_)
    · obtain ⟨v, u, d, rfl, _⟩ := h
      rfl
    · obtain ⟨v, u, d, rfl, hv, hu, hf, q⟩ := h
      refine ⟨_, pss_cons (ps_if (pt_val (pe_callB call_isiT (by rfl) mi (by decide +kernel) (pa_cons (pv 1) (pa_cons (pe_tup (pa_cons (pe_bltn (v := .ty "list") (by rfl) m1 (by decide +kernel) rfl) (pa_cons (pe_bltn (v := .ty "tuple") (by rfl) m2 (by decide +kernel) rfl) pa_nil))) pa_nil))))
          (pss_cons (ps_if (PW.pt (pw_or (pt_cmpR op_ne (pe_callB call_isi (by rfl) mi (by decide +kernel) (pa_cons (pv 0) (pa_cons (pe_bltn (v := .ty "list") (by rfl) m1 (by decide +kernel) rfl) pa_nil))) (pe_callB call_isi (by rfl) mi (by decide +kernel) (pa_cons (pv 1) (pa_cons (pe_bltn (v := .ty "list") (by rfl) m1 (by decide +kernel) rfl) pa_nil))) (nomark _))
              (pw_or1 (pt_cmpR op_ne (pe_callB call_isi (by rfl) mi (by decide +kernel) (pa_cons (pv 0) (pa_cons (pe_bltn (v := .ty "tuple") (by rfl) m2 (by decide +kernel) rfl) pa_nil))) (pe_callB call_isi (by rfl) mi (by decide +kernel) (pa_cons (pv 1) (pa_cons (pe_bltn (v := .ty "tuple") (by rfl) m2 (by decide +kernel) rfl) pa_nil))) (nomark _)))))
            (pss_one (ps_ret pe_bl)) pss_nil)
          (pss_one (ps_ret (pe_and (pe_cmpR op_eq (pe_callB call_len_seq (by rfl) ml PySem.boot_len (pa_cons (pv 0) pa_nil)) (pe_callB call_len_seq (by rfl) ml PySem.boot_len (pa_cons (pv 1) pa_nil)) (nomark _))
            (pe_one (pe_callB (cr_all rfl) (by rfl) ma (by decide +kernel) (pa_cons (pe_lc (own := [("_law_one", 2), ("_law_two", 3)]) (g := gTup K 2 (gCons (gName 2) (gCons (gName 3) gNil))) (tt := tYes) rfl scSame.nd (pi_zipA (by rfl) mz (pa_cons (pv 0) (pa_cons (pv 1) pa_nil)))
              (blkOk_by (own := [("_law_one", 2), ("_law_two", 3)]) (N := ["_law_found", "_law_due", "_law_one", "_law_two"]) (sc := defScope sSame) (by decide +kernel))
              (fun _ _ _ _ _ => pg_tup rfl (pgs_cons (pg_name (i := 2) scSame.nd rfl (.inl rfl)) (pgs_cons (pg_name (i := 3) scSame.nd rfl (.inl rfl)) pgs_nil))) (fun _ _ _ _ _ => pts_nil)
              (fun _ _ _ _ _ => pe_call G hr (by rfl) mF F.kp bF .nil pass0 (pa_cons (pv 2) (pa_cons (pv 3) pa_nil)))) pa_nil))))))) pss_nil)
        (pss_cons (ps_if (PW.pt (pw_or (pt_cmpR op_ne (pe_callB call_isi (by rfl) mi (by decide +kernel) (pa_cons (pv 0) (pa_cons (pe_bltn (v := .ty "bool") (by rfl) m3 (by decide +kernel) rfl) pa_nil))) (pe_callB call_isi (by rfl) mi (by decide +kernel) (pa_cons (pv 1) (pa_cons (pe_bltn (v := .ty "bool") (by rfl) m3 (by decide +kernel) rfl) pa_nil))) (nomark _))
            (pw_or1 (pt_cmpR op_ne (pe_callB call_isi (by rfl) mi (by decide +kernel) (pa_cons (pv 0) (pa_cons (pe_bltn (v := .ty "int") (by rfl) m4 (by decide +kernel) rfl) pa_nil))) (pe_callB call_isi (by rfl) mi (by decide +kernel) (pa_cons (pv 1) (pa_cons (pe_bltn (v := .ty "int") (by rfl) m4 (by decide +kernel) rfl) pa_nil))) (nomark _)))))
            (pss_one (ps_ret pe_bl)) pss_nil)
        (pss_one (ps_ret (pe_cmpR op_eq (pv 0) (pv 1) (nomark _))))), ?_⟩
      refine ⟨_, rfl, (by show 2 ≤ sizeLine; decide), fun T hT => ?_⟩
      have s1 := same_upd (o := .tup [.ty "list", .ty "tuple"]) hT
      have hv1 := dp_same s1 hv
      have hu1 := dp_same s1 hu
      have q1 : ∀ H', Same (upd H T (.tup [.ty "list", .ty "tuple"])) H' → Q (.bl true) H' := fun H' z => q H' (s1.trans z)
      have eT : (upd H T (.tup [.ty "list", .ty "tuple"])) T = some (.tup [.ty "list", .ty "tuple"]) := upd_same
      have tyu := ty_of hu1
      have tyv := ty_of hv1
      generalize upd H T (.tup [.ty "list", .ty "tuple"]) = H1 at hv1 hu1 q1 eT tyu tyv ⊢
      have kl : ∀ (a b : String) (r : Bool), kitB a b = some r → PySem.W.kitOne K (.type a) (.type b) = some r := fun a b r h => kit_ty h
      by_cases hlf : leafy d = true
      · obtain ⟨k1, k2, ⟨b1, k3⟩, b2, k4⟩ := leaf_kits hlf
        obtain ⟨evu, hsc⟩ := leaf_one hlf hv1 hu1
        refine ⟨_, T, _, .type (tyN d), _, false, rfl, eT, .cons (.ty _) (.cons (.ty _) .nil), tyu, kitAny_cons (kl _ _ false k1) (fun _ => kitAny_cons (kl _ _ false k2) (fun _ => kitAny_nil) (fun z => nomatch z)) (fun z => nomatch z), ?_⟩
        refine ⟨_, rfl, iteF ?_⟩
        refine ⟨_, rfl, _, _, .type (tyN d), .type "bool", b1, rfl, .ty _, tyv, kl _ _ b1 k3, _, rfl, _, _, .type (tyN d), .type "bool", b1, rfl, .ty _, tyu, kl _ _ b1 k3, rfl, _, rfl, iteNS rfl ?_⟩
        refine ⟨_, rfl, _, _, .type (tyN d), .type "int", b2, rfl, .ty _, tyv, kl _ _ b2 k4, _, rfl, _, _, .type (tyN d), .type "int", b2, rfl, .ty _, tyu, kl _ _ b2 k4, rfl, _, rfl, iteNS rfl ?_⟩
        refine ⟨_, rfl, _, rfl, hsc, ?_⟩
        rw [decide_eq_true evu]
        exact q1 _ fun _ _ z => z
      · cases d with
        | none => exact absurd rfl hlf
        | bool _ => exact absurd rfl hlf
        | int _ => exact absurd rfl hlf
        | str _ => exact absurd rfl hlf
        | dict _ => cases hv
        | list ds =>
          cases hv1 with
          | @lst a1 xs _ h1 p1 =>
            cases hu1 with
            | @lst a2 ys _ h2 p2 =>
              have l1 := dpa_len p1
              have l2 := dpa_len p2
              cases n with
              | zero => cases hf
              | succ m =>
                have hf2 : (decide (ds.length ≤ 1000) && ds.all (fine m)) = true := hf
                rw [Bool.and_eq_true, decide_eq_true_eq] at hf2
                obtain ⟨few, fin⟩ := hf2
                have bd : ∀ i, i < ds.length → i < sizeLine := fun i hi => Nat.lt_of_lt_of_le (show i < 1001 by omega) (by decide)
                refine ⟨_, T, _, .type "list", _, true, rfl, eT, .cons (.ty _) (.cons (.ty _) .nil), tyu, kitAny_cons (kl "list" "list" true (by decide +kernel)) (fun z => nomatch z) (fun _ => rfl), ?_⟩
                refine ⟨_, rfl, iteT ?_⟩
                refine ⟨_, rfl, _, _, .type "list", .type "list", true, rfl, .ty _, tyv, kl _ _ true (by decide +kernel), _, rfl, _, _, .type "list", .type "list", true, rfl, .ty _, tyu, kl _ _ true (by decide +kernel), rfl, _, rfl, iteNS rfl ?_⟩
                refine ⟨_, rfl, _, _, .type "list", .type "tuple", false, rfl, .ty _, tyv, kl _ _ false (by decide +kernel), _, rfl, _, _, .type "list", .type "tuple", false, rfl, .ty _, tyu, kl _ _ false (by decide +kernel), rfl, _, rfl, iteNS rfl ?_⟩
                refine ⟨_, rfl, a1, xs, rfl, .inl h1, _, rfl, a2, ys, rfl, .inl h2, rfl, _, rfl, ite2 (fun _ => ?_) (fun z => absurd (decide_eq_true (by rw [l1, l2])) z)⟩
                refine ⟨_, rfl, _, rfl, a1, a2, xs, ys, rfl, .inl ⟨h1, h2, fun D hD => lc_it (walk_zip (n := ds.length) (by rw [l1, l2]; simp)) (fun i H4 => Same H1 H4 ∧ H4 D = some (.lst (List.replicate i (.bl true)))) ⟨same_upd hD, upd_same⟩ (fun i H4 _ ⟨s4, _⟩ => ⟨s4.seq h1, s4.seq h2⟩) ?_ ?_⟩⟩
                · rintro i x H4 H5 hi ⟨s4, e4⟩ ⟨T2, x1, y1, rfl, nT, rfl, g1, g2⟩
                  obtain ⟨d1, i1, r1⟩ := dpa_at p1 g1
                  obtain ⟨d2, i2, r2⟩ := dpa_at p2 g2
                  obtain rfl : d1 = d2 := Option.some.inj (i1.symm.trans i2)
                  have s5 := s4.trans (same_upd (o := .tup [x1, y1]) nT)
                  refine ⟨T2, [x1, y1], rfl, SqT.of upd_same, rfl, x1, [y1], rfl, y1, [], rfl, rfl, rfl, lcYes ?_⟩
                  refine ⟨_, rfl, _, rfl, x1, y1, d1, rfl, dp_same s5 r1, dp_same s5 r2, fine_all fin i1, fun H6 s6 => ?_⟩
                  have e6 : H6 D = some (.lst (List.replicate i (.bl true))) := s6 _ _ (same_upd nT _ _ e4)
                  refine ⟨_, e6, by rw [List.length_replicate]; exact bd i hi, ?_, ?_⟩
                  · intro b o e
                    rw [upd_ne (ne_of_none e hD)]
                    exact s6 _ _ (s5 _ _ e)
                  · rw [upd_same, List.replicate_succ']
                · rintro H4 ⟨s4, e4⟩
                  refine ⟨D, List.replicate ds.length true, rfl, SqL.of (by rw [List.map_replicate]; exact e4), ?_⟩
                  have ea : (List.replicate ds.length true).all id = true := by simp
                  rw [ea]
                  exact q1 _ s4
        | tuple ds =>
          cases hv1 with
          | @tup a1 xs _ h1 p1 =>
            cases hu1 with
            | @tup a2 ys _ h2 p2 =>
              have l1 := dpa_len p1
              have l2 := dpa_len p2
              cases n with
              | zero => cases hf
              | succ m =>
                have hf2 : (decide (ds.length ≤ 1000) && ds.all (fine m)) = true := hf
                rw [Bool.and_eq_true, decide_eq_true_eq] at hf2
                obtain ⟨few, fin⟩ := hf2
                have bd : ∀ i, i < ds.length → i < sizeLine := fun i hi => Nat.lt_of_lt_of_le (show i < 1001 by omega) (by decide)
                refine ⟨_, T, _, .type "tuple", _, true, rfl, eT, .cons (.ty _) (.cons (.ty _) .nil), tyu, kitAny_cons (kl "tuple" "list" false (by decide +kernel)) (fun _ => kitAny_cons (kl "tuple" "tuple" true (by decide +kernel)) (fun z => nomatch z) (fun _ => rfl)) (fun z => nomatch z), ?_⟩
                refine ⟨_, rfl, iteT ?_⟩
                refine ⟨_, rfl, _, _, .type "tuple", .type "list", false, rfl, .ty _, tyv, kl _ _ false (by decide +kernel), _, rfl, _, _, .type "tuple", .type "list", false, rfl, .ty _, tyu, kl _ _ false (by decide +kernel), rfl, _, rfl, iteNS rfl ?_⟩
                refine ⟨_, rfl, _, _, .type "tuple", .type "tuple", true, rfl, .ty _, tyv, kl _ _ true (by decide +kernel), _, rfl, _, _, .type "tuple", .type "tuple", true, rfl, .ty _, tyu, kl _ _ true (by decide +kernel), rfl, _, rfl, iteNS rfl ?_⟩
                refine ⟨_, rfl, a1, xs, rfl, .inr h1, _, rfl, a2, ys, rfl, .inr h2, rfl, _, rfl, ite2 (fun _ => ?_) (fun z => absurd (decide_eq_true (by rw [l1, l2])) z)⟩
                refine ⟨_, rfl, _, rfl, a1, a2, xs, ys, rfl, .inr ⟨h1, h2, fun D hD => lc_it (walk_zipT (n := ds.length) (by rw [l1, l2]; simp)) (fun i H4 => Same H1 H4 ∧ H4 D = some (.lst (List.replicate i (.bl true)))) ⟨same_upd hD, upd_same⟩ (fun i H4 _ ⟨s4, _⟩ => ⟨tseq s4 h1, tseq s4 h2⟩) ?_ ?_⟩⟩
                · rintro i x H4 H5 hi ⟨s4, e4⟩ ⟨T2, x1, y1, rfl, nT, rfl, g1, g2⟩
                  obtain ⟨d1, i1, r1⟩ := dpa_at p1 g1
                  obtain ⟨d2, i2, r2⟩ := dpa_at p2 g2
                  obtain rfl : d1 = d2 := Option.some.inj (i1.symm.trans i2)
                  have s5 := s4.trans (same_upd (o := .tup [x1, y1]) nT)
                  refine ⟨T2, [x1, y1], rfl, SqT.of upd_same, rfl, x1, [y1], rfl, y1, [], rfl, rfl, rfl, lcYes ?_⟩
                  refine ⟨_, rfl, _, rfl, x1, y1, d1, rfl, dp_same s5 r1, dp_same s5 r2, fine_all fin i1, fun H6 s6 => ?_⟩
                  have e6 : H6 D = some (.lst (List.replicate i (.bl true))) := s6 _ _ (same_upd nT _ _ e4)
                  refine ⟨_, e6, by rw [List.length_replicate]; exact bd i hi, ?_, ?_⟩
                  · intro b o e
                    rw [upd_ne (ne_of_none e hD)]
                    exact s6 _ _ (s5 _ _ e)
                  · rw [upd_same, List.replicate_succ']
                · rintro H4 ⟨s4, e4⟩
                  refine ⟨D, List.replicate ds.length true, rfl, SqL.of (by rw [List.map_replicate]; exact e4), ?_⟩
                  have ea : (List.replicate ds.length true).all id = true := by simp
                  rw [ea]
                  exact q1 _ s4
end
end Mr

/-! F -/
set_option Elab.async false
set_option linter.all false
set_option maxRecDepth 100000
set_option maxHeartbeats 2000000
namespace Mr
open PySem PySem.Spec PyProof.Rows L2 TL MrS RZ PySem.W
/-! order -/
abbrev sd (x : Str) : PyData := .str x
abbrev pd (p : Str × Str) : PyData := .tuple [.str p.1, .str p.2]
theorem lt_total {x y : PyData} (h1 : dataLt x y = false) (h2 : dataLt y x = false) : keyToks x = keyToks y := (listOrd itemOrd).total _ _ h1 h2
theorem sd_inj {x y : Str} (h : keyToks (sd x) = keyToks (sd y)) : x = y := by
  simp only [sd, keyToks, List.cons.injEq, Sum.inr.injEq, and_true] at h
  exact ext_tl h
theorem pd_inj {p q : Str × Str} (h : keyToks (pd p) = keyToks (pd q)) : p = q := by
  simp only [pd, keyToks, keyToksAll, List.cons_append, List.nil_append, List.cons.injEq, Sum.inr.injEq, and_true, true_and] at h
  exact Prod.ext (ext_tl h.1) (ext_tl h.2)
theorem lt_irr (x : PyData) : dataLt x x = false := (listOrd itemOrd).irrefl _
theorem lt_tr {x y z : PyData} (h1 : dataLt x y = true) (h2 : dataLt y z = true) : dataLt x z = true := (listOrd itemOrd).trans _ _ _ h1 h2
/-- rising by what the things are -/
def Up {α : Type} (enc : α → PyData) (l : List α) : Prop := l.Pairwise fun x y => dataLt (enc x) (enc y) = true
theorem up_of {α : Type} {enc : α → PyData} (inj : ∀ x y, keyToks (enc x) = keyToks (enc y) → x = y) {l : List α} (nd : l.Nodup) (h : l.Pairwise fun x y => dataLt (enc y) (enc x) = false) : Up enc l := by
  have nd' : l.Pairwise (· ≠ ·) := List.nodup_iff_pairwise_ne.mp nd
  refine (h.and nd').imp fun {x y} ⟨h1, h2⟩ => ?_
  cases e : dataLt (enc x) (enc y) with
  | true => rfl
  | false => exact absurd (inj x y (lt_total e h1)) h2
theorem Up.nodup {α : Type} {enc : α → PyData} {l : List α} (h : Up enc l) : l.Nodup := by
  refine List.nodup_iff_pairwise_ne.mpr (List.Pairwise.imp (fun {x y} h1 e => ?_) h)
  subst e
  rw [lt_irr] at h1
  cases h1
theorem Up.sub {α : Type} {enc : α → PyData} {l m : List α} (h : Up enc l) (s : m.Sublist l) : Up enc m := List.Pairwise.sublist s h
theorem alike_sd : ∀ x y : Str, alike (sd x) (sd y) = true := fun _ _ => by simp [alike]
theorem alike_pd : ∀ p q : Str × Str, alike (pd p) (pd q) = true := fun _ _ => by simp [alike, alikeAll]
theorem depth_pd (p : Str × Str) : (pd p).depth = 1 := by simp [PyData.depth, PyData.depthAll]
theorem alk_map {α : Type} {enc : α → PyData} (h : ∀ x y, alike (enc x) (enc y) = true) (l : List α) : AllAlike (l.map enc) := AllAlike.of h
theorem perm_inv {α β : Type} {f : α → β} {l : List α} {zs : List β} (h : zs.Perm (l.map f)) : ∃ xs : List α, zs = xs.map f ∧ xs.Perm l := by
  have key : ∀ {zs ws : List β}, zs.Perm ws → ∀ l : List α, ws = l.map f → ∃ xs : List α, zs = xs.map f ∧ xs.Perm l := by
    intro zs ws h
    induction h with
    | nil => intro l e; exact ⟨[], rfl, by cases l with | nil => exact .refl _ | cons _ _ => cases e⟩
    | cons x _ ih =>
      intro l e
      cases l with
      | nil => cases e
      | cons a l =>
        obtain ⟨e1, e2⟩ := List.cons.inj e
        obtain ⟨xs, e3, p⟩ := ih l e2
        exact ⟨a :: xs, by rw [List.map_cons, ← e1, e3], p.cons a⟩
    | swap x y r =>
      intro l e
      cases l with
      | nil => cases e
      | cons a l =>
        cases l with
        | nil => cases (List.cons.inj e).2
        | cons c l =>
          obtain ⟨e1, e2⟩ := List.cons.inj e
          obtain ⟨e3, e4⟩ := List.cons.inj e2
          exact ⟨c :: a :: l, by rw [List.map_cons, List.map_cons, ← e1, ← e3, e4], .swap _ _ _⟩
    | trans _ _ ih1 ih2 =>
      intro l e
      obtain ⟨xs, e1, p1⟩ := ih2 l e
      obtain ⟨ys, e2, p2⟩ := ih1 xs e1
      exact ⟨ys, e2, p2.trans p1⟩
  exact key h l rfl
abbrev sv (x : Str) : V × PyData := (.str x, sd x)
abbrev pv2 (x : Addr × (Str × Str)) : V × PyData := (.ref x.1, pd x.2)
theorem sv1 (l : List Str) : (l.map sv).map (·.1) = l.map V.str := by rw [List.map_map]; rfl
theorem sv2 (l : List Str) : (l.map sv).map (·.2) = l.map sd := by rw [List.map_map]; rfl
theorem pv1' (l : List (Addr × (Str × Str))) : (l.map pv2).map (·.1) = l.map fun x => .ref x.1 := by rw [List.map_map]; rfl
theorem pv2' (l : List (Addr × (Str × Str))) : (l.map pv2).map (·.2) = (l.map (·.2)).map pd := by rw [List.map_map, List.map_map]; rfl
theorem srt_sd (l : List Str) : Sortable (l.map sd) := Sortable.others fun x => ⟨(by intro z; cases z), (by intro xs z; cases z)⟩
theorem srt_pd (l : List (Str × Str)) : Sortable (l.map pd) := Sortable.tuples fun p => ⟨_, _, rfl⟩
/-- what sorted gives of texts no two of which are alike -/
theorem got_texts {l : List Str} {zs : List (V × PyData)} (nd : l.Nodup) (p : zs.Perm (l.map sv)) (s : Srd zs) : ∃ xs : List Str, zs = xs.map sv ∧ xs.Perm l ∧ Up sd xs := by
  obtain ⟨xs, rfl, p2⟩ := perm_inv p
  exact ⟨xs, rfl, p2, up_of (fun _ _ => sd_inj) (p2.nodup_iff.mpr nd) (List.pairwise_map.mp s)⟩
theorem got_pairs {l : List (Addr × (Str × Str))} {zs : List (V × PyData)} (nd : (l.map (·.2)).Nodup) (p : zs.Perm (l.map pv2)) (s : Srd zs) : ∃ xs : List (Addr × (Str × Str)), zs = xs.map pv2 ∧ xs.Perm l ∧ Up pd (xs.map (·.2)) := by
  obtain ⟨xs, rfl, p2⟩ := perm_inv p
  refine ⟨xs, rfl, p2, up_of (fun _ _ => pd_inj) ((p2.map (·.2)).nodup_iff.mpr nd) ?_⟩
  exact List.pairwise_map.mpr (List.pairwise_map.mp s)
/-! a law's table -/
structure TD where
  nodes : List Str
  arcs : List (Str × Str)
  firsts : List Str
  tags : List (Str × List Str)
structure TOk (t : TD) : Prop where
  n1 : 1 ≤ t.nodes.length
  n8 : t.nodes.length ≤ 8
  nn : ∀ x ∈ t.nodes, isNm x
  nu : Up sd t.nodes
  a24 : t.arcs.length ≤ 24
  ain : ∀ p ∈ t.arcs, p.1 ∈ t.nodes ∧ p.2 ∈ t.nodes
  aout : ∀ x ∈ t.nodes, ∃ p ∈ t.arcs, p.1 = x
  au : Up pd t.arcs
  f1 : t.firsts ≠ []
  fin : ∀ x ∈ t.firsts, x ∈ t.nodes
  fu : Up sd t.firsts
  ts : t.tags.map (·.1) = t.nodes
  tm : ∀ p ∈ t.tags, Up sd p.2 ∧ p.2.length ≤ 4 ∧ ∀ x ∈ p.2, isNm x
def kN : Key := .inr "nodes"
def kA : Key := .inr "arcs"
def kF : Key := .inr "firsts"
def kG : Key := .inr "tags"
def tabD (aN aA aF aG : Addr) : List (Key × V) := [(kN, .ref aN), (kA, .ref aA), (kF, .ref aF), (kG, .ref aG)]
theorem kNA : ¬ kN = kA := by decide +kernel
theorem kNF : ¬ kN = kF := by decide +kernel
theorem kNG : ¬ kN = kG := by decide +kernel
theorem kAF : ¬ kA = kF := by decide +kernel
theorem kAG : ¬ kA = kG := by decide +kernel
theorem kFG : ¬ kF = kG := by decide +kernel
section
variable {aN aA aF aG z : Addr}
theorem tabN : valV (tabD aN aA aF aG) kN = some (.ref aN) := valV_pos rfl
theorem tabA : valV (tabD aN aA aF aG) kA = some (.ref aA) := (valV_neg kNA).trans (valV_pos rfl)
theorem tabF : valV (tabD aN aA aF aG) kF = some (.ref aF) := (valV_neg kNF).trans ((valV_neg kAF).trans (valV_pos rfl))
theorem tabG : valV (tabD aN aA aF aG) kG = some (.ref aG) := (valV_neg kNG).trans ((valV_neg kAG).trans ((valV_neg kFG).trans (valV_pos rfl)))
theorem putA : putK (tabD aN aA aF aG) kA (.ref z) = tabD aN z aF aG := by
  unfold putK tabD
  simp [kNA, Ne.symm kAF, Ne.symm kAG, Ne.symm kNA, show ¬ kF = kA from fun e => kAF e.symm, show ¬ kG = kA from fun e => kAG e.symm]
theorem putFi : putK (tabD aN aA aF aG) kF (.ref z) = tabD aN aA z aG := by
  unfold putK tabD
  simp [kNF, kAF, show ¬ kG = kF from fun e => kFG e.symm]
end
abbrev refs {α : Type} (l : List (Addr × α)) : List V := l.map fun x => .ref x.1
def tagE (x : Str × Addr × List Str) : Key × V := (.inr x.1, .ref x.2.1)
structure TabAt (H : Hp) (T : Addr) (t : TD) (aN aA aF aG : Addr) (as : List (Addr × (Str × Str))) (ts : List (Str × Addr × List Str)) : Prop where
  hT : H T = some (.dK (tabD aN aA aF aG))
  hN : H aN = some (.lst (t.nodes.map V.str))
  hA : H aA = some (.lst (refs as))
  eA : ∀ x ∈ as, H x.1 = some (.tup [.str x.2.1, .str x.2.2])
  mA : as.map (·.2) = t.arcs
  hF : H aF = some (.lst (t.firsts.map V.str))
  hG : H aG = some (.dK (ts.map tagE))
  eG : ∀ x ∈ ts, H x.2.1 = some (.tup (x.2.2.map V.str))
  mG : ts.map (fun x => (x.1, x.2.2)) = t.tags
theorem putK_fresh {kvs : List (Key × V)} {k : Key} {v : V} (h : k ∉ kvs.map (·.1)) : putK kvs k v = kvs ++ [(k, v)] := by
  unfold putK
  rw [if_neg]
  intro z
  obtain ⟨p, hp, e⟩ := List.any_eq_true.mp z
  exact h (List.mem_map.mpr ⟨p, hp, of_decide_eq_true e⟩)
theorem merge_fresh : ∀ (more kvs : List (Key × V)), ((kvs ++ more).map (·.1)).Nodup → mergeK kvs more = kvs ++ more
  | [], kvs, _ => (List.append_nil kvs).symm
  | p :: more, kvs, h => by
    have h1 : (kvs ++ p :: more) = (kvs ++ [p]) ++ more := by simp
    have hn : p.1 ∉ kvs.map (·.1) := by
      rw [List.map_append, List.map_cons, List.nodup_append] at h
      intro z
      exact h.2.2 p.1 z p.1 List.mem_cons_self rfl
    show mergeK (putK kvs p.1 p.2) more = _
    rw [putK_fresh hn, merge_fresh more _ (by rw [← h1]; exact h), ← h1]
theorem tab_merge {aN aA aF aG : Addr} : mergeK [] (tabD aN aA aF aG) = tabD aN aA aF aG := by
  refine merge_fresh _ [] ?_
  show [kN, kA, kF, kG].Nodup
  decide +kernel
theorem txt_ne {H : Hp} {b p : Addr} {c : Int} {l : List Str} (hb : Bx H b c) (h : H p = some (.lst (l.map V.str))) : p ≠ b := fun z => by
  obtain ⟨x, y, e, _⟩ := hb
  rw [← z, h] at e
  cases l with
  | nil => cases e
  | cons _ _ => cases e
theorem refs_ne {α : Type} {H : Hp} {b p : Addr} {c : Int} {l : List (Addr × α)} (hb : Bx H b c) (h : H p = some (.lst (refs l))) : p ≠ b := fun z => by
  obtain ⟨x, y, e, _⟩ := hb
  rw [← z, h] at e
  cases l with
  | nil => cases e
  | cons _ _ => cases e
theorem ho_ne {H : Hp} {b p : Addr} {c : Int} {o : HO} (hb : Bx H b c) (h : H p = some o) (k : ∀ xs, o ≠ .lst xs) : p ≠ b := fun z => by
  obtain ⟨x, y, e, _⟩ := hb
  rw [← z, h] at e
  exact k _ (Option.some.inj e)
theorem getN {H : Hp} {T aN aA aF aG : Addr} (h : H T = some (.dK (tabD aN aA aF aG))) : DGet H T (.str "nodes") (some (.ref aN)) := by
  rw [← tabN (aN := aN) (aA := aA) (aF := aF) (aG := aG)]
  exact DGet.k (k := kN) h
theorem getA {H : Hp} {T aN aA aF aG : Addr} (h : H T = some (.dK (tabD aN aA aF aG))) : DGet H T (.str "arcs") (some (.ref aA)) := by
  rw [← tabA (aN := aN) (aA := aA) (aF := aF) (aG := aG)]
  exact DGet.k (k := kA) h
theorem getF {H : Hp} {T aN aA aF aG : Addr} (h : H T = some (.dK (tabD aN aA aF aG))) : DGet H T (.str "firsts") (some (.ref aF)) := by
  rw [← tabF (aN := aN) (aA := aA) (aF := aF) (aG := aG)]
  exact DGet.k (k := kF) h
theorem getG {H : Hp} {T aN aA aF aG : Addr} (h : H T = some (.dK (tabD aN aA aF aG))) : DGet H T (.str "tags") (some (.ref aG)) := by
  rw [← tabG (aN := aN) (aA := aA) (aF := aF) (aG := aG)]
  exact DGet.k (k := kG) h
theorem nd_len {α : Type} [DecidableEq α] : ∀ (l m : List α), l.Nodup → (∀ x ∈ l, x ∈ m) → l.length ≤ m.length
  | [], _, _, _ => Nat.zero_le _
  | x :: l, m, nd, h => by
    have hx : x ∈ m := h x List.mem_cons_self
    rw [List.nodup_cons] at nd
    have ih := nd_len l (m.erase x) nd.2 fun y hy => (List.mem_erase_of_ne (fun e => nd.1 (by rw [← e]; exact hy))).mpr (h y (List.mem_cons_of_mem _ hy))
    rw [List.length_erase_of_mem hx] at ih
    have := List.length_pos_of_mem hx
    rw [List.length_cons]
    omega
theorem choose_of {α β : Type} {f : α → β} {ks : List α} : ∀ {M : List β}, (∀ p ∈ M, p ∈ ks.map f) → ∃ ls : List α, M = ls.map f ∧ ∀ x ∈ ls, x ∈ ks
  | [], _ => ⟨[], rfl, fun x h => (by cases h)⟩
  | p :: M, h => by
    obtain ⟨ls, e, s⟩ := choose_of (M := M) fun q hq => h q (List.mem_cons_of_mem _ hq)
    obtain ⟨x, hx, ex⟩ := List.mem_map.mp (h p List.mem_cons_self)
    refine ⟨x :: ls, by rw [List.map_cons, ex, e], fun y hy => ?_⟩
    rcases List.mem_cons.mp hy with z | z
    · rw [z]; exact hx
    · exact s y z
theorem cutV4 (xs : List V) : cutV xs none (some 4) = xs.take 4 := by
  unfold cutV
  rw [HT.sIx_none, show HT.sIx xs.length xs.length (some 4) = min 4 xs.length from HT.sIx_nat xs.length xs.length 4, List.drop_zero, Nat.sub_zero]
  by_cases h : 4 ≤ xs.length
  · rw [Nat.min_eq_left h]
  · rw [Nat.min_eq_right (by omega), List.take_length, List.take_of_length_le (by omega)]
abbrev kP (x : Addr × (Str × Str)) : V × List Str := (.ref x.1, [x.2.1, x.2.2])
theorem kP1 (l : List (Addr × (Str × Str))) : (l.map kP).map (·.1) = refs l := by rw [List.map_map]; rfl
theorem kP2 (l : List (Addr × (Str × Str))) : (l.map kP).map (·.2) = (l.map (·.2)).map fun p => [p.1, p.2] := by rw [List.map_map, List.map_map]; rfl
abbrev kS (x : Str) : V × Str := (.str x, x)
theorem kS1 (l : List Str) : (l.map kS).map (·.1) = l.map V.str := by rw [List.map_map]; rfl
theorem kS2 (l : List Str) : (l.map kS).map (·.2) = l := by rw [List.map_map]; exact List.map_id l
theorem of_str {l : List Str} {v : V} (h : v ∈ l.map V.str) : ∃ x ∈ l, v = .str x := by
  obtain ⟨x, hx, e⟩ := List.mem_map.mp h
  exact ⟨x, hx, e.symm⟩
theorem str_at {l : List Str} {i : Nat} {v : V} (h : (l.map V.str)[i]? = some v) : ∃ x, l[i]? = some x ∧ v = .str x := by
  rw [List.getElem?_map] at h
  obtain ⟨x, h1, h2⟩ := Option.map_eq_some_iff.mp h
  exact ⟨x, h1, h2.symm⟩
theorem refs_app {α : Type} (a c : List (Addr × α)) : refs (a ++ c) = refs a ++ refs c := List.map_append
/-- the table in the midst of its making, behind i states -/
structure Mid (H0 H : Hp) (b T aN aA aF aG : Addr) (nodes : List Str) (i k : Nat) (as : List (Addr × (Str × Str))) (ts : List (Str × Addr × List Str)) : Prop where
  hT : H T = some (.dK (tabD aN aA aF aG))
  hN : H aN = some (.lst (nodes.map V.str))
  hA : H aA = some (.lst (refs as))
  eA : ∀ x ∈ as, H x.1 = some (.tup [.str x.2.1, .str x.2.2])
  uA : Up pd (as.map (·.2))
  iA : ∀ x ∈ as, x.2.1 ∈ nodes.take i ∧ x.2.2 ∈ nodes
  oA : ∀ n ∈ nodes.take i, ∃ x ∈ as, x.2.1 = n
  lA : as.length ≤ 3 * i
  hF : H aF = some (.lst [])
  hG : H aG = some (.dK (ts.map tagE))
  eG : ∀ x ∈ ts, H x.2.1 = some (.tup (x.2.2.map V.str))
  tG : ts.map (·.1) = nodes.take k
  mG : ∀ x ∈ ts, Up sd x.2.2 ∧ x.2.2.length ≤ 4 ∧ ∀ y ∈ x.2.2, isNm y
  kp : Kp b H0 H
  zT : H0 T = none
  zG : H0 aG = none
  ne : aG ≠ T
theorem Mid.keep {H0 H H' : Hp} {b T aN aA aF aG : Addr} {nodes : List Str} {i j : Nat} {as : List (Addr × (Str × Str))} {ts : List (Str × Addr × List Str)} {c : Int} (M : Mid H0 H b T aN aA aF aG nodes i j as ts) (hb : Bx H b c) (k : Kp b H H') : Mid H0 H' b T aN aA aF aG nodes i j as ts where
  hT := k _ _ (ho_ne hb M.hT fun xs e => nomatch e) M.hT
  hN := k _ _ (txt_ne hb M.hN) M.hN
  hA := k _ _ (refs_ne hb M.hA) M.hA
  eA := fun x hx => k _ _ (ho_ne hb (M.eA x hx) fun xs e => nomatch e) (M.eA x hx)
  uA := M.uA
  iA := M.iA
  oA := M.oA
  lA := M.lA
  hF := k _ _ (txt_ne (l := []) hb M.hF) M.hF
  hG := k _ _ (ho_ne hb M.hG fun xs e => nomatch e) M.hG
  eG := fun x hx => k _ _ (ho_ne hb (M.eG x hx) fun xs e => nomatch e) (M.eG x hx)
  tG := M.tG
  mG := M.mG
  kp := M.kp.trans k
  zT := M.zT
  zG := M.zG
  ne := M.ne
abbrev sTable : Stmt := topS 32
abbrev nTable : List Str := ["_law_box_here", "_law_nodes", "_law_marks", "_law_found", "_law_wide", "_law_node", "_law_arcs", "_law_tags", "_law_turn", "_law_mark"]
theorem scTable : FnScope nTable ["_law_box_here", "_law_nodes", "_law_marks"] (defScope sTable) := ⟨rfl, rfl, rfl, by decide +kernel, rfl, by decide +kernel, by decide +kernel⟩
section
variable {P : Program} {w : World} {K : PySem.W.Frag} {mg : Str → Option Value} {base : Heap}
def spTable (K : PySem.W.Frag) : Sp := fun vs H Q _ => ∃ (b p1 p2 : Addr) (c : Int) (ns ms : List Str), vs = [.ref b, .ref p1, .ref p2] ∧ Bx H b c ∧ 0 ≤ c ∧ c ≤ 8000000 ∧ H p1 = some (.lst (ns.map V.str)) ∧ H p2 = some (.lst (ms.map V.str)) ∧
  1 ≤ ns.length ∧ ns.length ≤ 8 ∧ ns.Nodup ∧ (∀ x ∈ ns, isNm x) ∧ ms.length ≤ 5 ∧ ms.Nodup ∧ (∀ x ∈ ms, isNm x) ∧
  ∀ T t aN aA aF aG as ts c' H', H T = none → TOk t → TabAt H' T t aN aA aF aG as ts → c ≤ c' → c' ≤ c + 120 → Bx H' b c' → Kp b H H' → Q (.ref T) H'
end
end Mr

/-! G -/
set_option Elab.async false
set_option linter.all false
set_option maxRecDepth 100000
set_option maxHeartbeats 2000000
namespace Mr
open PySem PySem.Spec PyProof.Rows L2 TL MrS RZ PySem.W
section
variable {P : Program} {w : World} {K : PySem.W.Frag} {mg : Str → Option Value} {base : Heap}
theorem hu64 {k : Nat} {A : Around} (hr : Room k A) : A.units + 64 < cLine := by have := hr.un; omega
theorem ok_table {f fT fO : Addr} {fd fdT fdO : FuncData} (F : Fun K "_law_table" "_law_table" sTable f fd) (FT : Fun K "_law_take" "_law_take" sTake fT fdT) (bT : Binds K fdT ["_law_box_here", "_law_size"] []) (mT : mg "_law_take" = some (.ref fT))
    (FO : Fun K "_law_of" "_law_of" sOf fO fdO) (bO : Binds K fdO ["_law_box_here", "_law_some"] []) (mO : mg "_law_of" = some (.ref fO))
    (ml : mg "len" = none) (mr : mg "range" = none) (ms : mg "sorted" = none) (mset : mg "set" = none) (mtu : mg "tuple" = none) : FnOk P w K mg base CX0 3 f fd ["_law_box_here", "_law_nodes", "_law_marks"] (spTable K) := by
  have GT : FnOk P w K mg base CX0 1 fT fdT ["_law_box_here", "_law_size"] spTake := ok_take FT
  have GO : FnOk P w K mg base CX0 2 fO fdO ["_law_box_here", "_law_some"] (spOf K) := ok_of FO FT bT mT ml
  refine F.ok scTable (fun vs H Q E h => ?_) (fun cdv A outer s H vs Q E hr h => ?_)
  · obtain ⟨b, p1, p2, c, ns, ms, rfl, _⟩ := h
    rfl
  · obtain ⟨b, p1, p2, c, ns, ms', rfl, hb, hc, hc2, hp1, hp2, n1, n8, nnd, nis, m5, mnd, mis, q⟩ := h
    have hu := hu_of hr
    have hr1 : Room 1 _ := hr.mono (by decide)
    refine ⟨_, pss_cons (ps_asg (pe_tup (pa_cons (pe_disp (pps_cons pe_str (pe_callB (cr_sortedV rfl (hu64 hr)) (by rfl) ms (by decide +kernel) (pa_cons (pv 1) pa_nil)) (pps_cons pe_str (pe_lst pa_nil) (pps_cons pe_str (pe_lst pa_nil) (pps_cons pe_str pe_dnewK pps_nil)))) (by rfl) (by rfl) (fun z => by cases z) (by decide))
          (pa_cons (pe_op op_add pe_int (pe_call GT hr1 (by rfl) mT FT.kp bT .nil pass0 (pa_cons (pv 0) (pa_cons pe_int pa_nil)))) pa_nil)))
        (pg_tup rfl (pgs_cons (pg_name (i := 3) scTable.nd rfl (.inr rfl)) (pgs_cons (pg_name (i := 4) scTable.nd rfl (.inl rfl)) pgs_nil))))
      (pss_cons (ps_for PassesOwn.never rfl (pi_list (pe_dget hu (pv 3) pe_str (fun _ _ => rfl))) (pg_name (i := 5) scTable.nd rfl (.inr rfl))
        (pss_cons (ps_setLc (i := 6) (own := [("_law_turn", 8)]) (g := gName 8) (tt := tYes) rfl scTable.nd rfl rfl (sw_true rfl rfl rfl (by decide +kernel))
            (pi_range1 rfl mr (pa_cons (pe_op op_add pe_int (pe_call GT hr1 (by rfl) mT FT.kp bT .nil pass0 (pa_cons (pv 0) (pa_cons (pv 4) pa_nil)))) pa_nil))
            (blkOk_by (own := [("_law_turn", 8)]) (N := nTable) (sc := defScope sTable) (by decide +kernel))
            (fun _ _ _ _ _ => pg_name (i := 8) scTable.nd rfl (.inl rfl)) (fun _ _ _ _ _ => pts_nil)
            (fun _ _ _ _ _ => pe_tup (pa_cons (pv 5) (pa_cons (pe_call GO hr (by rfl) mO FO.kp bO .nil pass0 (pa_cons (pv 0) (pa_cons (pe_dget hu (pv 3) pe_str (fun _ _ => rfl)) pa_nil))) pa_nil))))
        (pss_cons (ps_dput hu (pv 3) pe_str (pe_callB (cr_sortedV rfl (hu64 hr)) (by rfl) ms (by decide +kernel) (pa_cons (pe_callTy (cr_setOf keyed_tups rfl (hu64 hr)) (by rfl) mset (by decide +kernel) (pa_cons (pe_op op_cat (pe_dget hu (pv 3) pe_str (fun _ _ => rfl)) (pv 6)) pa_nil)) pa_nil)) rfl)
        (pss_cons (ps_set (i := 7) scTable.nd rfl (.inl rfl) (pe_callTy call_tuple_of (by rfl) mtu (by decide +kernel) (pa_cons (pe_callB (cr_sortedV rfl (hu64 hr)) (by rfl) ms (by decide +kernel) (pa_cons
            (pe_lc (own := [("_law_mark", 9)]) (g := gName 9) rfl scTable.nd (pi_list (pv 2)) (blkOk_by (own := [("_law_mark", 9)]) (N := nTable) (sc := defScope sTable) (by decide +kernel))
              (fun _ _ _ _ _ => pg_name (i := 9) scTable.nd rfl (.inl rfl)) (fun _ _ _ _ _ => pts_one (pt_cmpR op_eq (pe_call GT hr1 (by rfl) mT FT.kp bT .nil pass0 (pa_cons (pv 0) (pa_cons pe_int pa_nil))) pe_int (nomark _)))
              (fun _ _ _ _ _ => pv 9)) pa_nil)) pa_nil)))
        (pss_one (ps_expr (pe_bm PySem.F.plainAttrs_dict PySem.F.slot_dict_update PySem.F.type_dict_update mt_update (pe_dget hu (pv 3) pe_str (fun _ _ => rfl)) (pa_cons
            (pe_disp (pps_cons (pv 5) (pe_slice sl_tupA (pv 7) po_none (po_some pe_int)) pps_nil) (by rfl) (by rfl) (fun z => by cases z) (by decide)) pa_nil))))))))
      (pss_cons (ps_dput hu (pv 3) pe_str (pe_callB (cr_sortedV rfl (hu64 hr)) (by rfl) ms (by decide +kernel) (pa_cons (pe_callTy (cr_setOf keyed_texts rfl (hu64 hr)) (by rfl) mset (by decide +kernel) (pa_cons
            (pe_lc (own := [("_law_turn", 8)]) (g := gName 8) (tt := tYes) rfl scTable.nd (pi_range1 rfl mr (pa_cons (pe_op op_add pe_int (pe_call GT hr1 (by rfl) mT FT.kp bT .nil pass0 (pa_cons (pv 0) (pa_cons pe_int pa_nil)))) pa_nil))
              (blkOk_by (own := [("_law_turn", 8)]) (N := nTable) (sc := defScope sTable) (by decide +kernel))
              (fun _ _ _ _ _ => pg_name (i := 8) scTable.nd rfl (.inl rfl)) (fun _ _ _ _ _ => pts_nil)
              (fun _ _ _ _ _ => pe_call GO hr (by rfl) mO FO.kp bO .nil pass0 (pa_cons (pv 0) (pa_cons (pe_dget hu (pv 3) pe_str (fun _ _ => rfl)) pa_nil)))) pa_nil)) pa_nil)) rfl)
      (pss_one (ps_ret (pv 3))))), ?_⟩
    intro T hT
    have kp0 : Kp b H (upd H T (.dK [])) := Kp.new hT
    have hb0 : Bx (upd H T (.dK [])) b c := hb.new hT
    have eT0 : (upd H T (.dK [])) T = some (.dK []) := upd_same
    have nb1 : p1 ≠ b := txt_ne hb hp1
    have nb2 : p2 ≠ b := txt_ne hb hp2
    have hp1' := kp0 p1 _ nb1 hp1
    generalize upd H T (.dK []) = H0 at kp0 hb0 eT0 hp1' ⊢
    refine ⟨_, rfl, p1, ns.map sv, rfl, .inr ⟨SqL.of (by rw [sv1]; exact hp1'), by rw [List.length_map]; omega⟩, fun p hp => ?_, by rw [sv2]; exact alk_map alike_sd ns, by rw [sv2]; exact srt_sd ns, fun p hp => ?_, fun zs aN pz sz hN => ?_⟩
    · obtain ⟨x, _, rfl⟩ := List.mem_map.mp hp
      exact .str x
    · obtain ⟨x, _, rfl⟩ := List.mem_map.mp hp
      exact Nat.zero_le _
    obtain ⟨nodes, rfl, pn, nu⟩ := got_texts nnd pz sz
    rw [sv1]
    -- the three other things, the dict
    refine ⟨Nat.zero_le _, fun aA hA => ⟨Nat.zero_le _, fun aF hF aG hG => ?_⟩⟩
    have s1 := same_upd (o := .lst (nodes.map V.str)) hN
    have s2 := s1.trans (same_upd (o := .lst []) hA)
    have s3 := s2.trans (same_upd (o := .lst []) hF)
    have s4 := s3.trans (same_upd (o := .dK []) hG)
    have fN := (((same_upd (o := .lst []) hA).trans (same_upd (o := .lst []) hF)).trans (same_upd (o := .dK []) hG)) aN _ (upd_same (H := H0) (o := .lst (nodes.map V.str)))
    have fA := ((same_upd (o := .lst []) hF).trans (same_upd (o := .dK []) hG)) aA _ (upd_same (o := .lst []))
    have fF := (same_upd (o := .dK []) hG) aF _ (upd_same (o := .lst []))
    have fG : (upd _ aG (HO.dK [])) aG = some (.dK []) := upd_same (H := upd (upd (upd H0 aN (.lst (nodes.map V.str))) aA (.lst [])) aF (.lst []))
    have fT := s4 T _ eT0
    have kp1 : Kp b H _ := kp0.trans (Kp.same s4)
    have zG : H aG = none := (kp0.trans (Kp.same s3)).free (((hb0.new (o := .lst (nodes.map V.str)) hN).new (o := .lst []) hA).new (o := .lst []) hF) hG
    have nGT : aG ≠ T := fun z => by rw [z] at hG; rw [s3 T _ eT0] at hG; cases hG
    have hb1 := (((hb0.new (o := .lst (nodes.map V.str)) hN).new (o := .lst []) hA).new (o := .lst []) hF).new (o := .dK []) hG
    generalize upd (upd (upd (upd H0 aN (.lst (nodes.map V.str))) aA (.lst [])) aF (.lst [])) aG (.dK []) = H1 at fN fA fF fG fT kp1 hb1 ⊢
    clear s1 s2 s3 s4 hN hA hF hG
    refine ⟨fT, tabD aN aA aF aG, rfl, (by show 4 ≤ 15; decide), ?_⟩
    rw [tab_merge]
    have M0 : Mid H (upd H1 T (.dK (tabD aN aA aF aG))) b T aN aA aF aG nodes 0 0 [] [] := by
      have dN : aN ≠ T := ne_of fN fT (by intro z; cases z)
      have dA : aA ≠ T := ne_of fA fT (by intro z; cases z)
      have dF : aF ≠ T := ne_of fF fT (by intro z; cases z)
      refine ⟨upd_same, by rw [upd_ne dN]; exact fN, by rw [upd_ne dA]; exact fA, fun x hx => (by cases hx), List.Pairwise.nil, fun x hx => (by cases hx), fun n hn => (by simp at hn), Nat.zero_le _, by rw [upd_ne dF]; exact fF, by rw [upd_ne nGT]; exact fG, fun x hx => (by cases hx), rfl, fun x hx => (by cases hx), kp1.up hT, hT, zG, nGT⟩
    have hb2 : Bx (upd H1 T (.dK (tabD aN aA aF aG))) b c := hb1.up fun z => hb.ne hT z
    generalize upd H1 T (.dK (tabD aN aA aF aG)) = H2 at M0 hb2 ⊢
    refine ⟨_, rfl, b, 3, c, rfl, hb2, hc, by omega, by decide, by decide, fun r c1 H3 r0 r1 c1a c1b hb3 kp3 ke3 => ⟨_, _, rfl, rfl, ?_⟩⟩
    have M1 := M0.keep hb2 kp3
    refine ⟨(by show 2 ≤ sizeLine; decide), fun p hp => ⟨p, [.ref T, .int (1 + r)], rfl, SqT.of upd_same, rfl, .ref T, _, rfl, .int (1 + r), [], rfl, rfl, ?_⟩⟩
    have M2 := M1.keep hb3 (Kp.new (o := .tup [V.ref T, .int (1 + r)]) hp)
    have hb4 := hb3.new (o := .tup [V.ref T, .int (1 + r)]) hp
    generalize upd H3 p (.tup [V.ref T, .int (1 + r)]) = H4 at M2 hb4 ⊢
    -- for node in found['nodes']
    have nl : nodes.length = ns.length := pn.length_eq
    refine ⟨_, rfl, T, _, rfl, getN M2.hT, aN, rfl, ⟨_, SqL.of M2.hN⟩, for_list (K := K) (a := aN) (xs := nodes.map V.str) (fun i σ H5 => ∃ (y5 y6 y7 y8 y9 : Option V) (c5 : Int) (aA : Addr) (as : List (Addr × (Str × Str))) (ts : List (Str × Addr × List Str)),
        σ = [some (.ref b), some (.ref p1), some (.ref p2), some (.ref T), some (.int (1 + r)), y5, y6, y7, y8, y9] ∧ Mid H H5 b T aN aA aF aG nodes i i as ts ∧ Bx H5 b c5 ∧ c1 ≤ c5 ∧ c5 ≤ c1 + 12 * i)
      ⟨_, _, _, _, _, c1, aA, [], [], rfl, M2, hb4, Int.le_refl _, by omega⟩ (fun i σ H5 _ ⟨_, _, _, _, _, _, _, _, _, _, M, _⟩ => SqL.of M.hN) ?_ ?_⟩
    · rintro i x σ H5 hi ⟨y5, y6, y7, y8, y9, c5, aA, as, ts, rfl, M, hb5, c5a, c5b⟩
      obtain ⟨nd, hnd, rfl⟩ := str_at hi
      have il : i < nodes.length := (List.getElem?_eq_some_iff.mp hnd).1
      have tk : nodes.take (i + 1) = nodes.take i ++ [nd] := by rw [List.take_succ, hnd]; rfl
      -- arcs = [(node, ..) ..]
      refine ⟨_, rfl, _, rfl, b, 1 + r, c5, rfl, hb5, by omega, by omega, by omega, by omega, fun r2 c6 H6 r20 r21 c6a c6b hb6 kp6 ke6 => ⟨_, _, rfl, rfl, ?_⟩⟩
      have M6 := M.keep hb5 kp6
      refine ⟨1 + r2, rfl, by omega, by omega, fun D hD => lc_range (lo := 0) (n := (1 + r2).toNat) (fun j H7 => ∃ (l : List (Addr × (Str × Str))) (c7 : Int), H7 D = some (.lst (refs l)) ∧ l.length = j ∧ (∀ x ∈ l, H7 x.1 = some (.tup [.str x.2.1, .str x.2.2]) ∧ x.2.1 = nd ∧ x.2.2 ∈ nodes) ∧ Kp b H6 H7 ∧ Bx H7 b c7 ∧ c6 ≤ c7 ∧ c7 ≤ c6 + j)
        ⟨[], c6, upd_same, rfl, fun x hx => (by cases hx), Kp.new hD, hb6.new hD, Int.le_refl _, by omega⟩ ?_ ?_⟩
      · rintro j H7 hj ⟨l, c7, hl, el, al, kp7, hb7, c7a, c7b⟩
        have M7 := M6.keep hb6 kp7
        refine ⟨rfl, lcYes ?_⟩
        refine ⟨_, rfl, _, rfl, _, rfl, T, _, rfl, getN M7.hT, b, aN, nodes.map V.str, c7, rfl, hb7, .inl ⟨SqL.of M7.hN, txt_ne hb7 M7.hN⟩, (fun z => by
          rw [List.map_eq_nil_iff] at z
          rw [z] at il
          cases il), by rw [List.length_map]; omega, by omega, by omega, fun v c8 H8 hv c8a c8b hb8 kp8 ke8 => ?_⟩
        obtain ⟨m, hm, rfl⟩ := of_str hv
        refine ⟨(by show 2 ≤ sizeLine; decide), fun t ht => ?_⟩
        have kn := Kp.new (b := b) (o := .tup [V.str nd, V.str m]) ht
        have hDb : D ≠ b := refs_ne hb7 hl
        have e9 := kn _ _ hDb (kp8 _ _ hDb hl)
        have t9 : (upd H8 t (.tup [V.str nd, V.str m])) t = some (.tup [V.str nd, V.str m]) := upd_same
        have hb9 := hb8.new (o := .tup [V.str nd, V.str m]) ht
        have kp9 := (kp7.trans kp8).trans kn
        have al9 : ∀ x ∈ l, (upd H8 t (.tup [V.str nd, V.str m])) x.1 = some (.tup [.str x.2.1, .str x.2.2]) := fun x hx => by
          have z := (al x hx).1
          have n := ho_ne hb7 z (fun xs e => nomatch e)
          exact kn _ _ n (kp8 _ _ n z)
        generalize upd H8 t (.tup [V.str nd, V.str m]) = H9 at e9 t9 hb9 kp9 al9 ⊢
        refine ⟨_, e9, by rw [List.length_map]; exact Nat.lt_of_lt_of_le (show l.length < 100 by omega) (by decide), l ++ [(t, (nd, m))], c8, by rw [upd_same]; simp, by rw [List.length_append, el]; rfl, fun x hx => ?_, kp9.up hD, hb9.up fun z => hDb z.symm, by omega, by omega⟩
        rcases List.mem_append.mp hx with z | z
        · refine ⟨?_, (al x z).2⟩
          rw [upd_ne (ne_of (al9 x z) e9 (by intro q; cases q))]
          exact al9 x z
        · rw [List.mem_singleton.mp z]
          refine ⟨?_, rfl, hm⟩
          rw [upd_ne (ne_of t9 e9 (by intro q; cases q))]
          exact t9
      · rintro H7 ⟨l, c7, hl, el, al, kp7, hb7, c7a, c7b⟩
        have M7 := M6.keep hb6 kp7
        have hl1 : 1 ≤ l.length := by omega
        have hl3 : l.length ≤ 3 := by omega
        have small : ∀ {k : Nat}, k ≤ 1000 → k ≤ sizeLine := fun h => Nat.le_trans h (by decide)
        have la := M.lA
        -- found['arcs'] + arcs
        refine ⟨_, rfl, T, _, rfl, getA M7.hT, _, rfl, aA, D, refs as, refs l, rfl, rfl, M7.hA, hl, small (by rw [List.length_map, List.length_map]; omega), fun C hC => ?_⟩
        have kC := Kp.new (b := b) (o := .lst (refs as ++ refs l)) hC
        have M8 := M7.keep hb7 kC
        have hb8 := hb7.new (o := .lst (refs as ++ refs l)) hC
        have eC : (upd H7 C (.lst (refs as ++ refs l))) C = some (.lst (refs (as ++ l))) := upd_same.trans (congrArg (fun z => some (HO.lst z)) (refs_app as l).symm)
        have al8 : ∀ x ∈ as ++ l, (upd H7 C (.lst (refs as ++ refs l))) x.1 = some (.tup [.str x.2.1, .str x.2.2]) := fun x hx => by
          rcases List.mem_append.mp hx with z | z
          · exact M8.eA x z
          · exact kC _ _ (ho_ne hb7 (al x z).1 (fun xs e => nomatch e)) (al x z).1
        have kp8 := kp7.trans kC
        generalize upd H7 C (.lst (refs as ++ refs l)) = H8 at M8 hb8 eC al8 kp8 ⊢
        -- set(..)
        refine ⟨C, (as ++ l).map kP, rfl, SqL.of (by rw [kP1]; exact eC), fun p hp => ?_, by rw [List.length_map, List.length_append]; omega, fun S M' hS sub cover ndM => ?_⟩
        · obtain ⟨x, hx, rfl⟩ := List.mem_map.mp hp
          exact ⟨x.1, rfl, SqT.of (al8 x hx)⟩
        obtain ⟨ls, rfl, lsub⟩ := choose_of sub
        rw [kP1]
        have ndl : (ls.map (·.2)).Nodup := by
          rw [kP2] at ndM
          exact List.Pairwise.of_map _ (fun x y h e => h (by rw [e])) ndM
        have cov : ∀ x ∈ as ++ l, ∃ y ∈ ls, y.2 = x.2 := fun x hx => by
          have z := cover (kP x) (List.mem_map.mpr ⟨x, hx, rfl⟩)
          rw [kP2] at z
          obtain ⟨p, hp, ep⟩ := List.mem_map.mp z
          obtain ⟨y, hy, rfl⟩ := List.mem_map.mp hp
          refine ⟨y, hy, ?_⟩
          have e2 : [y.2.1, y.2.2] = [x.2.1, x.2.2] := ep
          injection e2 with e3 e4
          injection e4 with e5 _
          exact Prod.ext e3 e5
        generalize hH9 : upd H8 S _ = H9
        have eH9 : H9 = upd H8 S (SetV w S (refs ls)) := hH9.symm
        clear hH9
        have kS : Kp b H8 H9 := by rw [eH9]; exact Kp.new hS
        have M9 := M8.keep hb8 kS
        have hb9 : Bx H9 b c7 := by rw [eH9]; exact hb8.new hS
        have eS : H9 S = some (SetV w S (refs ls)) := by rw [eH9]; exact upd_same
        have al9 : ∀ x ∈ ls, H9 x.1 = some (.tup [.str x.2.1, .str x.2.2]) := fun x hx => by
          have z := al8 x (lsub x hx)
          exact kS _ _ (ho_ne hb8 z (fun xs e => nomatch e)) z
        have kp9 := kp8.trans kS
        clear eH9
        -- sorted(..)
        refine ⟨S, ls.map pv2, rfl, .inl (by rw [pv1']; exact eS), fun p hp => ?_, by rw [pv2']; exact alk_map alike_pd _, by rw [pv2']; exact srt_pd _, fun p hp => ?_, fun zs q1 pz sz hq1 => ?_⟩
        · obtain ⟨x, hx, rfl⟩ := List.mem_map.mp hp
          exact .tup (SqT.of (al9 x hx)) (.cons (.str _) (.cons (.str _) .nil))
        · obtain ⟨x, hx, rfl⟩ := List.mem_map.mp hp
          rw [depth_pd]
          decide
        obtain ⟨xs, rfl, pxs, uxs⟩ := got_pairs ndl pz sz
        rw [pv1']
        have kQ := Kp.new (b := b) (o := .lst (refs xs)) hq1
        have M10 := M9.keep hb9 kQ
        have hb10 := hb9.new (o := .lst (refs xs)) hq1
        have eQ : (upd H9 q1 (.lst (refs xs))) q1 = some (.lst (refs xs)) := upd_same
        have al10 : ∀ x ∈ xs, (upd H9 q1 (.lst (refs xs))) x.1 = some (.tup [.str x.2.1, .str x.2.2]) := fun x hx => by
          have z := al9 x (pxs.mem_iff.mp hx)
          exact kQ _ _ (ho_ne hb9 z (fun xs e => nomatch e)) z
        generalize upd H9 q1 (.lst (refs xs)) = H10 at M10 hb10 eQ al10 ⊢
        refine ⟨_, rfl, T, _, rfl, DPut.k (k := kA) M10.hT (by show 4 < sizeLine; decide), ?_⟩
        rw [putA]
        -- the table behind it
        have hTb : T ≠ b := ho_ne hb10 M10.hT (fun xs e => nomatch e)
        have others : ∀ z o, z ≠ T → H10 z = some o → (upd H10 T (.dK (tabD aN q1 aF aG))) z = some o := fun z o n e => by
          rw [upd_ne n]
          exact e
        have neT : ∀ z o, H10 z = some o → (∀ kvs, o ≠ .dK kvs) → z ≠ T := fun z o e n q => by
          rw [q, M10.hT] at e
          exact n _ (Option.some.inj e).symm
        have M11 : Mid H (upd H10 T (.dK (tabD aN q1 aF aG))) b T aN q1 aF aG nodes (i + 1) i xs ts := by
          refine ⟨upd_same, others _ _ (neT _ _ M10.hN (fun _ e => nomatch e)) M10.hN, others _ _ (neT _ _ eQ (fun _ e => nomatch e)) eQ, fun x hx => others _ _ (neT _ _ (al10 x hx) (fun _ e => nomatch e)) (al10 x hx), uxs, fun x hx => ?_, fun n hn => ?_, ?_, others _ _ (neT _ _ M10.hF (fun _ e => nomatch e)) M10.hF, others _ _ M10.ne M10.hG, fun x hx => others _ _ (neT _ _ (M10.eG x hx) (fun _ e => nomatch e)) (M10.eG x hx), M10.tG, M10.mG, M10.kp.up M10.zT, M10.zT, M10.zG, M10.ne⟩
          · have z := lsub x (pxs.mem_iff.mp hx)
            rw [tk]
            rcases List.mem_append.mp z with z | z
            · exact ⟨List.mem_append_left _ (M.iA x z).1, (M.iA x z).2⟩
            · exact ⟨List.mem_append_right _ (List.mem_singleton.mpr (al x z).2.1), (al x z).2.2⟩
          · have key : ∃ x ∈ as ++ l, x.2.1 = n := by
              rw [tk] at hn
              rcases List.mem_append.mp hn with z | z
              · obtain ⟨x, hx, e⟩ := M.oA n z
                exact ⟨x, List.mem_append_left _ hx, e⟩
              · obtain ⟨x, hx⟩ := List.exists_mem_of_length_pos (show 0 < l.length by omega)
                exact ⟨x, List.mem_append_right _ hx, by rw [(al x hx).2.1, List.mem_singleton.mp z]⟩
            obtain ⟨x, hx, e⟩ := key
            obtain ⟨y, hy, ey⟩ := cov x hx
            exact ⟨y, pxs.mem_iff.mpr hy, by rw [ey]; exact e⟩
          · have z := nd_len (ls.map (·.2)) ((as ++ l).map (·.2)) ndl fun p hp => by
              obtain ⟨x, hx, rfl⟩ := List.mem_map.mp hp
              exact List.mem_map.mpr ⟨x, lsub x hx, rfl⟩
            rw [List.length_map, List.length_map, List.length_append] at z
            rw [pxs.length_eq]
            omega
        have hb11 : Bx (upd H10 T (.dK (tabD aN q1 aF aG))) b c7 := hb10.up fun z => hTb z.symm
        generalize upd H10 T (.dK (tabD aN q1 aF aG)) = H11 at M11 hb11 ⊢
        -- tags = tuple(sorted(..))
        have p2a := M11.kp _ _ nb2 hp2
        refine ⟨_, rfl, p2, rfl, ⟨_, SqL.of p2a⟩, fun D2 hD2 => lc_list (K := K) (a := p2) (xs := ms'.map V.str) (fun j H12 => ∃ (l2 : List Str) (c8 : Int), H12 D2 = some (.lst (l2.map V.str)) ∧ l2.Sublist (ms'.take j) ∧ Kp b H11 H12 ∧ Bx H12 b c8 ∧ c7 ≤ c8 ∧ c8 ≤ c7 + j)
          ⟨[], c7, upd_same, List.nil_sublist _, Kp.new hD2, hb11.new hD2, Int.le_refl _, by omega⟩ (fun j H12 _ ⟨_, _, _, _, k12, _⟩ => SqL.of (k12 _ _ nb2 p2a)) ?_ ?_⟩
        · rintro j x H12 hj ⟨l2, c8, hl2, sl, k12, hb12, c8a, c8b⟩
          obtain ⟨mk, hmk, rfl⟩ := str_at hj
          have jl : j < ms'.length := (List.getElem?_eq_some_iff.mp hmk).1
          have tk2 : ms'.take (j + 1) = ms'.take j ++ [mk] := by rw [List.take_succ, hmk]; rfl
          have nD : D2 ≠ b := txt_ne hb12 hl2
          refine ⟨rfl, _, rfl, b, 2, c8, rfl, hb12, by omega, by omega, by decide, by decide, fun u c9 H13 u0 u1 c9a c9b hb13 k13 ke13 => ⟨rfl, _, rfl, ite2 (fun _ => ?_) (fun _ => ?_)⟩⟩
          · refine ⟨_, rfl, _, k13 _ _ nD hl2, by rw [List.length_map]; exact Nat.lt_of_lt_of_le (show l2.length < 100 by have := sl.length_le; rw [List.length_take] at this; omega) (by decide), l2 ++ [mk], c9, by rw [upd_same, List.map_append]; rfl, ?_, (k12.trans k13).up hD2, hb13.up fun z => nD z.symm, by omega, by omega⟩
            rw [tk2]
            exact List.Sublist.append sl (List.Sublist.refl _)
          · exact ⟨l2, c9, k13 _ _ nD hl2, by rw [tk2]; exact sl.trans (List.sublist_append_left _ _), k12.trans k13, hb13, by omega, by omega⟩
        · rintro H12 ⟨l2, c8, hl2, sl, k12, hb12, c8a, c8b⟩
          rw [List.length_map, List.take_length] at sl
          rw [List.length_map] at c8b
          have M12 := M11.keep hb11 k12
          have l25 := sl.length_le
          refine ⟨D2, l2.map sv, rfl, .inr ⟨SqL.of (by rw [sv1]; exact hl2), by rw [List.length_map]; omega⟩, fun p hp => ?_, by rw [sv2]; exact alk_map alike_sd _, by rw [sv2]; exact srt_sd _, fun p hp => ?_, fun zs2 q2 pz2 sz2 hq2 => ?_⟩
          · obtain ⟨x, _, rfl⟩ := List.mem_map.mp hp
            exact .str x
          · obtain ⟨x, _, rfl⟩ := List.mem_map.mp hp
            exact Nat.zero_le _
          obtain ⟨mks, rfl, pmk, umk⟩ := got_texts (sl.nodup mnd) pz2 sz2
          rw [sv1]
          have k14 := Kp.new (b := b) (o := .lst (mks.map V.str)) hq2
          have M14 := M12.keep hb12 k14
          have hb14 := hb12.new (o := .lst (mks.map V.str)) hq2
          have e14 : (upd H12 q2 (.lst (mks.map V.str))) q2 = some (.lst (mks.map V.str)) := upd_same
          generalize upd H12 q2 (.lst (mks.map V.str)) = H14 at M14 hb14 e14 ⊢
          refine ⟨q2, mks.map V.str, rfl, .inl ⟨SqL.of e14, fun tt htt => ?_⟩⟩
          have k15 := Kp.new (b := b) (o := .tup (mks.map V.str)) htt
          have M15 := M14.keep hb14 k15
          have hb15 := hb14.new (o := .tup (mks.map V.str)) htt
          have e15 : (upd H14 tt (.tup (mks.map V.str))) tt = some (.tup (mks.map V.str)) := upd_same
          generalize upd H14 tt (.tup (mks.map V.str)) = H15 at M15 hb15 e15 ⊢
          -- found['tags'].update({node: tags[:4]})
          refine ⟨_, rfl, T, _, rfl, getG M15.hT, .inr (.inr (.inl ⟨rfl, .inl ⟨_, M15.hG⟩⟩)), fun U hU => ?_⟩
          have k16 := Kp.new (b := b) (o := .dK []) hU
          have M16 := M15.keep hb15 k16
          have hb16 := hb15.new (o := .dK []) hU
          have e16 : (upd H15 U (.dK [])) U = some (.dK []) := upd_same
          have t16 := k16 _ _ (ho_ne hb15 e15 (fun _ e => nomatch e)) e15
          have nU : aG ≠ U := ne_of_none M15.hG hU
          generalize upd H15 U (.dK []) = H16 at M16 hb16 e16 t16 ⊢
          -- whichever tuple it is
          have last : ∀ (v : Addr) (mk4 : List Str) (H17 : Hp), Kp b H16 H17 → Bx H17 b c8 → H17 v = some (.tup (mk4.map V.str)) → Up sd mk4 → mk4.length ≤ 4 → (∀ y ∈ mk4, isNm y) →
              Mid H (upd (upd H17 U (.dK [(.inr nd, .ref v)])) aG (.dK (mergeK (ts.map tagE) [(.inr nd, .ref v)]))) b T aN q1 aF aG nodes (i + 1) (i + 1) xs (ts ++ [(nd, v, mk4)]) ∧ Bx (upd (upd H17 U (.dK [(.inr nd, .ref v)])) aG (.dK (mergeK (ts.map tagE) [(.inr nd, .ref v)]))) b c8 := by
            intro v mk4 H17 k17 hb17 ev um lm im
            have M17 := M16.keep hb16 k17
            have zU : H U = none := (M15.kp).free hb15 hU
            have eU17 := k17 _ _ (ho_ne hb16 e16 (fun _ e => nomatch e)) e16
            have nTU : T ≠ U := ne_of_none M15.hT hU
            have ntk : (nodes.take (i + 1)).Nodup := (Up.sub nu (List.take_sublist _ _)).nodup
            have em : mergeK (ts.map tagE) [(.inr nd, .ref v)] = (ts ++ [(nd, v, mk4)]).map tagE := by
              rw [merge_fresh]
              · rw [List.map_append]; rfl
              · rw [List.map_append, List.map_map]
                show (ts.map (fun x : Str × Addr × List Str => (Sum.inr x.1 : Key)) ++ [Sum.inr nd]).Nodup
                have e1 : ts.map (fun x : Str × Addr × List Str => (Sum.inr x.1 : Key)) = (nodes.take i).map Sum.inr := by
                  rw [← M17.tG, List.map_map]; rfl
                rw [e1, show [(Sum.inr nd : Key)] = [nd].map Sum.inr from rfl, ← List.map_append, ← tk]
                exact List.pairwise_map.mpr (ntk.imp fun h e => h (Sum.inr.inj e))
            have oth : ∀ z o, H17 z = some o → z ≠ U → z ≠ aG → (upd (upd H17 U (.dK [(.inr nd, .ref v)])) aG (.dK (mergeK (ts.map tagE) [(.inr nd, .ref v)]))) z = some o := fun z o e n1 n2 => by
              rw [upd_ne n2, upd_ne n1]; exact e
            have nd1 : ∀ z o, H17 z = some o → (∀ kvs, o ≠ .dK kvs) → z ≠ U := fun z o e n q => by
              rw [q, eU17] at e; exact n _ (Option.some.inj e).symm
            have nd2 : ∀ z o, H17 z = some o → (∀ kvs, o ≠ .dK kvs) → z ≠ aG := fun z o e n q => by
              rw [q, M17.hG] at e; exact n _ (Option.some.inj e).symm
            have oo : ∀ z o, H17 z = some o → (∀ kvs, o ≠ .dK kvs) → (upd (upd H17 U (.dK [(.inr nd, .ref v)])) aG (.dK (mergeK (ts.map tagE) [(.inr nd, .ref v)]))) z = some o := fun z o e n => oth z o e (nd1 z o e n) (nd2 z o e n)
            refine ⟨⟨oth _ _ M17.hT nTU M17.ne.symm, oo _ _ M17.hN (fun _ e => nomatch e), oo _ _ M17.hA (fun _ e => nomatch e), fun x hx => oo _ _ (M17.eA x hx) (fun _ e => nomatch e), M17.uA, M17.iA, M17.oA, M17.lA, oo _ _ M17.hF (fun _ e => nomatch e), by rw [upd_same, em], fun x hx => ?_, ?_, fun x hx => ?_, (M17.kp.up zU).up M17.zG, M17.zT, M17.zG, M17.ne⟩, (hb17.up fun z => ?_).up fun z => ?_⟩
            · rcases List.mem_append.mp hx with z | z
              · exact oo _ _ (M17.eG x z) (fun _ e => nomatch e)
              · rw [List.mem_singleton.mp z]
                exact oo _ _ ev (fun _ e => nomatch e)
            · rw [List.map_append, M17.tG, tk]; rfl
            · rcases List.mem_append.mp hx with z | z
              · exact M17.mG x z
              · rw [List.mem_singleton.mp z]
                exact ⟨um, lm, im⟩
            · exact hb15.ne hU z
            · exact ho_ne hb17 M17.hG (fun _ e => nomatch e) z.symm
          have tsl : ts.length ≤ 8 := by
            have z := congrArg List.length M.tG
            rw [List.length_map, List.length_take] at z
            omega
          have mks5 : mks.length ≤ 5 := by rw [pmk.length_eq]; omega
          have mkis : ∀ y ∈ mks, isNm y := fun y hy => mis y (sl.subset (pmk.mem_iff.mp hy))
          refine ⟨_, rfl, _, rfl, 4, rfl, tt, mks.map V.str, rfl, SqT.of t16, fun wh => ?_, fun nwh pp hpp => ?_⟩
          · have l4 : mks.length ≤ 4 := by
              have z := wh.2
              rw [show HT.sIx (mks.map V.str).length (mks.map V.str).length (some 4) = min 4 (mks.map V.str).length from HT.sIx_nat _ _ 4, List.length_map] at z
              omega
            obtain ⟨Mf, bf⟩ := last tt mks H16 Kp.refl hb16 t16 umk l4 mkis
            refine ⟨e16, [(.inr nd, .ref tt)], rfl, (by show 1 ≤ 15; decide), aG, U, ts.map tagE, [(.inr nd, .ref tt)], rfl, rfl, nU, by rw [upd_ne nU]; exact M16.hG, upd_same, small (by rw [List.length_map]; show _ + 1 ≤ 1000; omega), ?_⟩
            exact ⟨_, _, _, _, _, c8, q1, xs, _, rfl, Mf, bf, by omega, by omega⟩
          · rw [cutV4, ← List.map_take]
            have k17 := Kp.new (b := b) (o := .tup ((mks.take 4).map V.str)) hpp
            have hb17 := hb16.new (o := .tup ((mks.take 4).map V.str)) hpp
            have e17 : (upd H16 pp (.tup ((mks.take 4).map V.str))) pp = some (.tup ((mks.take 4).map V.str)) := upd_same
            have M17 := M16.keep hb16 k17
            have eU := k17 _ _ (ho_ne hb16 e16 (fun _ e => nomatch e)) e16
            obtain ⟨Mf, bf⟩ := last pp (mks.take 4) _ k17 hb17 e17 (Up.sub umk (List.take_sublist _ _)) (by rw [List.length_take]; omega) (fun y hy => mkis y (List.mem_of_mem_take hy))
            generalize upd H16 pp (.tup ((mks.take 4).map V.str)) = H17 at hb17 e17 M17 eU Mf bf ⊢
            refine ⟨eU, [(.inr nd, .ref pp)], rfl, (by show 1 ≤ 15; decide), aG, U, ts.map tagE, [(.inr nd, .ref pp)], rfl, rfl, nU, by rw [upd_ne nU]; exact M17.hG, upd_same, small (by rw [List.length_map]; show _ + 1 ≤ 1000; omega), ?_⟩
            exact ⟨_, _, _, _, _, c8, q1, xs, _, rfl, Mf, bf, by omega, by omega⟩
    · rintro σ H5 ⟨y5, y6, y7, y8, y9, c5, aA, as, ts, rfl, M, hb5, c5a, c5b⟩
      rw [List.length_map] at M c5b
      have full : nodes.take nodes.length = nodes := List.take_length
      -- found['firsts']
      refine ⟨_, rfl, b, 3, c5, rfl, hb5, by omega, by omega, by decide, by decide, fun r2 c6 H6 r20 r21 c6a c6b hb6 kp6 ke6 => ⟨_, _, rfl, rfl, ?_⟩⟩
      have M6 := M.keep hb5 kp6
      refine ⟨1 + r2, rfl, by omega, by omega, fun D hD => lc_range (lo := 0) (n := (1 + r2).toNat) (fun j H7 => ∃ (l : List Str) (c7 : Int), H7 D = some (.lst (l.map V.str)) ∧ l.length = j ∧ (∀ x ∈ l, x ∈ nodes) ∧ Kp b H6 H7 ∧ Bx H7 b c7 ∧ c6 ≤ c7 ∧ c7 ≤ c6 + j)
        ⟨[], c6, upd_same, rfl, fun x hx => (by cases hx), Kp.new hD, hb6.new hD, Int.le_refl _, by omega⟩ ?_ ?_⟩
      · rintro j H7 hj ⟨l, c7, hl, el, al, kp7, hb7, c7a, c7b⟩
        have M7 := M6.keep hb6 kp7
        have nD : D ≠ b := txt_ne hb7 hl
        refine ⟨rfl, lcYes ?_⟩
        refine ⟨_, rfl, _, rfl, T, _, rfl, getN M7.hT, b, aN, nodes.map V.str, c7, rfl, hb7, .inl ⟨SqL.of M7.hN, txt_ne hb7 M7.hN⟩, (fun z => by
          rw [List.map_eq_nil_iff] at z
          rw [z] at nl
          simp at nl
          omega), by rw [List.length_map]; omega, by omega, by omega, fun v c8 H8 hv c8a c8b hb8 kp8 ke8 => ?_⟩
        obtain ⟨m, hm, rfl⟩ := of_str hv
        refine ⟨_, kp8 _ _ nD hl, by rw [List.length_map]; exact Nat.lt_of_lt_of_le (show l.length < 100 by omega) (by decide), l ++ [m], c8, by rw [upd_same, List.map_append]; rfl, by rw [List.length_append, el]; rfl, fun x hx => ?_, (kp7.trans kp8).up hD, hb8.up fun z => nD z.symm, by omega, by omega⟩
        rcases List.mem_append.mp hx with z | z
        · exact al x z
        · rw [List.mem_singleton.mp z]; exact hm
      · rintro H7 ⟨l, c7, hl, el, al, kp7, hb7, c7a, c7b⟩
        have M7 := M6.keep hb6 kp7
        -- set(..), sorted(..)
        refine ⟨D, l.map kS, rfl, SqL.of (by rw [kS1]; exact hl), fun p hp => ?_, by rw [List.length_map]; omega, fun S M' hS sub cover ndM => ?_⟩
        · obtain ⟨x, _, rfl⟩ := List.mem_map.mp hp
          rfl
        obtain ⟨ls, rfl, lsub⟩ := choose_of sub
        rw [kS1]
        rw [kS2] at cover ndM
        generalize hH9 : upd H7 S _ = H9
        have eH9 : H9 = upd H7 S (SetV w S (ls.map V.str)) := hH9.symm
        clear hH9
        have kS' : Kp b H7 H9 := by rw [eH9]; exact Kp.new hS
        have M9 := M7.keep hb7 kS'
        have hb9 : Bx H9 b c7 := by rw [eH9]; exact hb7.new hS
        have eS : H9 S = some (SetV w S (ls.map V.str)) := by rw [eH9]; exact upd_same
        clear eH9
        refine ⟨S, ls.map sv, rfl, .inl (by rw [sv1]; exact eS), fun p hp => ?_, by rw [sv2]; exact alk_map alike_sd _, by rw [sv2]; exact srt_sd _, fun p hp => ?_, fun zs q1 pz sz hq1 => ?_⟩
        · obtain ⟨x, hx, rfl⟩ := List.mem_map.mp hp
          exact .str x
        · obtain ⟨x, hx, rfl⟩ := List.mem_map.mp hp
          exact Nat.zero_le _
        obtain ⟨fs, rfl, pfs, ufs⟩ := got_texts ndM pz sz
        rw [sv1]
        have kQ := Kp.new (b := b) (o := .lst (fs.map V.str)) hq1
        have M10 := M9.keep hb9 kQ
        have hb10 := hb9.new (o := .lst (fs.map V.str)) hq1
        have eQ : (upd H9 q1 (.lst (fs.map V.str))) q1 = some (.lst (fs.map V.str)) := upd_same
        generalize upd H9 q1 (.lst (fs.map V.str)) = H10 at M10 hb10 eQ ⊢
        refine ⟨_, rfl, T, _, rfl, DPut.k (k := kF) M10.hT (by show 4 < sizeLine; decide), ?_⟩
        rw [putFi]
        have others : ∀ z o, z ≠ T → H10 z = some o → (upd H10 T (.dK (tabD aN aA q1 aG))) z = some o := fun z o n e => by
          rw [upd_ne n]
          exact e
        have neT : ∀ z o, H10 z = some o → (∀ kvs, o ≠ .dK kvs) → z ≠ T := fun z o e n q => by
          rw [q, M10.hT] at e
          exact n _ (Option.some.inj e).symm
        have tA := M10.tG
        have iA := M10.iA
        have oA := M10.oA
        rw [full] at tA oA
        simp only [full] at iA
        refine ⟨_, rfl, q T ⟨nodes, as.map (·.2), fs, ts.map fun x => (x.1, x.2.2)⟩ aN aA q1 aG as ts c7 _ hT ?_ ⟨upd_same, others _ _ (neT _ _ M10.hN (fun _ e => nomatch e)) M10.hN, others _ _ (neT _ _ M10.hA (fun _ e => nomatch e)) M10.hA, fun x hx => others _ _ (neT _ _ (M10.eA x hx) (fun _ e => nomatch e)) (M10.eA x hx), rfl, others _ _ (neT _ _ eQ (fun _ e => nomatch e)) eQ, others _ _ M10.ne M10.hG, fun x hx => others _ _ (neT _ _ (M10.eG x hx) (fun _ e => nomatch e)) (M10.eG x hx), rfl⟩ (by omega) (by omega) (hb10.up fun z => ho_ne hb10 M10.hT (fun _ e => nomatch e) z.symm) (M10.kp.up hT)⟩
        have lA := M10.lA
        refine ⟨by show 1 ≤ nodes.length; omega, by show nodes.length ≤ 8; omega, fun x hx => nis x (pn.mem_iff.mp hx), nu, by show (as.map (·.2)).length ≤ 24; rw [List.length_map]; omega, fun p hp => ?_, fun x hx => ?_, M10.uA, fun z => ?_, fun x hx => al x (lsub x (pfs.mem_iff.mp hx)), ufs, by show (ts.map fun x => (x.1, x.2.2)).map (·.1) = nodes; rw [List.map_map]; exact tA, fun p hp => ?_⟩
        · obtain ⟨x, hx, rfl⟩ := List.mem_map.mp hp
          exact iA x hx
        · obtain ⟨y, hy, e⟩ := oA x hx
          exact ⟨y.2, List.mem_map.mpr ⟨y, hy, rfl⟩, e⟩
        · have z' : fs = [] := z
          rw [z'] at pfs
          have z2 := List.nil_perm.mp pfs
          obtain ⟨x, hx⟩ := List.exists_mem_of_length_pos (show 0 < l.length by omega)
          have z3 := cover (kS x) (List.mem_map.mpr ⟨x, hx, rfl⟩)
          rw [z2] at z3
          cases z3
        · obtain ⟨x, hx, rfl⟩ := List.mem_map.mp hp
          exact M10.mG x hx
end
end Mr

/-! H -/
set_option Elab.async false
set_option linter.all false
set_option maxRecDepth 100000
set_option maxHeartbeats 2000000
namespace Mr
open PySem PySem.Spec PyProof.Rows L2 TL MrS RZ PySem.W
abbrev sIsName : Stmt := topS 13
abbrev sIsPair : Stmt := topS 14
abbrev sIsRising : Stmt := topS 15
abbrev sIsNames : Stmt := topS 16
theorem scIsName : FnScope ["thing", "letter"] ["thing"] (defScope sIsName) := ⟨rfl, rfl, rfl, by decide +kernel, rfl, by decide +kernel, by decide +kernel⟩
theorem scIsPair : FnScope ["thing"] ["thing"] (defScope sIsPair) := ⟨rfl, rfl, rfl, by decide +kernel, rfl, by decide +kernel, by decide +kernel⟩
theorem scIsRising : FnScope ["things", "one", "other"] ["things"] (defScope sIsRising) := ⟨rfl, rfl, rfl, by decide +kernel, rfl, by decide +kernel, by decide +kernel⟩
theorem scIsNames : FnScope ["thing", "most", "one"] ["thing", "most"] (defScope sIsNames) := ⟨rfl, rfl, rfl, by decide +kernel, rfl, by decide +kernel, by decide +kernel⟩
section
variable {P : Program} {w : World} {K : PySem.W.Frag} {mg : Str → Option Value} {base : Heap}
def spIsName : Sp := fun vs H Q _ => ∃ x : Str, vs = [.str x] ∧ isNm x ∧ ∀ H', Same H H' → Q (.bl true) H'
theorem low_le {c : Nat} (h : Low c) : (!decide ((⟨#[c]⟩ : Str).cps.toList < (Str.ofString "a").cps.toList)) = true ∧ (!decide ((Str.ofString "z").cps.toList < (⟨#[c]⟩ : Str).cps.toList)) = true := by
  have ea : (Str.ofString "a").cps.toList = [97] := by decide +kernel
  have ez : (Str.ofString "z").cps.toList = [122] := by decide +kernel
  have ec : (⟨#[c]⟩ : Str).cps.toList = [c] := rfl
  rw [ea, ez, ec]
  obtain ⟨h1, h2⟩ := h
  constructor
  · rw [Bool.not_eq_true', decide_eq_false_iff_not]
    intro z
    rcases List.cons_lt_cons_iff.mp z with z | ⟨_, z⟩
    · omega
    · cases z
  · rw [Bool.not_eq_true', decide_eq_false_iff_not]
    intro z
    rcases List.cons_lt_cons_iff.mp z with z | ⟨_, z⟩
    · omega
    · cases z
theorem ok_isName {f : Addr} {fd : FuncData} {k : Nat} {t : Tok} (F : Fun K "is_name" "is_name" sIsName f fd) (mi : mg "isinstance" = none) (ml : mg "len" = none) (ma : mg "all" = none) (ms : mg "str" = none) (mL : mg "LETTERS" = some (.int 8 t)) :
    FnOk P w K mg base CX0 (k + 1) f fd ["thing"] spIsName := by
  refine F.ok scIsName (fun vs H Q E h => ?_) (fun cdv A outer s H vs Q E hr h => ?_)
  · obtain ⟨x, rfl, _⟩ := h
    rfl
  · obtain ⟨x, rfl, ⟨n1, n2, n3⟩, q⟩ := h
    refine ⟨_, pss_one (ps_ret (pe_and (pe_callB call_isi (by rfl) mi (by decide +kernel) (pa_cons (pv 0) (pa_cons (pe_bltn (v := .ty "str") (by rfl) ms (by decide +kernel) rfl) pa_nil)))
      (pe_and (pe_chain op_le op_le pe_int (pe_callB call_len_str (by rfl) ml PySem.boot_len (pa_cons (pv 0) pa_nil)) (pe_glob (v := .int 8) rfl mL ⟨_, rfl⟩))
      (pe_one (pe_callB (cr_all rfl) (by rfl) ma (by decide +kernel) (pa_cons (pe_lc (own := [("letter", 1)]) (g := gName 1) (tt := tYes) rfl scIsName.nd (pi_str (pv 0)) (blkOk_by (own := [("letter", 1)]) (N := ["thing", "letter"]) (sc := defScope sIsName) (by decide +kernel))
        (fun _ _ _ _ _ => pg_name (i := 1) scIsName.nd rfl (.inl rfl)) (fun _ _ _ _ _ => pts_nil)
        (fun _ _ _ _ _ => pe_chain op_le_str op_le_str pe_str (pv 1) pe_str)) pa_nil)))))), ?_⟩
    have lx := len_tl x
    have n2' : x.cps.toList.length ≤ 8 := n2
    refine ⟨_, rfl, _, _, .type "str", .type "str", true, rfl, .ty _, .base (.str x), kit_ty (by decide +kernel), _, rfl, iteT ?_⟩
    refine ⟨_, rfl, x, rfl, Nat.le_trans (show x.length ≤ 8 by omega) (by decide), _, _, rfl, rfl, _, rfl, ite2 (fun _ => ?_) (fun z => absurd (decide_eq_true (show (1 : Int) ≤ (x.length : Int) by omega)) z)⟩
    refine ⟨_, _, rfl, rfl, _, rfl, ite2 (fun _ => ?_) (fun z => absurd (decide_eq_true (show (x.length : Int) ≤ 8 by omega)) z)⟩
    refine ⟨_, rfl, x, rfl, fun D hD => lc_it walk_str (fun i H4 => Same H H4 ∧ H4 D = some (.lst (List.replicate i (.bl true)))) ⟨same_upd hD, upd_same⟩ (fun _ _ _ _ => trivial) ?_ ?_⟩
    · rintro i y H4 H5 hi ⟨s4, e4⟩ ⟨rfl, c, hc, rfl⟩
      have hc2 : Low c := n3 c (by rw [← Array.getElem?_toList] at hc; exact List.mem_of_getElem? hc)
      obtain ⟨l1, l2⟩ := low_le hc2
      refine ⟨rfl, lcYes ?_⟩
      refine ⟨_, rfl, _, _, rfl, rfl, _, rfl, ?_⟩
      rw [l1]
      refine iteT ⟨_, _, rfl, rfl, ?_⟩
      rw [l2]
      refine ⟨_, e4, by rw [List.length_replicate]; exact Nat.lt_of_lt_of_le (show i < 100 by rw [← Array.length_toList] at hi; omega) (by decide), fun b o e => ?_, ?_⟩
      · rw [upd_ne (ne_of_none e hD)]
        exact s4 _ _ e
      · rw [upd_same, List.replicate_succ']
    · rintro H4 ⟨s4, e4⟩
      refine ⟨D, List.replicate x.cps.size true, rfl, SqL.of (by rw [List.map_replicate]; exact e4), ?_⟩
      have ea : (List.replicate x.cps.size true).all id = true := by simp
      rw [ea]
      exact q _ s4
theorem seqT {K : PySem.W.Frag} {H H' : Hp} {a : Addr} {xs : List V} (s : Same H H') (h : SqT K H a xs) : SqT K H' a xs := tseq s h
theorem seqL {K : PySem.W.Frag} {H H' : Hp} {a : Addr} {xs : List V} (s : Same H H') (h : SqL K H a xs) : SqL K H' a xs := s.seq h
def spIsPair : Sp := fun vs H Q _ => ∃ (a : Addr) (x y : V), vs = [.ref a] ∧ H a = some (.tup [x, y]) ∧ Q (.bl true) H
theorem ok_isPair {f : Addr} {fd : FuncData} {k : Nat} (F : Fun K "is_pair" "is_pair" sIsPair f fd) (mi : mg "isinstance" = none) (ml : mg "len" = none) (mt : mg "tuple" = none) :
    FnOk P w K mg base CX0 (k + 1) f fd ["thing"] spIsPair := by
  refine F.ok scIsPair (fun vs H Q E h => ?_) (fun cdv A outer s H vs Q E hr h => ?_)
  · obtain ⟨a, x, y, rfl, _⟩ := h
    rfl
  · obtain ⟨a, x, y, rfl, ha, q⟩ := h
    refine ⟨_, pss_one (ps_ret (pe_and (pe_callB call_isi (by rfl) mi (by decide +kernel) (pa_cons (pv 0) (pa_cons (pe_bltn (v := .ty "tuple") (by rfl) mt (by decide +kernel) rfl) pa_nil)))
      (pe_one (pe_cmpR op_eq (pe_callB call_len_seq (by rfl) ml PySem.boot_len (pa_cons (pv 0) pa_nil)) pe_int (nomark _))))), ?_⟩
    exact ⟨_, rfl, _, _, .type "tuple", .type "tuple", true, rfl, .ty _, .base (.tup ha), kit_ty (by decide +kernel), _, rfl, iteT ⟨_, rfl, a, [x, y], rfl, .inr (SqT.of ha), rfl, q⟩⟩
theorem op_ltK {X : Cx} (K : PySem.W.Frag) (hu : X.A.units + 64 < cLine) (h : X.K = K := by rfl) : OpR X (compareOp .Lt) (rLtD K) := by
  subst h
  exact op_ltD hu
theorem op_inK {X : Cx} (K : PySem.W.Frag) (h : X.K = K := by rfl) : OpR X (compareOp .In) (rIn K false) := by
  subst h
  exact op_in_seq
theorem op_ninK {X : Cx} (K : PySem.W.Frag) (h : X.K = K := by rfl) : OpR X (compareOp .NotIn) (rIn K true) := by
  subst h
  exact op_notIn_seq
theorem ix_tupK {X : Cx} (K : PySem.W.Frag) (h : X.K = K := by rfl) : IxR X (rIxT K) := by
  subst h
  exact ix_tup
theorem ix_listK {X : Cx} (K : PySem.W.Frag) (h : X.K = K := by rfl) : IxR X (rIxL K) := by
  subst h
  exact ix_list
def sl_both {X : Cx} : SlR X (fun x lo hi H Q => rSlA X.K x lo hi H Q ∨ rSlL X.K x lo hi H Q) := by
  intro pins s σ H x v vl vu lo hi sl Q I rx hs pl pu h
  rcases h with h | h
  · exact sl_tupA pins s σ H x v vl vu lo hi sl Q I rx hs pl pu h
  · exact sl_list pins s σ H x v vl vu lo hi sl Q I rx hs pl pu h
theorem cutV1 (xs : List V) : cutV xs (some 1) none = xs.drop 1 := by
  unfold cutV
  rw [HT.sIx_none, show HT.sIx xs.length 0 (some 1) = min 1 xs.length from HT.sIx_nat xs.length 0 1]
  cases xs with
  | nil => rfl
  | cons x r =>
    rw [show min 1 (x :: r).length = 1 by rw [List.length_cons]; omega]
    exact List.take_of_length_le (by rw [List.length_drop]; exact Nat.le_refl _)
/-- each is less than the one behind it -/
def Steps (ds : List PyData) : Prop := ∀ (i : Nat) (x y : PyData), ds[i]? = some x → ds[i + 1]? = some y → alike x y = true ∧ dataLt x y = true ∧ x ≠ .none ∧ x.depth ≤ 20
theorem steps_up {α : Type} {enc : α → PyData} (al : ∀ x y, alike (enc x) (enc y) = true) (nn : ∀ x, enc x ≠ .none) (dp : ∀ x, (enc x).depth ≤ 20) {l : List α} (u : Up enc l) : Steps (l.map enc) := by
  intro i x y hx hy
  rw [List.getElem?_map] at hx hy
  obtain ⟨a, ha, rfl⟩ := Option.map_eq_some_iff.mp hx
  obtain ⟨b, hb, rfl⟩ := Option.map_eq_some_iff.mp hy
  obtain ⟨ia, ea⟩ := List.getElem?_eq_some_iff.mp ha
  obtain ⟨ib, eb⟩ := List.getElem?_eq_some_iff.mp hb
  have z := List.pairwise_iff_getElem.mp u i (i + 1) ia ib (Nat.lt_succ_self i)
  rw [ea, eb] at z
  exact ⟨al a b, z, nn a, dp a⟩
def spIsRising (K : PySem.W.Frag) : Sp := fun vs H Q _ => ∃ (a : Addr) (xs : List V) (ds : List PyData), vs = [.ref a] ∧ (SqT K H a xs ∨ SqL K H a xs) ∧ DpAll K H xs ds ∧ xs.length ≤ 1000 ∧ Steps ds ∧ ∀ H', Same H H' → Q (.bl true) H'
theorem ok_isRising {f : Addr} {fd : FuncData} {k : Nat} (F : Fun K "is_rising" "is_rising" sIsRising f fd) (mz : mg "zip" = none) (ma : mg "all" = none) :
    FnOk P w K mg base CX0 (k + 1) f fd ["things"] (spIsRising K) := by
  refine F.ok scIsRising (fun vs H Q E h => ?_) (fun cdv A outer s H vs Q E hr h => ?_)
  · obtain ⟨a, xs, ds, rfl, _⟩ := h
    rfl
  · obtain ⟨a, xs, ds, rfl, hS, hd, few, st, q⟩ := h
    refine ⟨_, pss_one (ps_ret (pe_callB (cr_all rfl) (by rfl) ma (by decide +kernel) (pa_cons (pe_lc (own := [("one", 1), ("other", 2)]) (g := gTup K 2 (gCons (gName 1) (gCons (gName 2) gNil))) (tt := tYes) rfl scIsRising.nd
      (pi_zipA (by rfl) mz (pa_cons (pv 0) (pa_cons (pe_slice sl_both (pv 0) (po_some pe_int) po_none) pa_nil)))
      (blkOk_by (own := [("one", 1), ("other", 2)]) (N := ["things", "one", "other"]) (sc := defScope sIsRising) (by decide +kernel))
      (fun _ _ _ _ _ => pg_tup rfl (pgs_cons (pg_name (i := 1) scIsRising.nd rfl (.inl rfl)) (pgs_cons (pg_name (i := 2) scIsRising.nd rfl (.inl rfl)) pgs_nil))) (fun _ _ _ _ _ => pts_nil)
      (fun _ _ _ _ _ => pe_cmpR (op_ltK K (hu64 hr)) (pv 1) (pv 2) (nomark _))) pa_nil))), ?_⟩
    have l1 := dpa_len hd
    -- the walk, whichever kind
    have turn : ∀ (D : Addr) (H1 : Hp), H1 D = none → Same H H1 → ∀ (i : Nat) (H4 H5 : Hp) (v : V), i < xs.length - 1 → (Same H1 H4 ∧ H4 D = some (.lst (List.replicate i (.bl true)))) → YPair (fun i => xs[i]?) (fun i => (xs.drop 1)[i]?) i H4 v H5 →
        ∃ T x y d e, v = .ref T ∧ H5 T = some (.tup [x, y]) ∧ Dp K H5 x d ∧ Dp K H5 y e ∧ alike d e = true ∧ d ≠ .none ∧ d.depth ≤ 20 ∧ dataLt d e = true ∧ H5 D = some (.lst (List.replicate i (.bl true))) ∧ i < sizeLine ∧ (Same H1 (upd H5 D (.lst (List.replicate (i + 1) (.bl true))))) := by
      intro D H1 hD s1 i H4 H5 v hi ⟨s4, e4⟩ ⟨T, x, y, e1, nT, e2, g1, g2⟩
      subst e1 e2
      have s5 := s4.trans (same_upd (o := .tup [x, y]) nT)
      obtain ⟨d, i1, r1⟩ := dpa_at hd g1
      have g2 : xs[i + 1]? = some y := by
        rw [Nat.add_comm, ← List.getElem?_drop]
        exact g2
      obtain ⟨e, i2, r2⟩ := dpa_at hd g2
      obtain ⟨b1, b2, b3, b4⟩ := st i d e i1 i2
      refine ⟨T, x, y, d, e, rfl, upd_same, dp_same (s1.trans s5) r1, dp_same (s1.trans s5) r2, b1, b3, b4, b2, same_upd nT _ _ e4, Nat.lt_of_lt_of_le (show i < 1001 by omega) (by decide), fun b o z => ?_⟩
      rw [upd_ne (ne_of_none z hD)]
      exact s5 _ _ z
    have fin : ∀ (D : Addr) (H1 H4 : Hp), Same H H1 → (Same H1 H4 ∧ H4 D = some (.lst (List.replicate (xs.length - 1) (.bl true)))) → ∃ (a : Addr) (bs : List Bool), [V.ref D] = [V.ref a] ∧ SqL K H4 a (bs.map V.bl) ∧ Q (.bl (bs.all id)) H4 := by
      intro D H1 H4 s1 ⟨s4, e4⟩
      refine ⟨D, List.replicate (xs.length - 1) true, rfl, SqL.of (by rw [List.map_replicate]; exact e4), ?_⟩
      have ea : (List.replicate (xs.length - 1) true).all id = true := by simp
      rw [ea]
      exact q _ (s1.trans s4)
    have hn : xs.length - 1 = min xs.length (xs.drop 1).length := by rw [List.length_drop]; omega
    refine ⟨_, rfl, _, rfl, 1, rfl, ?_⟩
    rcases hS with hT | hL
    · refine .inl ⟨a, xs, rfl, hT, fun wh => ?_, fun nw p hp => ?_⟩
      · have e0 : xs = [] := by
          have z := wh.1
          rw [show HT.sIx xs.length 0 (some 1) = min 1 xs.length from HT.sIx_nat xs.length 0 1] at z
          exact List.eq_nil_of_length_eq_zero (by omega)
        have hT2 : SqT K H a (xs.drop 1) := by rw [e0]; rw [e0] at hT; exact hT
        refine ⟨a, _, xs, xs.drop 1, rfl, .inr ⟨hT, hT2, fun D hD => lc_it (walk_zipT (n := xs.length - 1) hn) (fun i H4 => Same _ H4 ∧ H4 D = some (.lst (List.replicate i (.bl true)))) ⟨same_upd hD, upd_same⟩ (fun i H4 _ ⟨s4, _⟩ => ⟨seqT s4 (hT), seqT s4 (hT2)⟩) ?_ ?_⟩⟩
        · intro i v H4 H5 hi pv y
          obtain ⟨T, x, y', d, e, rfl, eT, r1, r2, b1, b2, b3, b4, e5, si, sm⟩ := turn D _ hD (fun _ _ z => z) i H4 H5 v hi pv y
          refine ⟨T, [x, y'], rfl, SqT.of eT, rfl, x, [y'], rfl, y', [], rfl, rfl, rfl, lcYes ?_⟩
          refine ⟨_, rfl, _, rfl, d, e, r1, r2, b1, b2, b3, _, e5, by rw [List.length_replicate]; exact si, ?_⟩
          rw [b4, ← List.replicate_succ']
          exact ⟨sm, upd_same⟩
        · intro H4 pv
          exact fin D _ H4 (fun _ _ z => z) pv
      · rw [cutV1]
        have s1 := same_upd (o := .tup (xs.drop 1)) hp
        refine ⟨a, _, xs, xs.drop 1, rfl, .inr ⟨tseq s1 hT, SqT.of upd_same, fun D hD => lc_it (walk_zipT (n := xs.length - 1) hn) (fun i H4 => Same _ H4 ∧ H4 D = some (.lst (List.replicate i (.bl true)))) ⟨same_upd hD, upd_same⟩ (fun i H4 _ ⟨s4, _⟩ => ⟨seqT s4 (tseq s1 hT), seqT s4 (SqT.of upd_same)⟩) ?_ ?_⟩⟩
        · intro i v H4 H5 hi pv y
          obtain ⟨T, x, y', d, e, rfl, eT, r1, r2, b1, b2, b3, b4, e5, si, sm⟩ := turn D _ hD s1 i H4 H5 v hi pv y
          refine ⟨T, [x, y'], rfl, SqT.of eT, rfl, x, [y'], rfl, y', [], rfl, rfl, rfl, lcYes ?_⟩
          refine ⟨_, rfl, _, rfl, d, e, r1, r2, b1, b2, b3, _, e5, by rw [List.length_replicate]; exact si, ?_⟩
          rw [b4, ← List.replicate_succ']
          exact ⟨sm, upd_same⟩
        · intro H4 pv
          exact fin D _ H4 s1 pv
    · refine .inr ⟨a, xs, rfl, hL, fun p hp => ?_⟩
      rw [cutV1]
      have s1 := same_upd (o := .lst (xs.drop 1)) hp
      refine ⟨a, _, xs, xs.drop 1, rfl, .inl ⟨s1.seq hL, SqL.of upd_same, fun D hD => lc_it (walk_zip (n := xs.length - 1) hn) (fun i H4 => Same _ H4 ∧ H4 D = some (.lst (List.replicate i (.bl true)))) ⟨same_upd hD, upd_same⟩ (fun i H4 _ ⟨s4, _⟩ => ⟨seqL s4 (s1.seq hL), seqL s4 (SqL.of upd_same)⟩) ?_ ?_⟩⟩
      · intro i v H4 H5 hi pv y
        obtain ⟨T, x, y', d, e, rfl, eT, r1, r2, b1, b2, b3, b4, e5, si, sm⟩ := turn D _ hD s1 i H4 H5 v hi pv y
        refine ⟨T, [x, y'], rfl, SqT.of eT, rfl, x, [y'], rfl, y', [], rfl, rfl, rfl, lcYes ?_⟩
        refine ⟨_, rfl, _, rfl, d, e, r1, r2, b1, b2, b3, _, e5, by rw [List.length_replicate]; exact si, ?_⟩
        rw [b4, ← List.replicate_succ']
        exact ⟨sm, upd_same⟩
      · intro H4 pv
        exact fin D _ H4 s1 pv
end
end Mr

/-! I -/
set_option Elab.async false
set_option linter.all false
set_option maxRecDepth 100000
set_option maxHeartbeats 2000000
namespace Mr
open PySem PySem.Spec PyProof.Rows L2 TL MrS RZ PySem.W
abbrev sStill : Stmt := topS 19
abbrev sIsMove : Stmt := topS 20
abbrev sAreMoves : Stmt := topS 21
abbrev sAreBegins : Stmt := topS 22
abbrev sIsShow : Stmt := topS 23
abbrev sAreShows : Stmt := topS 24
theorem scStill : FnScope ["moves", "states", "firsts", "state", "one", "_"] ["moves", "states"] (defScope sStill) := ⟨rfl, rfl, rfl, by decide +kernel, rfl, by decide +kernel, by decide +kernel⟩
theorem scIsMove : FnScope ["thing", "states"] ["thing", "states"] (defScope sIsMove) := ⟨rfl, rfl, rfl, by decide +kernel, rfl, by decide +kernel, by decide +kernel⟩
theorem scAreMoves : FnScope ["thing", "states", "one"] ["thing", "states"] (defScope sAreMoves) := ⟨rfl, rfl, rfl, by decide +kernel, rfl, by decide +kernel, by decide +kernel⟩
theorem scAreBegins : FnScope ["thing", "states", "one"] ["thing", "states"] (defScope sAreBegins) := ⟨rfl, rfl, rfl, by decide +kernel, rfl, by decide +kernel, by decide +kernel⟩
theorem scIsShow : FnScope ["thing", "states"] ["thing", "states"] (defScope sIsShow) := ⟨rfl, rfl, rfl, by decide +kernel, rfl, by decide +kernel, by decide +kernel⟩
theorem scAreShows : FnScope ["thing", "states", "one", "state", "_"] ["thing", "states"] (defScope sAreShows) := ⟨rfl, rfl, rfl, by decide +kernel, rfl, by decide +kernel, by decide +kernel⟩
theorem flat_strs : ∀ l : List Str, (l.map V.str).all flatV = true
  | [] => rfl
  | x :: l => by
    rw [List.map_cons, List.all_cons, flat_strs l]
    rfl
theorem eqV_str (x y : Str) : eqV (.str x) (.str y) = decide (x = y) := by
  unfold eqV
  by_cases h : x = y
  · simp [h]
  · simp [h]
theorem in_strs {x : Str} {l : List Str} : inV (.str x) (l.map V.str) = decide (x ∈ l) := by
  unfold inV
  induction l with
  | nil => simp
  | cons y l ih =>
    rw [List.map_cons, List.any_cons, ih, eqV_str]
    by_cases h : y = x
    · simp [h]
    · simp [h, Ne.symm h]
/-- all(l): where each turn gives True -/
theorem all_true (n : Nat) : (List.replicate n true).all id = true := by simp
theorem lt_line {i : Nat} (h : i ≤ 1000) : i < sizeLine := Nat.lt_of_lt_of_le (show i < 1001 by omega) (by decide)
section
variable {P : Program} {w : World} {K : PySem.W.Frag} {mg : Str → Option Value} {base : Heap}
def spIsNames : Sp := fun vs H Q _ => ∃ (a : Addr) (l : List Str) (most : Int), vs = [.ref a, .int most] ∧ H a = some (.tup (l.map V.str)) ∧ 1 ≤ l.length ∧ (l.length : Int) ≤ most ∧ l.length ≤ 100 ∧ (∀ x ∈ l, isNm x) ∧ Up sd l ∧ ∀ H', Same H H' → Q (.bl true) H'
theorem dpa_strs {H : Hp} : ∀ l : List Str, DpAll K H (l.map V.str) (l.map sd)
  | [] => .nil
  | x :: l => .cons (.str x) (dpa_strs l)
theorem steps_strs {l : List Str} (u : Up sd l) : Steps (l.map sd) := steps_up alike_sd (fun x => (by intro z; cases z)) (fun x => Nat.zero_le _) u
theorem ok_isNames {f fN fR : Addr} {fd fdN fdR : FuncData} {t : Tok} (F : Fun K "is_names" "is_names" sIsNames f fd) (FN : Fun K "is_name" "is_name" sIsName fN fdN) (bN : Binds K fdN ["thing"] []) (mN : mg "is_name" = some (.ref fN))
    (FR : Fun K "is_rising" "is_rising" sIsRising fR fdR) (bR : Binds K fdR ["things"] []) (mR : mg "is_rising" = some (.ref fR))
    (mi : mg "isinstance" = none) (ml : mg "len" = none) (ma : mg "all" = none) (ms : mg "str" = none) (mt : mg "tuple" = none) (mz : mg "zip" = none) (mL : mg "LETTERS" = some (.int 8 t)) :
    FnOk P w K mg base CX0 2 f fd ["thing", "most"] spIsNames := by
  have GN : FnOk P w K mg base CX0 1 fN fdN ["thing"] spIsName := ok_isName FN mi ml ma ms mL
  have GR : FnOk P w K mg base CX0 1 fR fdR ["things"] (spIsRising K) := ok_isRising FR mz ma
  refine F.ok scIsNames (fun vs H Q E h => ?_) (fun cdv A outer s H vs Q E hr h => ?_)
  · obtain ⟨a, l, most, rfl, _⟩ := h
    rfl
  · obtain ⟨a, l, most, rfl, ha, l1, l2, l100, ln, lu, q⟩ := h
    refine ⟨_, pss_one (ps_ret (pe_and (pe_callB call_isi (by rfl) mi (by decide +kernel) (pa_cons (pv 0) (pa_cons (pe_bltn (v := .ty "tuple") (by rfl) mt (by decide +kernel) rfl) pa_nil)))
      (pe_and (pe_chain op_le op_le pe_int (pe_callB call_len_seq (by rfl) ml PySem.boot_len (pa_cons (pv 0) pa_nil)) (pv 1))
      (pe_and (pe_callB (cr_all rfl) (by rfl) ma (by decide +kernel) (pa_cons (pe_lc (own := [("one", 2)]) (g := gName 2) (tt := tYes) rfl scIsNames.nd (pi_tup (pv 0)) (blkOk_by (own := [("one", 2)]) (N := ["thing", "most", "one"]) (sc := defScope sIsNames) (by decide +kernel))
        (fun _ _ _ _ _ => pg_name (i := 2) scIsNames.nd rfl (.inl rfl)) (fun _ _ _ _ _ => pts_nil)
        (fun _ _ _ _ _ => pe_call GN hr (by rfl) mN FN.kp bN .nil pass0 (pa_cons (pv 2) pa_nil))) pa_nil))
      (pe_one (pe_call GR hr (by rfl) mR FR.kp bR .nil pass0 (pa_cons (pv 0) pa_nil))))))), ?_⟩
    refine ⟨_, rfl, _, _, .type "tuple", .type "tuple", true, rfl, .ty _, .base (.tup ha), kit_ty (by decide +kernel), _, rfl, iteT ?_⟩
    refine ⟨_, rfl, a, l.map V.str, rfl, .inr (SqT.of ha), _, _, rfl, rfl, _, rfl, ite2 (fun _ => ?_) (fun z => absurd (decide_eq_true (show (1 : Int) ≤ ((l.map V.str).length : Int) by rw [List.length_map]; omega)) z)⟩
    refine ⟨_, rfl, _, _, rfl, rfl, _, rfl, ite2 (fun _ => ?_) (fun z => absurd (decide_eq_true (show ((l.map V.str).length : Int) ≤ most by rw [List.length_map]; exact l2)) z)⟩
    refine ⟨_, rfl, a, rfl, ⟨_, SqT.of ha⟩, fun D hD => lc_tup (K := K) (a := a) (xs := l.map V.str) (fun i H4 => Same H H4 ∧ H4 D = some (.lst (List.replicate i (.bl true)))) ⟨same_upd hD, upd_same⟩ (fun i H4 _ ⟨s4, _⟩ => SqT.of (s4 _ _ ha)) ?_ ?_⟩
    · rintro i x H4 hi ⟨s4, e4⟩
      obtain ⟨y, hy, rfl⟩ := str_at hi
      have il : i < l.length := (List.getElem?_eq_some_iff.mp hy).1
      refine ⟨rfl, lcYes ⟨_, rfl, y, rfl, ln y (List.mem_of_getElem? hy), fun H6 s6 => ⟨_, s6 _ _ e4, by rw [List.length_replicate]; exact lt_line (by omega), fun b o e => ?_, by rw [upd_same, List.replicate_succ']⟩⟩⟩
      rw [upd_ne (ne_of_none e hD)]
      exact s6 _ _ (s4 _ _ e)
    · rintro H4 ⟨s4, e4⟩
      rw [List.length_map] at e4
      refine ⟨D, List.replicate l.length true, rfl, SqL.of (by rw [List.map_replicate]; exact e4), ?_⟩
      rw [all_true]
      refine ⟨_, rfl, iteT ⟨_, rfl, a, l.map V.str, l.map sd, rfl, .inl (SqT.of (s4 _ _ ha)), dpa_strs l, by rw [List.length_map]; omega, steps_strs lu, fun H' s5 => q _ (s4.trans s5)⟩⟩
end
end Mr

/-! J -/
set_option Elab.async false
set_option linter.all false
set_option maxRecDepth 100000
set_option maxHeartbeats 2000000
namespace Mr
open PySem PySem.Spec PyProof.Rows L2 TL MrS RZ PySem.W
/-- the first state that is none of firsts -/
def stillOf (firsts nodes : List Str) : Option Str := nodes.find? fun n => !decide (n ∈ firsts)
def ovV : Option Str → V
  | .none => .non
  | .some x => .str x
theorem still_none {firsts nodes : List Str} (h : ∀ x ∈ nodes, x ∈ firsts) : stillOf firsts nodes = .none := by
  unfold stillOf
  rw [List.find?_eq_none]
  intro x hx
  simp [h x hx]
theorem still_some {firsts nodes : List Str} {i : Nat} {x : Str} (hi : nodes[i]? = some x) (h : ∀ y ∈ nodes.take i, y ∈ firsts) (n : x ∉ firsts) : stillOf firsts nodes = .some x := by
  unfold stillOf
  obtain ⟨hl, e⟩ := List.getElem?_eq_some_iff.mp hi
  have e2 : nodes = nodes.take i ++ x :: nodes.drop (i + 1) := by
    rw [← e, List.getElem_cons_drop, List.take_append_drop]
  rw [e2, List.find?_append]
  have e3 : (nodes.take i).find? (fun n => !decide (n ∈ firsts)) = .none := by
    rw [List.find?_eq_none]
    intro y hy
    simp [h y hy]
  rw [e3]
  simp [n]
abbrev fsts (as : List (Addr × (Str × Str))) : List Str := as.map fun x => x.2.1
theorem at_refs {α : Type} {l : List (Addr × α)} {i : Nat} {v : V} (h : (refs l)[i]? = some v) : ∃ x, l[i]? = some x ∧ v = .ref x.1 := by
  rw [List.getElem?_map] at h
  obtain ⟨x, h1, h2⟩ := Option.map_eq_some_iff.mp h
  exact ⟨x, h1, h2.symm⟩
theorem take_next {α : Type} {l : List α} {i : Nat} {x : α} (h : l[i]? = some x) : l.take (i + 1) = l.take i ++ [x] := by rw [List.take_succ, h]; rfl
theorem same_put {H H1 : Hp} {p : Addr} {o : HO} (s : Same H H1) (h : H p = none) : Same H (upd H1 p o) := fun b x e => by
  rw [upd_ne (ne_of_none e h)]
  exact s _ _ e
def PairsAt (H : Hp) (as : List (Addr × (Str × Str))) : Prop := ∀ x ∈ as, H x.1 = some (.tup [.str x.2.1, .str x.2.2])
theorem PairsAt.same {H H1 : Hp} {as : List (Addr × (Str × Str))} (h : PairsAt H as) (s : Same H H1) : PairsAt H1 as := fun x hx => s _ _ (h x hx)
section
variable {P : Program} {w : World} {K : PySem.W.Frag} {mg : Str → Option Value} {base : Heap}
def spStill : Sp := fun vs H Q _ => ∃ (m st : Addr) (as : List (Addr × (Str × Str))) (nodes : List Str), vs = [.ref m, .ref st] ∧ H m = some (.tup (refs as)) ∧ PairsAt H as ∧ H st = some (.tup (nodes.map V.str)) ∧ as.length ≤ 1000 ∧
  ∀ H', Same H H' → Q (ovV (stillOf (fsts as) nodes)) H'
theorem ok_still {f : Addr} {fd : FuncData} {k : Nat} (F : Fun K "first_still" "first_still" sStill f fd) : FnOk P w K mg base CX0 (k + 1) f fd ["moves", "states"] spStill := by
  refine F.ok scStill (fun vs H Q E h => ?_) (fun cdv A outer s H vs Q E hr h => ?_)
  · obtain ⟨m, st, as, nodes, rfl, _⟩ := h
    rfl
  · obtain ⟨m, st, as, nodes, rfl, hm, hp, hst, few, q⟩ := h
    refine ⟨_, pss_cons (ps_setLc (i := 2) (own := [("one", 4), ("_", 5)]) (g := gTup K 2 (gCons (gName 4) (gCons (gName 5) gNil))) (tt := tYes) rfl scStill.nd rfl rfl (sw_true rfl rfl rfl (by decide +kernel)) (pi_tup (pv 0))
          (blkOk_by (own := [("one", 4), ("_", 5)]) (N := ["moves", "states", "firsts", "state", "one", "_"]) (sc := defScope sStill) (by decide +kernel))
          (fun _ _ _ _ _ => pg_tup rfl (pgs_cons (pg_name (i := 4) scStill.nd rfl (.inl rfl)) (pgs_cons (pg_name (i := 5) scStill.nd rfl (.inl rfl)) pgs_nil))) (fun _ _ _ _ _ => pts_nil) (fun _ _ _ _ _ => pv 4))
      (pss_cons (ps_for PassesOwn.never rfl (pi_tup (pv 1)) (pg_name (i := 3) scStill.nd rfl (.inl rfl))
        (pss_one (ps_if (pt_cmpR op_notIn_seq (pv 3) (pv 2) (by rfl)) (pss_one (ps_ret (pv 3))) pss_nil)))
      (pss_one (ps_ret pe_non))), ?_⟩
    refine ⟨_, rfl, m, rfl, ⟨_, SqT.of hm⟩, fun D hD => lc_tup (K := K) (a := m) (xs := refs as) (fun i H4 => Same H H4 ∧ H4 D = some (.lst ((fsts (as.take i)).map V.str))) ⟨same_upd hD, upd_same⟩ (fun i H4 _ ⟨s4, _⟩ => SqT.of (s4 _ _ hm)) ?_ ?_⟩
    · rintro i v H4 hi ⟨s4, e4⟩
      obtain ⟨x, hx, rfl⟩ := at_refs hi
      have il : i < as.length := (List.getElem?_eq_some_iff.mp hx).1
      refine ⟨x.1, [.str x.2.1, .str x.2.2], rfl, SqT.of (s4 _ _ (hp x (List.mem_of_getElem? hx))), rfl, _, _, rfl, _, _, rfl, rfl, rfl, lcYes ?_⟩
      refine ⟨_, rfl, _, e4, by rw [List.length_map, List.length_map, List.length_take]; exact lt_line (by omega), same_put s4 hD, ?_⟩
      rw [upd_same, take_next hx]
      unfold fsts
      rw [List.map_append, List.map_append]
      rfl
    · rintro H4 ⟨s4, e4⟩
      rw [show (refs as).length = as.length from List.length_map _, List.take_length] at e4
      refine ⟨_, rfl, st, rfl, ⟨_, SqT.of (s4 _ _ hst)⟩, for_tup (K := K) (a := st) (xs := nodes.map V.str) (fun i σ H5 => ∃ (y3 y4 y5 : Option V), σ = [some (.ref m), some (.ref st), some (.ref D), y3, y4, y5] ∧ H5 = H4 ∧ ∀ y ∈ nodes.take i, y ∈ fsts as)
        ⟨_, _, _, rfl, rfl, fun y hy => by cases hy⟩ (fun i σ H5 _ ⟨_, _, _, _, e, _⟩ => by rw [e]; exact SqT.of (s4 _ _ hst)) ?_ ?_⟩
      · rintro i v σ H5 hi ⟨y3, y4, y5, rfl, rfl, al⟩
        obtain ⟨x, hx, rfl⟩ := str_at hi
        refine ⟨_, rfl, _, rfl, D, _, rfl, .inl (SqL.of e4), rfl, flat_strs _, _, rfl, ite2 (fun e => ?_) (fun e => ?_)⟩
        · have n : x ∉ fsts as := by
            rw [in_strs] at e
            intro z
            rw [decide_eq_true z] at e
            cases e
          refine ⟨_, rfl, ?_⟩
          have z := q H5 s4
          rw [still_some hx al n] at z
          exact z
        · have n : x ∈ fsts as := by
            rw [in_strs] at e
            by_cases z : x ∈ fsts as
            · exact z
            · rw [decide_eq_false z] at e
              exact absurd rfl e
          refine ⟨_, _, _, rfl, rfl, fun y hy => ?_⟩
          rw [take_next hx] at hy
          rcases List.mem_append.mp hy with z | z
          · exact al y z
          · rw [List.mem_singleton.mp z]; exact n
      · rintro σ H5 ⟨y3, y4, y5, rfl, rfl, al⟩
        rw [List.length_map, List.take_length] at al
        have z := q H5 s4
        rw [still_none al] at z
        exact z
end
end Mr

/-! L -/
set_option Elab.async false
set_option linter.all false
set_option maxRecDepth 100000
set_option maxHeartbeats 2000000
namespace Mr
open PySem PySem.Spec PyProof.Rows L2 TL MrS RZ PySem.W
theorem in_yes {x : Str} {l : List Str} (h : x ∈ l) : inV (.str x) (l.map V.str) = true := by rw [in_strs, decide_eq_true h]
theorem dpa_pairs {K : PySem.W.Frag} {H : Hp} : ∀ {as : List (Addr × (Str × Str))}, PairsAt H as → DpAll K H (refs as) ((as.map (·.2)).map pd)
  | [], _ => .nil
  | x :: as, h => .cons (.tup (SqT.of (h x List.mem_cons_self)) (.cons (.str x.2.1) (.cons (.str x.2.2) .nil))) (dpa_pairs fun y hy => h y (List.mem_cons_of_mem _ hy))
theorem steps_pairs {l : List (Str × Str)} (u : Up pd l) : Steps (l.map pd) := steps_up alike_pd (fun x => (by intro z; cases z)) (fun x => by rw [depth_pd]; decide) u
section
variable {P : Program} {w : World} {K : PySem.W.Frag} {mg : Str → Option Value} {base : Heap}
def spIsMove : Sp := fun vs H Q _ => ∃ (a st : Addr) (x y : Str) (nodes : List Str), vs = [.ref a, .ref st] ∧ H a = some (.tup [.str x, .str y]) ∧ H st = some (.tup (nodes.map V.str)) ∧ x ∈ nodes ∧ y ∈ nodes ∧ Q (.bl true) H
theorem ok_isMove {f fP : Addr} {fd fdP : FuncData} (F : Fun K "_is_move" "_is_move" sIsMove f fd) (FP : Fun K "is_pair" "is_pair" sIsPair fP fdP) (bP : Binds K fdP ["thing"] []) (mP : mg "is_pair" = some (.ref fP))
    (mi : mg "isinstance" = none) (ml : mg "len" = none) (mt : mg "tuple" = none) : FnOk P w K mg base CX0 2 f fd ["thing", "states"] spIsMove := by
  have GP : FnOk P w K mg base CX0 1 fP fdP ["thing"] spIsPair := ok_isPair FP mi ml mt
  refine F.ok scIsMove (fun vs H Q E h => ?_) (fun cdv A outer s H vs Q E hr h => ?_)
  · obtain ⟨a, st, x, y, nodes, rfl, _⟩ := h
    rfl
  · obtain ⟨a, st, x, y, nodes, rfl, ha, hs, hx, hy, q⟩ := h
    refine ⟨_, pss_one (ps_ret (pe_and (pe_call GP hr (by rfl) mP FP.kp bP .nil pass0 (pa_cons (pv 0) pa_nil))
      (pe_and (pe_cmpR op_in_seq (pe_ix ix_tup (pv 0) pe_int (fun _ _ => rfl)) (pv 1) (by rfl)) (pe_one (pe_cmpR op_in_seq (pe_ix ix_tup (pv 0) pe_int (fun _ _ => rfl)) (pv 1) (by rfl)))))), ?_⟩
    refine ⟨_, rfl, a, _, _, rfl, ha, _, rfl, iteT ?_⟩
    refine ⟨_, rfl, a, _, 0, .str x, rfl, rfl, SqT.of ha, rfl, _, rfl, st, _, rfl, .inr (SqT.of hs), rfl, flat_strs _, ?_⟩
    rw [in_yes hx]
    refine ⟨_, rfl, iteT ?_⟩
    refine ⟨_, rfl, a, _, 1, .str y, rfl, rfl, SqT.of ha, rfl, _, rfl, st, _, rfl, .inr (SqT.of hs), rfl, flat_strs _, ?_⟩
    rw [in_yes hy]
    exact q
/-- moves as told: pairs of states, rising, one out of each state -/
structure MvOk (nodes : List Str) (as : List (Addr × (Str × Str))) : Prop where
  few : as.length ≤ 24
  ain : ∀ x ∈ as, x.2.1 ∈ nodes ∧ x.2.2 ∈ nodes
  up : Up pd (as.map (·.2))
  out : ∀ n ∈ nodes, n ∈ fsts as
def spAreMoves : Sp := fun vs H Q _ => ∃ (m st : Addr) (as : List (Addr × (Str × Str))) (nodes : List Str), vs = [.ref m, .ref st] ∧ H m = some (.tup (refs as)) ∧ PairsAt H as ∧ H st = some (.tup (nodes.map V.str)) ∧ MvOk nodes as ∧
  ∀ H', Same H H' → Q (.bl true) H'
theorem ok_areMoves {f fM fP fR fS : Addr} {fd fdM fdP fdR fdS : FuncData} {t : Tok} (F : Fun K "_are_moves" "_are_moves" sAreMoves f fd) (FM : Fun K "_is_move" "_is_move" sIsMove fM fdM) (bM : Binds K fdM ["thing", "states"] []) (mM : mg "_is_move" = some (.ref fM))
    (FP : Fun K "is_pair" "is_pair" sIsPair fP fdP) (bP : Binds K fdP ["thing"] []) (mP : mg "is_pair" = some (.ref fP)) (FR : Fun K "is_rising" "is_rising" sIsRising fR fdR) (bR : Binds K fdR ["things"] []) (mR : mg "is_rising" = some (.ref fR))
    (FS : Fun K "first_still" "first_still" sStill fS fdS) (bS : Binds K fdS ["moves", "states"] []) (mS : mg "first_still" = some (.ref fS))
    (mi : mg "isinstance" = none) (ml : mg "len" = none) (mt : mg "tuple" = none) (ma : mg "all" = none) (mz : mg "zip" = none) (mV : mg "MOVES" = some (.int 24 t)) : FnOk P w K mg base CX0 3 f fd ["thing", "states"] spAreMoves := by
  have GM : FnOk P w K mg base CX0 2 fM fdM ["thing", "states"] spIsMove := ok_isMove FM FP bP mP mi ml mt
  have GR : FnOk P w K mg base CX0 1 fR fdR ["things"] (spIsRising K) := ok_isRising FR mz ma
  have GS : FnOk P w K mg base CX0 1 fS fdS ["moves", "states"] spStill := ok_still FS
  refine F.ok scAreMoves (fun vs H Q E h => ?_) (fun cdv A outer s H vs Q E hr h => ?_)
  · obtain ⟨a, st, x, y, rfl, _⟩ := h
    rfl
  · obtain ⟨a, st, as, nodes, rfl, ha, hp, hs, ok, q⟩ := h
    have hr1 : Room 1 _ := hr.mono (by decide)
    refine ⟨_, pss_one (ps_ret (pe_and (pe_callB call_isi (by rfl) mi (by decide +kernel) (pa_cons (pv 0) (pa_cons (pe_bltn (v := .ty "tuple") (by rfl) mt (by decide +kernel) rfl) pa_nil)))
      (pe_and (pe_cmpR op_le (pe_callB call_len_seq (by rfl) ml PySem.boot_len (pa_cons (pv 0) pa_nil)) (pe_glob (v := .int 24) rfl mV ⟨_, rfl⟩) (nomark _))
      (pe_and (pe_callB (cr_all rfl) (by rfl) ma (by decide +kernel) (pa_cons (pe_lc (own := [("one", 2)]) (g := gName 2) (tt := tYes) rfl scAreMoves.nd (pi_tup (pv 0)) (blkOk_by (own := [("one", 2)]) (N := ["thing", "states", "one"]) (sc := defScope sAreMoves) (by decide +kernel))
        (fun _ _ _ _ _ => pg_name (i := 2) scAreMoves.nd rfl (.inl rfl)) (fun _ _ _ _ _ => pts_nil)
        (fun _ _ _ _ _ => pe_call GM hr (by rfl) mM FM.kp bM .nil pass0 (pa_cons (pv 2) (pa_cons (pv 1) pa_nil)))) pa_nil))
      (pe_and (pe_call GR hr1 (by rfl) mR FR.kp bR .nil pass0 (pa_cons (pv 0) pa_nil))
      (pe_one (pe_cmpR op_isN (pe_call GS hr1 (by rfl) mS FS.kp bS .nil pass0 (pa_cons (pv 0) (pa_cons (pv 1) pa_nil))) pe_non (nomark _)))))))), ?_⟩
    refine ⟨_, rfl, _, _, .type "tuple", .type "tuple", true, rfl, .ty _, .base (.tup ha), kit_ty (by decide +kernel), _, rfl, iteT ?_⟩
    have la : (refs as).length = as.length := List.length_map _
    refine ⟨_, rfl, a, refs as, rfl, .inr (SqT.of ha), _, _, rfl, rfl, _, rfl, ite2 (fun _ => ?_) (fun z => absurd (decide_eq_true (show ((refs as).length : Int) ≤ 24 by rw [la]; have := ok.few; omega)) z)⟩
    have few := ok.few
    refine ⟨_, rfl, a, rfl, ⟨_, SqT.of ha⟩, fun D hD => lc_tup (K := K) (a := a) (xs := refs as) (fun i H4 => Same H H4 ∧ H4 D = some (.lst (List.replicate i (.bl true)))) ⟨same_upd hD, upd_same⟩ (fun i H4 _ ⟨s4, _⟩ => SqT.of (s4 _ _ ha)) ?_ ?_⟩
    · rintro i v H4 hi ⟨s4, e4⟩
      obtain ⟨x, hx, rfl⟩ := at_refs hi
      have mx := List.mem_of_getElem? hx
      have il : i < as.length := (List.getElem?_eq_some_iff.mp hx).1
      refine ⟨rfl, lcYes ⟨_, rfl, _, rfl, x.1, st, x.2.1, x.2.2, nodes, rfl, s4 _ _ (hp x mx), s4 _ _ hs, (ok.ain x mx).1, (ok.ain x mx).2, _, e4, by rw [List.length_replicate]; exact lt_line (by omega), same_put s4 hD, by rw [upd_same, List.replicate_succ']⟩⟩
    · rintro H4 ⟨s4, e4⟩
      rw [la] at e4
      refine ⟨D, List.replicate as.length true, rfl, SqL.of (by rw [List.map_replicate]; exact e4), ?_⟩
      rw [all_true]
      refine ⟨_, rfl, iteT ?_⟩
      refine ⟨_, rfl, a, refs as, _, rfl, .inl (SqT.of (s4 _ _ ha)), dpa_pairs (hp.same s4), by rw [la]; omega, steps_pairs ok.up, fun H5 s5 => ⟨_, rfl, iteT ?_⟩⟩
      have s45 := s4.trans s5
      refine ⟨_, rfl, _, rfl, a, st, as, nodes, rfl, s45 _ _ ha, hp.same s45, s45 _ _ hs, by omega, fun H6 s6 => ?_⟩
      rw [still_none ok.out]
      exact ⟨rfl, q H6 (s45.trans s6)⟩
def spAreBegins : Sp := fun vs H Q _ => ∃ (m st : Addr) (l nodes : List Str), vs = [.ref m, .ref st] ∧ H m = some (.tup (l.map V.str)) ∧ H st = some (.tup (nodes.map V.str)) ∧ 0 < l.length ∧ l.length ≤ 100 ∧ (∀ x ∈ l, x ∈ nodes) ∧ Up sd l ∧
  ∀ H', Same H H' → Q (.bl true) H'
theorem ok_areBegins {f fR : Addr} {fd fdR : FuncData} (F : Fun K "_are_begins" "_are_begins" sAreBegins f fd) (FR : Fun K "is_rising" "is_rising" sIsRising fR fdR) (bR : Binds K fdR ["things"] []) (mR : mg "is_rising" = some (.ref fR))
    (mi : mg "isinstance" = none) (ml : mg "len" = none) (mt : mg "tuple" = none) (ma : mg "all" = none) (mz : mg "zip" = none) : FnOk P w K mg base CX0 2 f fd ["thing", "states"] spAreBegins := by
  have GR : FnOk P w K mg base CX0 1 fR fdR ["things"] (spIsRising K) := ok_isRising FR mz ma
  refine F.ok scAreBegins (fun vs H Q E h => ?_) (fun cdv A outer s H vs Q E hr h => ?_)
  · obtain ⟨a, st, x, y, rfl, _⟩ := h
    rfl
  · obtain ⟨a, st, l, nodes, rfl, ha, hs, l1, l2, hin, up, q⟩ := h
    refine ⟨_, pss_one (ps_ret (pe_and (pe_callB call_isi (by rfl) mi (by decide +kernel) (pa_cons (pv 0) (pa_cons (pe_bltn (v := .ty "tuple") (by rfl) mt (by decide +kernel) rfl) pa_nil)))
      (pe_and (pe_cmpR op_gt (pe_callB call_len_seq (by rfl) ml PySem.boot_len (pa_cons (pv 0) pa_nil)) pe_int (nomark _))
      (pe_and (pe_callB (cr_all rfl) (by rfl) ma (by decide +kernel) (pa_cons (pe_lc (own := [("one", 2)]) (g := gName 2) (tt := tYes) rfl scAreBegins.nd (pi_tup (pv 0)) (blkOk_by (own := [("one", 2)]) (N := ["thing", "states", "one"]) (sc := defScope sAreBegins) (by decide +kernel))
        (fun _ _ _ _ _ => pg_name (i := 2) scAreBegins.nd rfl (.inl rfl)) (fun _ _ _ _ _ => pts_nil)
        (fun _ _ _ _ _ => pe_cmpR (op_inK K) (pv 2) (pv 1) (by rfl))) pa_nil))
      (pe_one (pe_call GR hr (by rfl) mR FR.kp bR .nil pass0 (pa_cons (pv 0) pa_nil))))))), ?_⟩
    refine ⟨_, rfl, _, _, .type "tuple", .type "tuple", true, rfl, .ty _, .base (.tup ha), kit_ty (by decide +kernel), _, rfl, iteT ?_⟩
    refine ⟨_, rfl, a, _, rfl, .inr (SqT.of ha), _, _, rfl, rfl, _, rfl, ite2 (fun _ => ?_) (fun z => absurd (decide_eq_true (show (0 : Int) < ((l.map V.str).length : Int) by rw [List.length_map]; omega)) z)⟩
    refine ⟨_, rfl, a, rfl, ⟨_, SqT.of ha⟩, fun D hD => lc_tup (K := K) (a := a) (xs := l.map V.str) (fun i H4 => Same H H4 ∧ H4 D = some (.lst (List.replicate i (.bl true)))) ⟨same_upd hD, upd_same⟩ (fun i H4 _ ⟨s4, _⟩ => SqT.of (s4 _ _ ha)) ?_ ?_⟩
    · rintro i v H4 hi ⟨s4, e4⟩
      obtain ⟨x, hx, rfl⟩ := str_at hi
      have il : i < l.length := (List.getElem?_eq_some_iff.mp hx).1
      refine ⟨rfl, lcYes ⟨_, rfl, _, rfl, st, _, rfl, .inr (SqT.of (s4 _ _ hs)), rfl, flat_strs _, ?_⟩⟩
      rw [in_yes (hin x (List.mem_of_getElem? hx))]
      exact ⟨_, e4, by rw [List.length_replicate]; exact lt_line (by omega), same_put s4 hD, by rw [upd_same, List.replicate_succ']; rfl⟩
    · rintro H4 ⟨s4, e4⟩
      rw [List.length_map] at e4
      refine ⟨D, List.replicate l.length true, rfl, SqL.of (by rw [List.map_replicate]; exact e4), ?_⟩
      rw [all_true]
      exact ⟨_, rfl, iteT ⟨_, rfl, a, l.map V.str, l.map sd, rfl, .inl (SqT.of (s4 _ _ ha)), dpa_strs l, by rw [List.length_map]; omega, steps_strs up, fun H' s5 => q _ (s4.trans s5)⟩⟩
end
end Mr

/-! M -/
set_option Elab.async false
set_option linter.all false
set_option maxRecDepth 100000
set_option maxHeartbeats 2000000
namespace Mr
open PySem PySem.Spec PyProof.Rows L2 TL MrS RZ PySem.W
abbrev Sw := List (Addr × (Str × (Addr × List Str)))
def ShowsAt (H : Hp) (sw : Sw) : Prop := ∀ x ∈ sw, H x.1 = some (.tup [.str x.2.1, .ref x.2.2.1]) ∧ H x.2.2.1 = some (.tup (x.2.2.2.map V.str))
theorem ShowsAt.same {H H1 : Hp} {sw : Sw} (h : ShowsAt H sw) (s : Same H H1) : ShowsAt H1 sw := fun x hx => ⟨s _ _ (h x hx).1, s _ _ (h x hx).2⟩
structure MkOk (l : List Str) : Prop where
  l1 : 1 ≤ l.length
  l4 : l.length ≤ 4
  nm : ∀ x ∈ l, isNm x
  up : Up sd l
abbrev swN (sw : Sw) : List Str := sw.map fun x => x.2.1
structure ShOk (nodes : List Str) (sw : Sw) : Prop where
  few : sw.length ≤ 100
  sin : ∀ x ∈ sw, x.2.1 ∈ nodes
  mo : ∀ x ∈ sw, MkOk x.2.2.2
  up : Up sd (swN sw)
section
variable {P : Program} {w : World} {K : PySem.W.Frag} {mg : Str → Option Value} {base : Heap}
def spIsShow : Sp := fun vs H Q _ => ∃ (a st m : Addr) (x : Str) (l nodes : List Str), vs = [.ref a, .ref st] ∧ H a = some (.tup [.str x, .ref m]) ∧ H m = some (.tup (l.map V.str)) ∧ H st = some (.tup (nodes.map V.str)) ∧ x ∈ nodes ∧ MkOk l ∧ ∀ H', Same H H' → Q (.bl true) H'
theorem ok_isShow {f fP fN fI fR : Addr} {fd fdP fdN fdI fdR : FuncData} {t t2 : Tok} (F : Fun K "_is_show" "_is_show" sIsShow f fd) (FP : Fun K "is_pair" "is_pair" sIsPair fP fdP) (bP : Binds K fdP ["thing"] []) (mP : mg "is_pair" = some (.ref fP))
    (FN : Fun K "is_names" "is_names" sIsNames fN fdN) (bN : Binds K fdN ["thing", "most"] []) (mN : mg "is_names" = some (.ref fN)) (FI : Fun K "is_name" "is_name" sIsName fI fdI) (bI : Binds K fdI ["thing"] []) (mI : mg "is_name" = some (.ref fI))
    (FR : Fun K "is_rising" "is_rising" sIsRising fR fdR) (bR : Binds K fdR ["things"] []) (mR : mg "is_rising" = some (.ref fR))
    (mi : mg "isinstance" = none) (ml : mg "len" = none) (ma : mg "all" = none) (ms : mg "str" = none) (mt : mg "tuple" = none) (mz : mg "zip" = none) (mL : mg "LETTERS" = some (.int 8 t)) (mK : mg "MARKS" = some (.int 4 t2)) :
    FnOk P w K mg base CX0 3 f fd ["thing", "states"] spIsShow := by
  have GP : FnOk P w K mg base CX0 1 fP fdP ["thing"] spIsPair := ok_isPair FP mi ml mt
  have GN : FnOk P w K mg base CX0 2 fN fdN ["thing", "most"] spIsNames := ok_isNames FN FI bI mI FR bR mR mi ml ma ms mt mz mL
  refine F.ok scIsShow (fun vs H Q E h => ?_) (fun cdv A outer s H vs Q E hr h => ?_)
  · obtain ⟨a, st, m, x, l, nodes, rfl, _⟩ := h
    rfl
  · obtain ⟨a, st, m, x, l, nodes, rfl, ha, hm, hs, hx, ok, q⟩ := h
    have hr1 : Room 1 _ := hr.mono (by decide)
    refine ⟨_, pss_one (ps_ret (pe_and (pe_call GP hr1 (by rfl) mP FP.kp bP .nil pass0 (pa_cons (pv 0) pa_nil))
      (pe_and (pe_cmpR op_in_seq (pe_ix ix_tup (pv 0) pe_int (fun _ _ => rfl)) (pv 1) (by rfl))
      (pe_one (pe_call GN hr (by rfl) mN FN.kp bN .nil pass0 (pa_cons (pe_ix ix_tup (pv 0) pe_int (fun _ _ => rfl)) (pa_cons (pe_glob (v := .int 4) rfl mK ⟨_, rfl⟩) pa_nil))))))), ?_⟩
    refine ⟨_, rfl, a, _, _, rfl, ha, _, rfl, iteT ?_⟩
    refine ⟨_, rfl, a, _, 0, .str x, rfl, rfl, SqT.of ha, rfl, _, rfl, st, _, rfl, .inr (SqT.of hs), rfl, flat_strs _, ?_⟩
    rw [in_yes hx]
    refine ⟨_, rfl, iteT ?_⟩
    have l4 := ok.l4
    exact ⟨_, rfl, a, _, 1, .ref m, rfl, rfl, SqT.of ha, rfl, m, l, 4, rfl, hm, ok.l1, by omega, by omega, ok.nm, ok.up, q⟩
def spAreShows : Sp := fun vs H Q _ => ∃ (a st : Addr) (sw : Sw) (nodes : List Str), vs = [.ref a, .ref st] ∧ H a = some (.tup (refs sw)) ∧ ShowsAt H sw ∧ H st = some (.tup (nodes.map V.str)) ∧ ShOk nodes sw ∧ ∀ H', Same H H' → Q (.bl true) H'
theorem ok_areShows {f fW fP fN fI fR : Addr} {fd fdW fdP fdN fdI fdR : FuncData} {t t2 : Tok} (F : Fun K "_are_shows" "_are_shows" sAreShows f fd) (FW : Fun K "_is_show" "_is_show" sIsShow fW fdW) (bW : Binds K fdW ["thing", "states"] []) (mW : mg "_is_show" = some (.ref fW))
    (FP : Fun K "is_pair" "is_pair" sIsPair fP fdP) (bP : Binds K fdP ["thing"] []) (mP : mg "is_pair" = some (.ref fP))
    (FN : Fun K "is_names" "is_names" sIsNames fN fdN) (bN : Binds K fdN ["thing", "most"] []) (mN : mg "is_names" = some (.ref fN)) (FI : Fun K "is_name" "is_name" sIsName fI fdI) (bI : Binds K fdI ["thing"] []) (mI : mg "is_name" = some (.ref fI))
    (FR : Fun K "is_rising" "is_rising" sIsRising fR fdR) (bR : Binds K fdR ["things"] []) (mR : mg "is_rising" = some (.ref fR))
    (mi : mg "isinstance" = none) (ml : mg "len" = none) (ma : mg "all" = none) (ms : mg "str" = none) (mt : mg "tuple" = none) (mz : mg "zip" = none) (mL : mg "LETTERS" = some (.int 8 t)) (mK : mg "MARKS" = some (.int 4 t2)) :
    FnOk P w K mg base CX0 4 f fd ["thing", "states"] spAreShows := by
  have GW : FnOk P w K mg base CX0 3 fW fdW ["thing", "states"] spIsShow := ok_isShow FW FP bP mP FN bN mN FI bI mI FR bR mR mi ml ma ms mt mz mL mK
  have GR : FnOk P w K mg base CX0 1 fR fdR ["things"] (spIsRising K) := ok_isRising FR mz ma
  refine F.ok scAreShows (fun vs H Q E h => ?_) (fun cdv A outer s H vs Q E hr h => ?_)
  · obtain ⟨a, st, sw, nodes, rfl, _⟩ := h
    rfl
  · obtain ⟨a, st, sw, nodes, rfl, ha, hw, hs, ok, q⟩ := h
    have hr1 : Room 1 _ := hr.mono (by decide)
    refine ⟨_, pss_one (ps_ret (pe_and (pe_callB call_isi (by rfl) mi (by decide +kernel) (pa_cons (pv 0) (pa_cons (pe_bltn (v := .ty "tuple") (by rfl) mt (by decide +kernel) rfl) pa_nil)))
      (pe_and (pe_callB (cr_all rfl) (by rfl) ma (by decide +kernel) (pa_cons (pe_lc (own := [("one", 2)]) (g := gName 2) (tt := tYes) rfl scAreShows.nd (pi_tup (pv 0)) (blkOk_by (own := [("one", 2)]) (N := ["thing", "states", "one", "state", "_"]) (sc := defScope sAreShows) (by decide +kernel))
        (fun _ _ _ _ _ => pg_name (i := 2) scAreShows.nd rfl (.inl rfl)) (fun _ _ _ _ _ => pts_nil)
        (fun _ _ _ _ _ => pe_call GW hr (by rfl) mW FW.kp bW .nil pass0 (pa_cons (pv 2) (pa_cons (pv 1) pa_nil)))) pa_nil))
      (pe_one (pe_call GR hr1 (by rfl) mR FR.kp bR .nil pass0 (pa_cons (pe_lc (own := [("state", 3), ("_", 4)]) (g := gTup K 2 (gCons (gName 3) (gCons (gName 4) gNil))) (tt := tYes) rfl scAreShows.nd (pi_tup (pv 0))
          (blkOk_by (own := [("state", 3), ("_", 4)]) (N := ["thing", "states", "one", "state", "_"]) (sc := defScope sAreShows) (by decide +kernel))
          (fun _ _ _ _ _ => pg_tup rfl (pgs_cons (pg_name (i := 3) scAreShows.nd rfl (.inl rfl)) (pgs_cons (pg_name (i := 4) scAreShows.nd rfl (.inl rfl)) pgs_nil))) (fun _ _ _ _ _ => pts_nil) (fun _ _ _ _ _ => pv 3)) pa_nil)))))), ?_⟩
    have few := ok.few
    have la : (refs sw).length = sw.length := List.length_map _
    refine ⟨_, rfl, _, _, .type "tuple", .type "tuple", true, rfl, .ty _, .base (.tup ha), kit_ty (by decide +kernel), _, rfl, iteT ?_⟩
    refine ⟨_, rfl, a, rfl, ⟨_, SqT.of ha⟩, fun D hD => lc_tup (K := K) (a := a) (xs := refs sw) (fun i H4 => Same H H4 ∧ H4 D = some (.lst (List.replicate i (.bl true)))) ⟨same_upd hD, upd_same⟩ (fun i H4 _ ⟨s4, _⟩ => SqT.of (s4 _ _ ha)) ?_ ?_⟩
    · rintro i v H4 hi ⟨s4, e4⟩
      obtain ⟨x, hx, rfl⟩ := at_refs hi
      have mx := List.mem_of_getElem? hx
      have il : i < sw.length := (List.getElem?_eq_some_iff.mp hx).1
      refine ⟨rfl, lcYes ⟨_, rfl, _, rfl, x.1, st, x.2.2.1, x.2.1, x.2.2.2, nodes, rfl, s4 _ _ (hw x mx).1, s4 _ _ (hw x mx).2, s4 _ _ hs, ok.sin x mx, ok.mo x mx, fun H5 s5 => ⟨_, s5 _ _ e4, by rw [List.length_replicate]; exact lt_line (by omega), same_put (s4.trans s5) hD, by rw [upd_same, List.replicate_succ']⟩⟩⟩
    · rintro H4 ⟨s4, e4⟩
      rw [la] at e4
      refine ⟨D, List.replicate sw.length true, rfl, SqL.of (by rw [List.map_replicate]; exact e4), ?_⟩
      rw [all_true]
      refine ⟨_, rfl, iteT ?_⟩
      refine ⟨_, rfl, a, rfl, ⟨_, SqT.of (s4 _ _ ha)⟩, fun D2 hD2 => lc_tup (K := K) (a := a) (xs := refs sw) (fun i H5 => Same H4 H5 ∧ H5 D2 = some (.lst ((swN (sw.take i)).map V.str))) ⟨same_upd hD2, upd_same⟩ (fun i H5 _ ⟨s5, _⟩ => SqT.of (s5 _ _ (s4 _ _ ha))) ?_ ?_⟩
      · rintro i v H5 hi ⟨s5, e5⟩
        obtain ⟨x, hx, rfl⟩ := at_refs hi
        have mx := List.mem_of_getElem? hx
        have il : i < sw.length := (List.getElem?_eq_some_iff.mp hx).1
        refine ⟨x.1, _, rfl, SqT.of (s5 _ _ (s4 _ _ (hw x mx).1)), rfl, _, _, rfl, _, _, rfl, rfl, rfl, lcYes ?_⟩
        refine ⟨_, rfl, _, e5, by rw [List.length_map, List.length_map, List.length_take]; exact lt_line (by omega), same_put s5 hD2, ?_⟩
        rw [upd_same, take_next hx]
        unfold swN
        rw [List.map_append, List.map_append]
        rfl
      · rintro H5 ⟨s5, e5⟩
        rw [la, List.take_length] at e5
        exact ⟨D2, (swN sw).map V.str, (swN sw).map sd, rfl, .inr (SqL.of e5), dpa_strs _, by rw [List.length_map, List.length_map]; omega, steps_strs ok.up, fun H6 s6 => q _ ((s4.trans s5).trans s6)⟩
end
end Mr

/-! O -/
set_option Elab.async false
set_option linter.all false
set_option maxRecDepth 100000
set_option maxHeartbeats 2000000
namespace Mr
open PySem PySem.Spec PyProof.Rows L2 TL MrS RZ PySem.W
abbrev sClass : Stmt := topS 18
abbrev sInit : Stmt := inClass sClass 0
abbrev sMarks : Stmt := inClass sClass 1
abbrev sNext : Stmt := inClass sClass 2
abbrev sWithout : Stmt := inClass sClass 3
abbrev sLen : Stmt := inClass sClass 4
abbrev sEq : Stmt := inClass sClass 5
abbrev sRepr : Stmt := inClass sClass 6
abbrev nInit : List Str := ["self", "states", "moves", "begins", "shows"]
theorem scInit : FnScope nInit nInit (defScope sInit) := ⟨rfl, rfl, rfl, by decide +kernel, rfl, by decide +kernel, by decide +kernel⟩
theorem scMarks : FnScope ["self", "state", "one", "marks"] ["self", "state"] (defScope sMarks) := ⟨rfl, rfl, rfl, by decide +kernel, rfl, by decide +kernel, by decide +kernel⟩
theorem scNext : FnScope ["self", "state", "other", "one"] ["self", "state"] (defScope sNext) := ⟨rfl, rfl, rfl, by decide +kernel, rfl, by decide +kernel, by decide +kernel⟩
theorem scWithout : FnScope ["self", "moves", "kept", "lost", "move"] ["self", "moves"] (defScope sWithout) := ⟨rfl, rfl, rfl, by decide +kernel, rfl, by decide +kernel, by decide +kernel⟩
theorem scLen : FnScope ["self"] ["self"] (defScope sLen) := ⟨rfl, rfl, rfl, by decide +kernel, rfl, by decide +kernel, by decide +kernel⟩
theorem scEq : FnScope ["self", "other"] ["self", "other"] (defScope sEq) := ⟨rfl, rfl, rfl, by decide +kernel, rfl, by decide +kernel, by decide +kernel⟩
theorem scRepr : FnScope ["self"] ["self"] (defScope sRepr) := ⟨rfl, rfl, rfl, by decide +kernel, rfl, by decide +kernel, by decide +kernel⟩
/-! what a Table is -/
def fldsT (aS aM aB aW : Addr) : List (Str × V) := [("states", .ref aS), ("moves", .ref aM), ("begins", .ref aB), ("shows", .ref aW)]
theorem f12 : ¬ ("states" : Str) = "moves" := by decide +kernel
theorem f13 : ¬ ("states" : Str) = "begins" := by decide +kernel
theorem f14 : ¬ ("states" : Str) = "shows" := by decide +kernel
theorem f23 : ¬ ("moves" : Str) = "begins" := by decide +kernel
theorem f24 : ¬ ("moves" : Str) = "shows" := by decide +kernel
theorem f34 : ¬ ("begins" : Str) = "shows" := by decide +kernel
section
variable {aS aM aB aW : Addr}
theorem flds_put : putF "shows" (.ref aW) (putF "begins" (.ref aB) (putF "moves" (.ref aM) (putF "states" (.ref aS) []))) = fldsT aS aM aB aW := by
  unfold fldsT
  simp only [putF, if_neg f12, if_neg f13, if_neg f14, if_neg f23, if_neg f24, if_neg f34]
theorem beq_no {a b : Str} (h : ¬ a = b) : (a == b) = false := by
  cases e : (a == b) with
  | false => rfl
  | true => exact absurd (eq_of_beq e) h
theorem lkS : (fldsT aS aM aB aW).lookup ("states" : Str) = some (V.ref aS) := by
  unfold fldsT
  rw [List.lookup_cons_self]
theorem lkM : (fldsT aS aM aB aW).lookup ("moves" : Str) = some (V.ref aM) := by
  unfold fldsT
  rw [List.lookup_cons, beq_no (fun e => f12 e.symm), List.lookup_cons_self]
theorem lkB : (fldsT aS aM aB aW).lookup ("begins" : Str) = some (V.ref aB) := by
  unfold fldsT
  rw [List.lookup_cons, beq_no (fun e => f13 e.symm), List.lookup_cons, beq_no (fun e => f23 e.symm), List.lookup_cons_self]
theorem lkW : (fldsT aS aM aB aW).lookup ("shows" : Str) = some (V.ref aW) := by
  unfold fldsT
  rw [List.lookup_cons, beq_no (fun e => f14 e.symm), List.lookup_cons, beq_no (fun e => f24 e.symm), List.lookup_cons, beq_no (fun e => f34 e.symm), List.lookup_cons_self]
theorem lkNo {m : Str} (h1 : ¬ m = "states") (h2 : ¬ m = "moves") (h3 : ¬ m = "begins") (h4 : ¬ m = "shows") : (fldsT aS aM aB aW).lookup m = none := by
  unfold fldsT
  rw [List.lookup_cons, beq_no h1, List.lookup_cons, beq_no h2, List.lookup_cons, beq_no h3, List.lookup_cons, beq_no h4, List.lookup_nil]
end
/-- the four parts as they stand -/
structure PartAt (H : Hp) (aS aM aB aW : Addr) (nodes : List Str) (as : List (Addr × (Str × Str))) (firsts : List Str) (sw : Sw) : Prop where
  hS : H aS = some (.tup (nodes.map V.str))
  hM : H aM = some (.tup (refs as))
  hP : PairsAt H as
  hB : H aB = some (.tup (firsts.map V.str))
  hW : H aW = some (.tup (refs sw))
  hH : ShowsAt H sw
theorem PartAt.same {H H1 : Hp} {aS aM aB aW : Addr} {nodes : List Str} {as : List (Addr × (Str × Str))} {firsts : List Str} {sw : Sw} (h : PartAt H aS aM aB aW nodes as firsts sw) (s : Same H H1) : PartAt H1 aS aM aB aW nodes as firsts sw :=
  ⟨s _ _ h.hS, s _ _ h.hM, h.hP.same s, s _ _ h.hB, s _ _ h.hW, h.hH.same s⟩
structure PartOk (nodes : List Str) (as : List (Addr × (Str × Str))) (firsts : List Str) (sw : Sw) : Prop where
  n1 : 1 ≤ nodes.length
  n8 : nodes.length ≤ 8
  nn : ∀ x ∈ nodes, isNm x
  nu : Up sd nodes
  mv : MvOk nodes as
  f1 : 0 < firsts.length
  f2 : firsts.length ≤ 100
  fin : ∀ x ∈ firsts, x ∈ nodes
  fu : Up sd firsts
  sh : ShOk nodes sw
structure Txt (K : PySem.W.Frag) (mg : Str → Option Value) (C : Addr) : Prop where
  cl : Cls K C
  nS : NoAttr K C "states"
  nM : NoAttr K C "moves"
  nB : NoAttr K C "begins"
  nW : NoAttr K C "shows"
  mgC : mg "Table" = some (.ref C)
section
variable {P : Program} {w : World} {K : PySem.W.Frag} {mg : Str → Option Value} {base : Heap}
/-- what the text's helpers are, by name -/
structure Hlp (K : PySem.W.Frag) (mg : Str → Option Value) (fP fR fI fN fS fM fV fB fW fX : Addr) (dP dR dI dN dS dM dV dB dW dX : FuncData) : Prop where
  FP : Fun K "is_pair" "is_pair" sIsPair fP dP
  bP : Binds K dP ["thing"] []
  mP : mg "is_pair" = some (.ref fP)
  FR : Fun K "is_rising" "is_rising" sIsRising fR dR
  bR : Binds K dR ["things"] []
  mR : mg "is_rising" = some (.ref fR)
  FI : Fun K "is_name" "is_name" sIsName fI dI
  bI : Binds K dI ["thing"] []
  mI : mg "is_name" = some (.ref fI)
  FN : Fun K "is_names" "is_names" sIsNames fN dN
  bN : Binds K dN ["thing", "most"] []
  mN : mg "is_names" = some (.ref fN)
  FS : Fun K "first_still" "first_still" sStill fS dS
  bS : Binds K dS ["moves", "states"] []
  mS : mg "first_still" = some (.ref fS)
  FM : Fun K "_is_move" "_is_move" sIsMove fM dM
  bM : Binds K dM ["thing", "states"] []
  mM : mg "_is_move" = some (.ref fM)
  FV : Fun K "_are_moves" "_are_moves" sAreMoves fV dV
  bV : Binds K dV ["thing", "states"] []
  mV : mg "_are_moves" = some (.ref fV)
  FB : Fun K "_are_begins" "_are_begins" sAreBegins fB dB
  bB : Binds K dB ["thing", "states"] []
  mB : mg "_are_begins" = some (.ref fB)
  FW : Fun K "_is_show" "_is_show" sIsShow fW dW
  bW : Binds K dW ["thing", "states"] []
  mW : mg "_is_show" = some (.ref fW)
  FX : Fun K "_are_shows" "_are_shows" sAreShows fX dX
  bX : Binds K dX ["thing", "states"] []
  mX : mg "_are_shows" = some (.ref fX)
  mi : mg "isinstance" = none
  ml : mg "len" = none
  ma : mg "all" = none
  ms : mg "str" = none
  mt : mg "tuple" = none
  mz : mg "zip" = none
  mLe : ∃ t, mg "LETTERS" = some (.int 8 t)
  mMk : ∃ t, mg "MARKS" = some (.int 4 t)
  mMv : ∃ t, mg "MOVES" = some (.int 24 t)
  mSt : ∃ t, mg "STATES" = some (.int 8 t)
def spInit (C : Addr) : Sp := fun vs H Q _ => ∃ (p dx aS aM aB aW : Addr) (nodes : List Str) (as : List (Addr × (Str × Str))) (firsts : List Str) (sw : Sw), vs = [.ref p, .ref aS, .ref aM, .ref aB, .ref aW] ∧ H p = some (.ins C dx []) ∧
  PartAt H aS aM aB aW nodes as firsts sw ∧ PartOk nodes as firsts sw ∧ ∀ H', (∀ b o, H b = some o → b ≠ p → H' b = some o) → H' p = some (.ins C dx (fldsT aS aM aB aW)) → Q .non H'
theorem ok_init {fP fR fI fN fS fM fV fB fW fX f C : Addr} {dP dR dI dN dS dM dV dB dW dX fd : FuncData} (F : Fun K "__init__" "Table.__init__" sInit f fd) (T : Txt K mg C) (Z : Hlp K mg fP fR fI fN fS fM fV fB fW fX dP dR dI dN dS dM dV dB dW dX) :
    FnOk P w K mg base CX0 5 f fd nInit (spInit C) := by
  obtain ⟨t1, zL⟩ := Z.mLe
  obtain ⟨t2, zK⟩ := Z.mMk
  obtain ⟨t3, zV⟩ := Z.mMv
  obtain ⟨t4, zS⟩ := Z.mSt
  have GN : FnOk P w K mg base CX0 2 fN dN ["thing", "most"] spIsNames := ok_isNames Z.FN Z.FI Z.bI Z.mI Z.FR Z.bR Z.mR Z.mi Z.ml Z.ma Z.ms Z.mt Z.mz zL
  have GV : FnOk P w K mg base CX0 3 fV dV ["thing", "states"] spAreMoves := ok_areMoves Z.FV Z.FM Z.bM Z.mM Z.FP Z.bP Z.mP Z.FR Z.bR Z.mR Z.FS Z.bS Z.mS Z.mi Z.ml Z.mt Z.ma Z.mz zV
  have GB : FnOk P w K mg base CX0 2 fB dB ["thing", "states"] spAreBegins := ok_areBegins Z.FB Z.FR Z.bR Z.mR Z.mi Z.ml Z.mt Z.ma Z.mz
  have GX : FnOk P w K mg base CX0 4 fX dX ["thing", "states"] spAreShows := ok_areShows Z.FX Z.FW Z.bW Z.mW Z.FP Z.bP Z.mP Z.FN Z.bN Z.mN Z.FI Z.bI Z.mI Z.FR Z.bR Z.mR Z.mi Z.ml Z.ma Z.ms Z.mt Z.mz zL zK
  refine F.ok scInit (fun vs H Q E h => ?_) (fun cdv A outer s H vs Q E hr h => ?_)
  · obtain ⟨p, dx, aS, aM, aB, aW, nodes, as, firsts, sw, rfl, _⟩ := h
    rfl
  · obtain ⟨p, dx, aS, aM, aB, aW, nodes, as, firsts, sw, rfl, hp, D, ok, q⟩ := h
    have hr2 : Room 2 _ := hr.mono (by decide)
    have hr3 : Room 3 _ := hr.mono (by decide)
    refine ⟨_, pss_cons (ps_if (pt_not (pt_val (pe_call GN hr2 (by rfl) Z.mN Z.FN.kp Z.bN .nil pass0 (pa_cons (pv 1) (pa_cons (pe_glob (v := .int 8) rfl zS ⟨_, rfl⟩) pa_nil))))) (pss_one ps_never) pss_nil)
      (pss_cons (ps_if (pt_not (pt_val (pe_call GV hr3 (by rfl) Z.mV Z.FV.kp Z.bV .nil pass0 (pa_cons (pv 2) (pa_cons (pv 1) pa_nil))))) (pss_one ps_never) pss_nil)
      (pss_cons (ps_if (pt_not (pt_val (pe_call GB hr2 (by rfl) Z.mB Z.FB.kp Z.bB .nil pass0 (pa_cons (pv 3) (pa_cons (pv 1) pa_nil))))) (pss_one ps_never) pss_nil)
      (pss_cons (ps_if (pt_not (pt_val (pe_call GX hr (by rfl) Z.mX Z.FX.kp Z.bX .nil pass0 (pa_cons (pv 4) (pa_cons (pv 1) pa_nil))))) (pss_one ps_never) pss_nil)
      (pss_cons (ps_fld (pv 0) (pv 1) rfl) (pss_cons (ps_fld (pv 0) (pv 2) rfl) (pss_cons (ps_fld (pv 0) (pv 3) rfl) (pss_one (ps_fld (pv 0) (pv 4) rfl)))))))), ?_⟩
    have n8 := ok.n8
    refine ⟨_, rfl, aS, nodes, 8, rfl, D.hS, ok.n1, by omega, by omega, ok.nn, ok.nu, fun H1 s1 => ⟨_, rfl, iteF ?_⟩⟩
    have D1 := D.same s1
    refine ⟨_, rfl, _, rfl, aM, aS, as, nodes, rfl, D1.hM, D1.hP, D1.hS, ok.mv, fun H2 s2 => ⟨_, rfl, iteF ?_⟩⟩
    have D2 := D1.same s2
    refine ⟨_, rfl, _, rfl, aB, aS, firsts, nodes, rfl, D2.hB, D2.hS, ok.f1, ok.f2, ok.fin, ok.fu, fun H3 s3 => ⟨_, rfl, iteF ?_⟩⟩
    have D3 := D2.same s3
    refine ⟨_, rfl, _, rfl, aW, aS, sw, nodes, rfl, D3.hW, D3.hH, D3.hS, ok.sh, fun H4 s4 => ⟨_, rfl, iteF ?_⟩⟩
    have s14 := ((s1.trans s2).trans s3).trans s4
    refine ⟨_, rfl, _, rfl, p, C, dx, [], rfl, s14 _ _ hp, T.cl, T.nS, (by show 0 < 1000; decide), ?_⟩
    refine ⟨_, rfl, _, rfl, p, C, dx, _, rfl, upd_same, T.cl, T.nM, (by show 1 < 1000; decide), ?_⟩
    refine ⟨_, rfl, _, rfl, p, C, dx, _, rfl, upd_same, T.cl, T.nB, ?_, ?_⟩
    · simp only [putF, if_neg f12]
      show 2 < 1000
      decide
    refine ⟨_, rfl, _, rfl, p, C, dx, _, rfl, upd_same, T.cl, T.nW, ?_, ?_⟩
    · simp only [putF, if_neg f12, if_neg f13, if_neg f23]
      show 3 < 1000
      decide
    rw [flds_put]
    refine q _ (fun b o e n => ?_) upd_same
    rw [upd_ne n, upd_ne n, upd_ne n, upd_ne n]
    exact s14 _ _ e
end
end Mr

/-! P -/
set_option Elab.async false
set_option linter.all false
set_option maxRecDepth 100000
set_option maxHeartbeats 2000000
namespace Mr
open PySem PySem.Spec PyProof.Rows L2 TL MrS RZ PySem.W
/-! pairs in lists and tuples of pairs -/
theorem pd_plain (p : Str × Str) : (pd p).plain = true := by simp [PyData.plain, PyData.plainAll]
theorem pds_plain : ∀ l : List (Str × Str), PyData.plainAll (l.map pd) = true
  | [] => by simp [PyData.plainAll]
  | p :: l => by
    rw [List.map_cons, PyData.plainAll, pds_plain l, pd_plain]
    rfl
theorem pds_depth : ∀ l : List (Str × Str), PyData.depthAll (l.map pd) ≤ 1
  | [] => by simp [PyData.depthAll]
  | p :: l => by
    have h := pds_depth l
    rw [List.map_cons, PyData.depthAll, depth_pd]
    omega
theorem sd_eqv (x y : Str) : PyData.eqv (sd x) (sd y) = decide (x = y) := by
  by_cases h : x = y
  · rw [h]; simp [PyData.eqv]
  · simp [PyData.eqv, h]
theorem pd_eqv (p q : Str × Str) : PyData.eqv (pd p) (pd q) = decide (p = q) := by
  obtain ⟨a, b⟩ := p
  obtain ⟨c, d⟩ := q
  have e : PyData.eqv (pd (a, b)) (pd (c, d)) = (PyData.eqv (sd a) (sd c) && (PyData.eqv (sd b) (sd d) && true)) := by simp only [PyData.eqv, PyData.eqvAll]
  rw [e, sd_eqv, sd_eqv]
  by_cases h1 : a = c
  · by_cases h2 : b = d
    · simp [h1, h2]
    · simp [h1, h2]
  · simp [h1]
theorem any_pd (p : Str × Str) (l : List (Str × Str)) : ((l.map pd).any fun z => PyData.eqv z (pd p)) = decide (p ∈ l) := by
  induction l with
  | nil => simp
  | cons q l ih =>
    rw [List.map_cons, List.any_cons, ih, pd_eqv]
    by_cases h : q = p
    · simp [h]
    · simp [h, Ne.symm h]
/-- a pair in a list or a tuple of pairs -/
def rInP (K : PySem.W.Frag) (neg : Bool) : R2 := fun x y H Q => ∃ (a l : Addr) (p : Str × Str) (as : List (Addr × (Str × Str))), x = .ref a ∧ y = .ref l ∧ H a = some (.tup [.str p.1, .str p.2]) ∧ (SqL K H l (refs as) ∨ SqT K H l (refs as)) ∧ PairsAt H as ∧
  Q (.bl (if neg = true then !decide (p ∈ as.map (·.2)) else decide (p ∈ as.map (·.2)))) H
section
variable {X : Cx}
theorem pd_dp {K : PySem.W.Frag} {H : Hp} {a : Addr} {p : Str × Str} (h : H a = some (.tup [.str p.1, .str p.2])) : Dp K H (.ref a) (pd p) := .tup (SqT.of h) (.cons (.str p.1) (.cons (.str p.2) .nil))
theorem room_pd {l : List (Str × Str)} {p : Str × Str} {n : Nat} (hu : n + 64 < cLine) : n + 1 + min (PyData.depthAll (l.map pd)) (pd p).depth < cLine := by
  have := pds_depth l
  omega
theorem op_notInP (K : PySem.W.Frag) (hu : X.A.units + 64 < cLine) (h : X.K = K := by rfl) : OpR X (compareOp .NotIn) (rInP K true) := by
  subst h
  intro pins s σ H x y v u Q I rx ry h
  obtain ⟨a, l, p, as, rfl, rfl, ha, hl, hp, q⟩ := h
  obtain ⟨bs, r1⟩ := Dp.reads I (pd p) (.ref a) v (pd_dp ha) rx
  rw [if_pos rfl, ← any_pd] at q
  rcases hl with hl | hl
  · obtain ⟨cs, r2⟩ := Dp.reads I (.list ((as.map (·.2)).map pd)) (.ref l) u (.lst hl (dpa_pairs hp)) ry
    exact SeqAt.notIn_list_data r2 r1 (pds_plain _) (pd_plain p) (room_pd hu) ⟨.bl _, H, I, rfl, q⟩
  · obtain ⟨cs, r2⟩ := Dp.reads I (.tuple ((as.map (·.2)).map pd)) (.ref l) u (.tup hl (dpa_pairs hp)) ry
    exact SeqAt.notIn_tuple_data r2 r1 (pds_plain _) (pd_plain p) (room_pd hu) ⟨.bl _, H, I, rfl, q⟩
end
end Mr

/-! Q -/
set_option Elab.async false
set_option linter.all false
set_option maxRecDepth 100000
set_option maxHeartbeats 2000000
namespace Mr
open PySem PySem.Spec PyProof.Rows L2 TL MrS RZ PySem.W
structure ObAt (C : Addr) (H : Hp) (p aS aM aB aW : Addr) (nodes : List Str) (as : List (Addr × (Str × Str))) (firsts : List Str) (sw : Sw) : Prop where
  ob : ∃ dx, H p = some (.ins C dx (fldsT aS aM aB aW))
  pt : PartAt H aS aM aB aW nodes as firsts sw
theorem ObAt.same {C : Addr} {H H1 : Hp} {p aS aM aB aW : Addr} {nodes : List Str} {as : List (Addr × (Str × Str))} {firsts : List Str} {sw : Sw} (h : ObAt C H p aS aM aB aW nodes as firsts sw) (s : Same H H1) : ObAt C H1 p aS aM aB aW nodes as firsts sw :=
  ⟨h.ob.imp fun dx e => s _ _ e, h.pt.same s⟩
/-- the marks that a state shows -/
def markOf (sw : Sw) (x : Str) : List Str := ((sw.find? fun y => decide (y.2.1 = x)).map fun y => y.2.2.2).getD []
theorem mark_none {sw : Sw} {x : Str} (h : ∀ y ∈ sw, y.2.1 ≠ x) : markOf sw x = [] := by
  unfold markOf
  have e : sw.find? (fun y => decide (y.2.1 = x)) = none := by
    rw [List.find?_eq_none]
    intro y hy
    simp [h y hy]
  rw [e]
  rfl
theorem mark_some {sw : Sw} {x : Str} {i : Nat} {y : Addr × (Str × (Addr × List Str))} (hi : sw[i]? = some y) (h : ∀ z ∈ sw.take i, z.2.1 ≠ x) (e : y.2.1 = x) : markOf sw x = y.2.2.2 := by
  unfold markOf
  obtain ⟨hl, e1⟩ := List.getElem?_eq_some_iff.mp hi
  have e2 : sw = sw.take i ++ y :: sw.drop (i + 1) := by
    rw [← e1, List.getElem_cons_drop, List.take_append_drop]
  rw [e2, List.find?_append]
  have e3 : (sw.take i).find? (fun y => decide (y.2.1 = x)) = .none := by
    rw [List.find?_eq_none]
    intro z hz
    simp [h z hz]
  rw [e3]
  simp [e]
/-- the states behind -/
def nextL (as : List (Addr × (Str × Str))) (x : Str) : List Str := (as.filter fun y => decide (y.2.1 = x)).map fun y => y.2.2
theorem nextL_app (as : List (Addr × (Str × Str))) (y : Addr × (Str × Str)) (x : Str) : nextL (as ++ [y]) x = nextL as x ++ (if y.2.1 = x then [y.2.2] else []) := by
  unfold nextL
  rw [List.filter_append, List.map_append]
  by_cases h : y.2.1 = x
  · simp [h]
  · simp [h]
theorem nextL_le (as : List (Addr × (Str × Str))) (x : Str) : (nextL as x).length ≤ as.length := by
  unfold nextL
  rw [List.length_map]
  exact List.length_filter_le _ _
section
variable {P : Program} {w : World} {K : PySem.W.Frag} {mg : Str → Option Value} {base : Heap}
def spMarks (C : Addr) : Sp := fun vs H Q _ => ∃ (p aS aM aB aW : Addr) (nodes : List Str) (as : List (Addr × (Str × Str))) (firsts : List Str) (sw : Sw) (x : Str), vs = [.ref p, .str x] ∧ ObAt C H p aS aM aB aW nodes as firsts sw ∧
  ∀ v H', Same H H' → H' v = some (.tup ((markOf sw x).map V.str)) → Q (.ref v) H'
theorem ok_marks {f C : Addr} {fd : FuncData} {k : Nat} (F : Fun K "marks_of" "Table.marks_of" sMarks f fd) (T : Txt K mg C) : FnOk P w K mg base CX0 (k + 1) f fd ["self", "state"] (spMarks C) := by
  refine F.ok scMarks (fun vs H Q E h => ?_) (fun cdv A outer s H vs Q E hr h => ?_)
  · obtain ⟨p, aS, aM, aB, aW, nodes, as, firsts, sw, x, rfl, _⟩ := h
    rfl
  · obtain ⟨p, aS, aM, aB, aW, nodes, as, firsts, sw, x, rfl, ⟨⟨dx, hp⟩, D⟩, q⟩ := h
    refine ⟨_, pss_cons (ps_for PassesOwn.never rfl (pi_tup (pe_fld (pv 0) rfl)) (pg_tup rfl (pgs_cons (pg_name (i := 2) scMarks.nd rfl (.inl rfl)) (pgs_cons (pg_name (i := 3) scMarks.nd rfl (.inl rfl)) pgs_nil)))
        (pss_one (ps_if (pt_cmpR op_eq (pv 2) (pv 1) (nomark _)) (pss_one (ps_ret (pv 3))) pss_nil)))
      (pss_one (ps_ret (pe_tup pa_nil))), ?_⟩
    refine ⟨_, rfl, p, C, dx, _, _, rfl, hp, T.cl, T.nW, lkW, aW, rfl, ⟨_, SqT.of D.hW⟩, for_tup (K := K) (a := aW) (xs := refs sw) (fun i σ H5 => ∃ (y2 y3 : Option V), σ = [some (.ref p), some (.str x), y2, y3] ∧ H5 = H ∧ ∀ y ∈ sw.take i, y.2.1 ≠ x)
      ⟨_, _, rfl, rfl, fun y hy => by cases hy⟩ (fun i σ H5 _ ⟨_, _, _, e, _⟩ => by rw [e]; exact SqT.of D.hW) ?_ ?_⟩
    · rintro i v σ H5 hi ⟨y2, y3, rfl, rfl, al⟩
      obtain ⟨y, hy, rfl⟩ := at_refs hi
      have my := List.mem_of_getElem? hy
      refine ⟨y.1, _, rfl, SqT.of (D.hH y my).1, rfl, _, _, rfl, _, _, rfl, rfl, ?_⟩
      refine ⟨_, rfl, _, rfl, rfl, _, rfl, ite2 (fun e => ?_) (fun e => ?_)⟩
      · have e1 : y.2.1 = x := V.str.inj (of_decide_eq_true e)
        refine ⟨_, rfl, q _ _ (fun _ _ z => z) ?_⟩
        rw [mark_some hy al e1]
        exact (D.hH y my).2
      · have e1 : y.2.1 ≠ x := fun z => e (decide_eq_true (by rw [z]))
        refine ⟨_, _, rfl, rfl, fun z hz => ?_⟩
        rw [take_next hy] at hz
        rcases List.mem_append.mp hz with z1 | z1
        · exact al z z1
        · rw [List.mem_singleton.mp z1]; exact e1
    · rintro σ H5 ⟨y2, y3, rfl, rfl, al⟩
      rw [show (refs sw).length = sw.length from List.length_map _, List.take_length] at al
      refine ⟨Nat.zero_le _, fun t ht => q t _ (same_upd ht) ?_⟩
      rw [upd_same, mark_none al]
      rfl
def spNext (C : Addr) : Sp := fun vs H Q _ => ∃ (p aS aM aB aW : Addr) (nodes : List Str) (as : List (Addr × (Str × Str))) (firsts : List Str) (sw : Sw) (x : Str), vs = [.ref p, .str x] ∧ ObAt C H p aS aM aB aW nodes as firsts sw ∧ as.length ≤ 100 ∧
  ∀ v H', H v = none → Same H H' → H' v = some (.lst ((nextL as x).map V.str)) → Q (.ref v) H'
theorem ok_next {f C : Addr} {fd : FuncData} {k : Nat} (F : Fun K "next_of" "Table.next_of" sNext f fd) (T : Txt K mg C) : FnOk P w K mg base CX0 (k + 1) f fd ["self", "state"] (spNext C) := by
  refine F.ok scNext (fun vs H Q E h => ?_) (fun cdv A outer s H vs Q E hr h => ?_)
  · obtain ⟨p, aS, aM, aB, aW, nodes, as, firsts, sw, x, rfl, _⟩ := h
    rfl
  · obtain ⟨p, aS, aM, aB, aW, nodes, as, firsts, sw, x, rfl, ⟨⟨dx, hp⟩, D⟩, few, q⟩ := h
    refine ⟨_, pss_one (ps_ret (pe_lc (own := [("other", 2), ("one", 3)]) (g := gTup K 2 (gCons (gName 3) (gCons (gName 2) gNil))) rfl scNext.nd (pi_tup (pe_fld (pv 0) rfl))
          (blkOk_by (own := [("other", 2), ("one", 3)]) (N := ["self", "state", "other", "one"]) (sc := defScope sNext) (by decide +kernel))
          (fun _ _ _ _ _ => pg_tup rfl (pgs_cons (pg_name (i := 3) scNext.nd rfl (.inl rfl)) (pgs_cons (pg_name (i := 2) scNext.nd rfl (.inl rfl)) pgs_nil)))
          (fun _ _ _ _ _ => pts_one (pt_cmpR op_eq (pv 3) (pv 1) (nomark _))) (fun _ _ _ _ _ => pv 2))), ?_⟩
    refine ⟨_, rfl, p, C, dx, _, _, rfl, hp, T.cl, T.nM, lkM, aM, rfl, ⟨_, SqT.of D.hM⟩, fun R hR => lc_tup (K := K) (a := aM) (xs := refs as) (fun i H4 => Same H H4 ∧ H4 R = some (.lst ((nextL (as.take i) x).map V.str))) ⟨same_upd hR, upd_same⟩ (fun i H4 _ ⟨s4, _⟩ => SqT.of (s4 _ _ D.hM)) ?_ ?_⟩
    · rintro i v H4 hi ⟨s4, e4⟩
      obtain ⟨y, hy, rfl⟩ := at_refs hi
      have il : i < as.length := (List.getElem?_eq_some_iff.mp hy).1
      have sm : (nextL (as.take i) x).length ≤ 1000 := Nat.le_trans (nextL_le _ _) (by rw [List.length_take]; omega)
      refine ⟨y.1, _, rfl, SqT.of (s4 _ _ (D.hP y (List.mem_of_getElem? hy))), rfl, _, _, rfl, _, _, rfl, rfl, rfl, ?_⟩
      refine ⟨_, rfl, _, rfl, rfl, _, rfl, ite2 (fun e => ?_) (fun e => ?_)⟩
      · have e1 : y.2.1 = x := V.str.inj (of_decide_eq_true e)
        refine ⟨_, rfl, _, e4, by rw [List.length_map]; exact lt_line sm, same_put s4 hR, ?_⟩
        rw [upd_same, take_next hy, nextL_app, if_pos e1, List.map_append]
        rfl
      · have e1 : ¬ y.2.1 = x := fun z => e (decide_eq_true (by rw [z]))
        refine ⟨s4, ?_⟩
        rw [take_next hy, nextL_app, if_neg e1, List.append_nil]
        exact e4
    · rintro H4 ⟨s4, e4⟩
      rw [show (refs as).length = as.length from List.length_map _, List.take_length] at e4
      exact q R H4 hR s4 e4
def spLen (C : Addr) : Sp := fun vs H Q _ => ∃ (p aS aM aB aW : Addr) (nodes : List Str) (as : List (Addr × (Str × Str))) (firsts : List Str) (sw : Sw), vs = [.ref p] ∧ ObAt C H p aS aM aB aW nodes as firsts sw ∧ Q (.int as.length) H
theorem ok_len {f C : Addr} {fd : FuncData} {k : Nat} (F : Fun K "__len__" "Table.__len__" sLen f fd) (T : Txt K mg C) (ml : mg "len" = none) : FnOk P w K mg base CX0 (k + 1) f fd ["self"] (spLen C) := by
  refine F.ok scLen (fun vs H Q E h => ?_) (fun cdv A outer s H vs Q E hr h => ?_)
  · obtain ⟨p, aS, aM, aB, aW, nodes, as, firsts, sw, rfl, _⟩ := h
    rfl
  · obtain ⟨p, aS, aM, aB, aW, nodes, as, firsts, sw, rfl, ⟨⟨dx, hp⟩, D⟩, q⟩ := h
    refine ⟨_, pss_one (ps_ret (pe_callB call_len_seq (by rfl) ml PySem.boot_len (pa_cons (pe_fld (pv 0) rfl) pa_nil))), ?_⟩
    refine ⟨_, rfl, p, C, dx, _, _, rfl, hp, T.cl, T.nM, lkM, aM, _, rfl, .inr (SqT.of D.hM), ?_⟩
    rw [show (refs as).length = as.length from List.length_map _]
    exact q
end
end Mr

/-! S -/
set_option Elab.async false
set_option linter.all false
set_option maxRecDepth 100000
set_option maxHeartbeats 2000000
namespace Mr
open PySem PySem.Spec PyProof.Rows L2 TL MrS RZ PySem.W
/-! == and != of plain data -/
def rEqP (K : PySem.W.Frag) (neg : Bool) : R2 := fun x y H Q => ∃ d e, Dp K H x d ∧ Dp K H y e ∧ d.plain = true ∧ e.plain = true ∧ d.depth ≤ 20 ∧ Q (.bl (if neg = true then !PyData.eqv d e else PyData.eqv d e)) H
section
variable {X : Cx}
theorem op_eqP (K : PySem.W.Frag) (hu : X.A.units + 64 < cLine) (h : X.K = K := by rfl) : OpR X (compareOp .Eq) (rEqP K false) := by
  subst h
  intro pins s σ H x y v u Q I rx ry h
  obtain ⟨d, e, hd, he, pd1, pe1, dp, q⟩ := h
  obtain ⟨as, r1⟩ := Dp.reads I d x v hd rx
  obtain ⟨bs, r2⟩ := Dp.reads I e y u he ry
  exact SeqAt.eq_plain r1 r2 pd1 pe1 (by omega) ⟨.bl _, H, I, rfl, q⟩
theorem op_neP (K : PySem.W.Frag) (hu : X.A.units + 64 < cLine) (h : X.K = K := by rfl) : OpR X (compareOp .NotEq) (rEqP K true) := by
  subst h
  intro pins s σ H x y v u Q I rx ry h
  obtain ⟨d, e, hd, he, pd1, pe1, dp, q⟩ := h
  obtain ⟨as, r1⟩ := Dp.reads I d x v hd rx
  obtain ⟨bs, r2⟩ := Dp.reads I e y u he ry
  exact SeqAt.ne_plain r1 r2 pd1 pe1 (by omega) ⟨.bl _, H, I, rfl, q⟩
end
theorem sds_plain : ∀ l : List Str, PyData.plainAll (l.map sd) = true
  | [] => by simp [PyData.plainAll]
  | p :: l => by
    rw [List.map_cons, PyData.plainAll, sds_plain l]
    simp [PyData.plain]
theorem sds_depth : ∀ l : List Str, PyData.depthAll (l.map sd) = 0
  | [] => by simp [PyData.depthAll]
  | p :: l => by
    rw [List.map_cons, PyData.depthAll, sds_depth l]
    simp [PyData.depth]
theorem tsd_plain (l : List Str) : (PyData.tuple (l.map sd)).plain = true := by rw [PyData.plain]; exact sds_plain l
theorem tsd_depth (l : List Str) : (PyData.tuple (l.map sd)).depth ≤ 20 := by rw [PyData.depth, sds_depth]; decide
theorem tsd_nil (l : List Str) : PyData.eqv (.tuple (l.map sd)) (.tuple []) = l.isEmpty := by
  cases l with
  | nil => simp [PyData.eqv, PyData.eqvAll]
  | cons x l => simp [PyData.eqv, PyData.eqvAll]
theorem dp_tstr {K : PySem.W.Frag} {H : Hp} {a : Addr} {l : List Str} (h : H a = some (.tup (l.map V.str))) : Dp K H (.ref a) (.tuple (l.map sd)) := .tup (SqT.of h) (dpa_strs l)
theorem val_tag : ∀ {ts : List (Str × Addr × List Str)} {x : Str × Addr × List Str}, (ts.map (·.1)).Nodup → x ∈ ts → valV (ts.map tagE) (.inr x.1) = some (.ref x.2.1)
  | [], _, _, h => by cases h
  | y :: ts, x, nd, h => by
    rw [List.map_cons, List.nodup_cons] at nd
    rcases List.mem_cons.mp h with e | h
    · rw [e, List.map_cons]
      exact valV_pos rfl
    · rw [List.map_cons]
      refine (valV_neg (fun z => ?_)).trans (val_tag nd.2 h)
      have e : y.1 = x.1 := Sum.inr.inj z
      exact nd.1 (by rw [e]; exact List.mem_map.mpr ⟨x, h, rfl⟩)
/-- the tags that are shown -/
def shown (ts : List (Str × Addr × List Str)) : List (Str × Addr × List Str) := ts.filter fun x => !x.2.2.isEmpty
theorem shown_app (ts : List (Str × Addr × List Str)) (x : Str × Addr × List Str) : shown (ts ++ [x]) = shown ts ++ (if x.2.2.isEmpty = true then [] else [x]) := by
  unfold shown
  rw [List.filter_append]
  cases h : x.2.2.isEmpty with
  | true => simp [h]
  | false => simp [h]
theorem ob_ok {t : TD} {as : List (Addr × (Str × Str))} {ts : List (Str × Addr × List Str)} {sw : Sw} (ok : TOk t) (mA : as.map (·.2) = t.arcs) (mG : ts.map (fun x => (x.1, x.2.2)) = t.tags) (e : sw.map (·.2) = shown ts) : PartOk t.nodes as t.firsts sw where
  n1 := ok.n1
  n8 := ok.n8
  nn := ok.nn
  nu := ok.nu
  mv := by
    refine ⟨?_, fun x hx => ?_, by rw [mA]; exact ok.au, fun n hn => ?_⟩
    · have := ok.a24
      rw [← mA, List.length_map] at this
      exact this
    · exact ok.ain x.2 (by rw [← mA]; exact List.mem_map.mpr ⟨x, hx, rfl⟩)
    · obtain ⟨p, hp, e⟩ := ok.aout n hn
      rw [← mA] at hp
      obtain ⟨x, hx, e2⟩ := List.mem_map.mp hp
      exact List.mem_map.mpr ⟨x, hx, by rw [e2]; exact e⟩
  f1 := List.length_pos_iff.mpr ok.f1
  f2 := by
    have := nd_len t.firsts t.nodes ok.fu.nodup ok.fin
    have := ok.n8
    omega
  fin := ok.fin
  fu := ok.fu
  sh := by
    have nm : ts.map (·.1) = t.nodes := by
      rw [← ok.ts, ← mG, List.map_map]
      rfl
    have sub : (swN sw).Sublist t.nodes := by
      have z : swN sw = (shown ts).map (·.1) := by
        rw [← e, List.map_map]
        rfl
      rw [z, ← nm]
      exact List.Sublist.map _ List.filter_sublist
    have at_ : ∀ x ∈ sw, x.2 ∈ ts ∧ x.2.2.2 ≠ [] := fun x hx => by
      have z : x.2 ∈ shown ts := by rw [← e]; exact List.mem_map.mpr ⟨x, hx, rfl⟩
      obtain ⟨z1, z2⟩ := List.mem_filter.mp z
      refine ⟨z1, fun z3 => ?_⟩
      rw [z3] at z2
      cases z2
    refine ⟨?_, fun x hx => ?_, fun x hx => ?_, ok.nu.sub sub⟩
    · have := sub.length_le
      rw [List.length_map] at this
      have := ok.n8
      omega
    · exact sub.subset (List.mem_map.mpr ⟨x, hx, rfl⟩)
    · obtain ⟨z1, z2⟩ := at_ x hx
      obtain ⟨u, l4, nm4⟩ := ok.tm (x.2.1, x.2.2.2) (by rw [← mG]; exact List.mem_map.mpr ⟨x.2, z1, rfl⟩)
      exact ⟨List.length_pos_iff.mpr z2, l4, nm4, u⟩
abbrev sMade : Stmt := topS 33
abbrev sNexts : Stmt := topS 34
theorem scMade : FnScope ["_law_t", "_law_shown", "_law_node"] ["_law_t"] (defScope sMade) := ⟨rfl, rfl, rfl, by decide +kernel, rfl, by decide +kernel, by decide +kernel⟩
theorem scNexts : FnScope ["_law_t", "_law_node", "_law_arc"] ["_law_t", "_law_node"] (defScope sNexts) := ⟨rfl, rfl, rfl, by decide +kernel, rfl, by decide +kernel, by decide +kernel⟩
section
variable {P : Program} {w : World} {K : PySem.W.Frag} {mg : Str → Option Value} {base : Heap}
theorem kb_made {f : Addr} {fd : FuncData} (F : Fun K "__init__" "Table.__init__" sInit f fd) : KBn K fd nInit 3 ["shows", "begins"] (fun us ws => us ++ ws.reverse) (fun vs zs => vs ++ zs.reverse) := by
  obtain ⟨oc, od, kV, doc, pm, an, cdv, ct, osl, rfl, lk, hcd⟩ := F.ex
  refine ⟨fun s us ws _ l1 l2 => BindsTo.of_eq ?_, fun r1 r2 => r1.append r2.reverse⟩
  match us, l1, ws, l2 with
  | [_, _, _], _, [_, _], _ => rfl
theorem kb_same {f : Addr} {fd : FuncData} (F : Fun K "__init__" "Table.__init__" sInit f fd) : KBn K fd nInit 3 ["begins", "shows"] (fun us ws => us ++ ws) (fun vs zs => vs ++ zs) := by
  obtain ⟨oc, od, kV, doc, pm, an, cdv, ct, osl, rfl, lk, hcd⟩ := F.ex
  refine ⟨fun s us ws _ l1 l2 => BindsTo.of_eq ?_, fun r1 r2 => r1.append r2⟩
  match us, l1, ws, l2 with
  | [_, _, _], _, [_, _], _ => rfl
end
end Mr

/-! U -/
set_option Elab.async false
set_option linter.all false
set_option maxRecDepth 100000
set_option maxHeartbeats 2000000
namespace Mr
open PySem PySem.Spec PyProof.Rows L2 TL MrS RZ PySem.W
section
variable {P : Program} {w : World} {K : PySem.W.Frag} {mg : Str → Option Value} {base : Heap}
def spMade (C : Addr) : Sp := fun vs H Q _ => ∃ (T : Addr) (t : TD) (aN aA aF aG : Addr) (as : List (Addr × (Str × Str))) (ts : List (Str × Addr × List Str)), vs = [.ref T] ∧ TOk t ∧ TabAt H T t aN aA aF aG as ts ∧
  ∀ p aS aM aB aW sw H', H p = none → Same H H' → ObAt C H' p aS aM aB aW t.nodes as t.firsts sw → sw.map (·.2) = shown ts → Q (.ref p) H'
theorem ok_made {fP fR fI fN fS fM fV fB fW fX f fT C : Addr} {dP dR dI dN dS dM dV dB dW dX fd fdT : FuncData} (F : Fun K "_law_made" "_law_made" sMade f fd) (FT : Fun K "__init__" "Table.__init__" sInit fT fdT) (M : Mk K C fT) (T : Txt K mg C)
    (Z : Hlp K mg fP fR fI fN fS fM fV fB fW fX dP dR dI dN dS dM dV dB dW dX) : FnOk P w K mg base CX0 7 f fd ["_law_t"] (spMade C) := by
  have GT : FnOk P w K mg base CX0 5 fT fdT nInit (spInit C) := ok_init FT T Z
  have mt := Z.mt
  refine F.ok scMade (fun vs H Q E h => ?_) (fun cdv A outer s H vs Q E hr h => ?_)
  · obtain ⟨T, t, aN, aA, aF, aG, as, ts, rfl, _⟩ := h
    rfl
  · obtain ⟨D, t, aN, aA, aF, aG, as, ts, rfl, ok, B, q⟩ := h
    have hu := hu_of hr
    refine ⟨_, pss_cons (ps_set (i := 1) scMade.nd rfl (.inl rfl) (pe_callTy call_tuple_of (by rfl) mt (by decide +kernel) (pa_cons
          (pe_lc (own := [("_law_node", 2)]) (g := gName 2) rfl scMade.nd (pi_list (pe_dget hu (pv 0) pe_str (fun _ _ => rfl))) (blkOk_by (own := [("_law_node", 2)]) (N := ["_law_t", "_law_shown", "_law_node"]) (sc := defScope sMade) (by decide +kernel))
            (fun _ _ _ _ _ => pg_name (i := 2) scMade.nd rfl (.inl rfl))
            (fun _ _ _ _ _ => pts_one (pt_cmpR (op_neP K (hu64 hr)) (pe_dget hu (pe_dget hu (pv 0) pe_str (fun _ _ => rfl)) (pv 2) (fun _ _ => rfl)) (pe_tup pa_nil) (nomark _)))
            (fun _ _ _ _ _ => pe_tup (pa_cons (pv 2) (pa_cons (pe_dget hu (pe_dget hu (pv 0) pe_str (fun _ _ => rfl)) (pv 2) (fun _ _ => rfl)) pa_nil)))) pa_nil)))
      (pss_one (ps_ret (pe_makeK M GT hr (by rfl) T.mgC (kb_made FT) pass0
        (pa_cons (pe_callTy call_tuple_of (by rfl) mt (by decide +kernel) (pa_cons (pe_dget hu (pv 0) pe_str (fun _ _ => rfl)) pa_nil))
          (pa_cons (pe_callTy call_tuple_of (by rfl) mt (by decide +kernel) (pa_cons (pe_dget hu (pv 0) pe_str (fun _ _ => rfl)) pa_nil)) pa_nil))
        (pk_cons (pv 1) (pk_cons (pe_callTy call_tuple_of (by rfl) mt (by decide +kernel) (pa_cons (pe_dget hu (pv 0) pe_str (fun _ _ => rfl)) pa_nil)) pk_nil))))), ?_⟩
    have nm : ts.map (·.1) = t.nodes := by
      rw [← ok.ts, ← B.mG, List.map_map]
      rfl
    have ndT : (ts.map (·.1)).Nodup := by rw [nm]; exact ok.nu.nodup
    have n8 := ok.n8
    have lts : ts.length = t.nodes.length := by rw [← nm, List.length_map]
    refine ⟨_, rfl, D, _, rfl, getN B.hT, aN, rfl, ⟨_, SqL.of B.hN⟩, fun R hR => lc_list (K := K) (a := aN) (xs := t.nodes.map V.str) (fun j H4 => ∃ sw : Sw, Same H H4 ∧ H4 R = some (.lst (refs sw)) ∧ ShowsAt H4 sw ∧ sw.map (·.2) = shown (ts.take j))
      ⟨[], same_upd hR, upd_same, (fun x hx => by cases hx), rfl⟩ (fun j H4 _ ⟨_, s4, _⟩ => SqL.of (s4 _ _ B.hN)) ?_ ?_⟩
    · rintro j v H4 hj ⟨sw, s4, e4, h4, m4⟩
      obtain ⟨nd, hnd, rfl⟩ := str_at hj
      obtain ⟨x, hx, ex⟩ : ∃ x, ts[j]? = some x ∧ x.1 = nd := by
        rw [← nm, List.getElem?_map] at hnd
        obtain ⟨x, h1, h2⟩ := Option.map_eq_some_iff.mp hnd
        exact ⟨x, h1, h2⟩
      have mx := List.mem_of_getElem? hx
      have vx : valV (ts.map tagE) (.inr nd) = some (.ref x.2.1) := by rw [← ex]; exact val_tag ndT mx
      have swl : sw.length ≤ 8 := by
        have z := congrArg List.length m4
        rw [List.length_map] at z
        have z2 : (shown (ts.take j)).length ≤ (ts.take j).length := List.length_filter_le _ _
        rw [List.length_take] at z2
        omega
      have dg : ∀ H', Same H H' → DGet H' aG (.str nd) (some (.ref x.2.1)) := fun H' s => by
        rw [← vx]
        exact DGet.k (k := .inr nd) (s _ _ B.hG)
      refine ⟨rfl, _, rfl, D, _, rfl, getG (s4 _ _ B.hT), _, rfl, aG, _, rfl, dg H4 s4, Nat.zero_le _, fun u hu0 => ?_⟩
      have s5 := same_put (o := .tup []) s4 (s4.free hu0)
      have e5 : (upd H4 u (.tup [])) R = some (.lst (refs sw)) := by rw [upd_ne (ne_of_none e4 hu0)]; exact e4
      have h5 : ShowsAt (upd H4 u (.tup [])) sw := h4.same (same_upd hu0)
      have eu : (upd H4 u (.tup [])) u = some (.tup []) := upd_same
      generalize upd H4 u (.tup []) = H5 at s5 e5 h5 eu ⊢
      refine ⟨.tuple (x.2.2.map sd), .tuple [], dp_tstr (s5 _ _ (B.eG x mx)), .tup (SqT.of eu) .nil, tsd_plain _, by simp [PyData.plain, PyData.plainAll], tsd_depth _, _, rfl, ?_⟩
      rw [tsd_nil, if_pos rfl]
      rw [take_next hx, shown_app]
      cases he : x.2.2.isEmpty with
      | true =>
        refine iteF ⟨sw, s5, e5, h5, ?_⟩
        rw [m4, if_pos rfl, List.append_nil]
      | false =>
        refine iteT ?_
        refine ⟨_, rfl, _, rfl, D, _, rfl, getG (s5 _ _ B.hT), _, rfl, aG, _, rfl, dg H5 s5, (by show 2 ≤ sizeLine; decide), fun y hy => ?_⟩
        have s6 := same_put (o := .tup [.str nd, .ref x.2.1]) s5 (s5.free hy)
        have e6 : (upd H5 y (.tup [.str nd, .ref x.2.1])) R = some (.lst (refs sw)) := by rw [upd_ne (ne_of_none e5 hy)]; exact e5
        have h6 : ShowsAt (upd H5 y (.tup [.str nd, .ref x.2.1])) sw := h5.same (same_upd hy)
        have ey : (upd H5 y (.tup [.str nd, .ref x.2.1])) y = some (.tup [.str nd, .ref x.2.1]) := upd_same
        generalize upd H5 y (.tup [.str nd, .ref x.2.1]) = H6 at s6 e6 h6 ey ⊢
        have nR : ∀ a xs, H6 a = some (.tup xs) → a ≠ R := fun a xs e z => by
          rw [z, e6] at e
          cases e
        refine ⟨_, e6, by rw [show (refs sw).length = sw.length from List.length_map _]; exact lt_line (by omega), sw ++ [(y, x)], same_put s6 hR, ?_, fun z hz => ?_, ?_⟩
        · rw [upd_same, refs_app]
          rfl
        · rcases List.mem_append.mp hz with z1 | z1
          · obtain ⟨g1, g2⟩ := h6 z z1
            exact ⟨by rw [upd_ne (nR _ _ g1)]; exact g1, by rw [upd_ne (nR _ _ g2)]; exact g2⟩
          · rw [List.mem_singleton.mp z1]
            have g2 := s6 _ _ (B.eG x mx)
            refine ⟨?_, by rw [upd_ne (nR _ _ g2)]; exact g2⟩
            rw [upd_ne (nR _ _ ey), ey, ← ex]
        · rw [List.map_append, m4, if_neg (by decide)]
          rfl
    · rintro H4 ⟨sw, s4, e4, h4, m4⟩
      rw [List.length_map, ← lts, List.take_length] at m4
      refine ⟨R, refs sw, rfl, .inl ⟨SqL.of e4, fun aW hW => ?_⟩⟩
      have s5 := same_put (o := .tup (refs sw)) s4 (s4.free hW)
      have h5 : ShowsAt (upd H4 aW (.tup (refs sw))) sw := h4.same (same_upd hW)
      have e5 : (upd H4 aW (.tup (refs sw))) aW = some (.tup (refs sw)) := upd_same
      generalize upd H4 aW (.tup (refs sw)) = H5 at s5 h5 e5 ⊢
      refine ⟨_, rfl, D, _, rfl, getN (s5 _ _ B.hT), aN, _, rfl, .inl ⟨SqL.of (s5 _ _ B.hN), fun aS hS => ?_⟩⟩
      have s6 := same_put (o := .tup (t.nodes.map V.str)) s5 (s5.free hS)
      have t6 := same_upd (o := .tup (t.nodes.map V.str)) hS
      have e6 : (upd H5 aS (.tup (t.nodes.map V.str))) aS = some (.tup (t.nodes.map V.str)) := upd_same
      generalize upd H5 aS (.tup (t.nodes.map V.str)) = H6 at s6 t6 e6 ⊢
      refine ⟨_, rfl, D, _, rfl, getA (s6 _ _ B.hT), aA, _, rfl, .inl ⟨SqL.of (s6 _ _ B.hA), fun aM hM => ?_⟩⟩
      have s7 := same_put (o := .tup (refs as)) s6 (s6.free hM)
      have t7 := same_upd (o := .tup (refs as)) hM
      have e7 : (upd H6 aM (.tup (refs as))) aM = some (.tup (refs as)) := upd_same
      generalize upd H6 aM (.tup (refs as)) = H7 at s7 t7 e7 ⊢
      refine ⟨_, rfl, _, rfl, D, _, rfl, getF (s7 _ _ B.hT), aF, _, rfl, .inl ⟨SqL.of (s7 _ _ B.hF), fun aB hB => ?_⟩⟩
      have s8 := same_put (o := .tup (t.firsts.map V.str)) s7 (s7.free hB)
      have t8 := same_upd (o := .tup (t.firsts.map V.str)) hB
      have e8 : (upd H7 aB (.tup (t.firsts.map V.str))) aB = some (.tup (t.firsts.map V.str)) := upd_same
      generalize upd H7 aB (.tup (t.firsts.map V.str)) = H8 at s8 t8 e8 ⊢
      have t58 := (t6.trans t7).trans t8
      have D8 : PartAt H8 aS aM aB aW t.nodes as t.firsts sw := ⟨t8 _ _ (t7 _ _ e6), t8 _ _ e7, fun x hx => s8 _ _ (B.eA x hx), e8, t58 _ _ e5, h5.same t58⟩
      refine ⟨rfl, rfl, fun p dx hp hdx ne => ?_⟩
      have s9 : Same H8 (upd (upd H8 dx (.own p)) p (.ins C dx [])) := fun b o e => by
        rw [upd_ne (ne_of_none e hp), upd_ne (ne_of_none e hdx)]
        exact e
      refine ⟨p, dx, aS, aM, aB, aW, t.nodes, as, t.firsts, sw, rfl, upd_same, D8.same s9, ob_ok ok B.mA B.mG m4, fun H9 k9 e9 => ⟨rfl, ?_⟩⟩
      have s89 : Same H8 H9 := fun b o e => k9 b o (s9 b o e) (ne_of_none e hp)
      exact q p aS aM aB aW sw H9 (s8.free hp) (s8.trans s89) ⟨⟨dx, e9⟩, D8.same s89⟩ m4
def spNexts : Sp := fun vs H Q _ => ∃ (T aA : Addr) (x : Str) (as : List (Addr × (Str × Str))), vs = [.ref T, .str x] ∧ DGet H T (.str "arcs") (some (.ref aA)) ∧ H aA = some (.lst (refs as)) ∧ PairsAt H as ∧ as.length ≤ 100 ∧ (∀ H', Same H H' → DGet H' T (.str "arcs") (some (.ref aA))) ∧
  ∀ v H', H v = none → Same H H' → H' v = some (.lst ((nextL as x).map V.str)) → Q (.ref v) H'
theorem ok_nexts {f : Addr} {fd : FuncData} {k : Nat} (F : Fun K "_law_nexts" "_law_nexts" sNexts f fd) : FnOk P w K mg base CX0 (k + 1) f fd ["_law_t", "_law_node"] spNexts := by
  refine F.ok scNexts (fun vs H Q E h => ?_) (fun cdv A outer s H vs Q E hr h => ?_)
  · obtain ⟨T, aA, x, as, rfl, _⟩ := h
    rfl
  · obtain ⟨T, aA, x, as, rfl, dg, hA, hP, few, _, q⟩ := h
    have hu := hu_of hr
    refine ⟨_, pss_one (ps_ret (pe_lc (own := [("_law_arc", 2)]) (g := gName 2) rfl scNexts.nd (pi_list (pe_dget hu (pv 0) pe_str (fun _ _ => rfl)))
          (blkOk_by (own := [("_law_arc", 2)]) (N := ["_law_t", "_law_node", "_law_arc"]) (sc := defScope sNexts) (by decide +kernel))
          (fun _ _ _ _ _ => pg_name (i := 2) scNexts.nd rfl (.inl rfl))
          (fun _ _ _ _ _ => pts_one (pt_cmpR op_eq (pe_ix (ix_tupK K) (pv 2) pe_int (fun _ _ => rfl)) (pv 1) (nomark _)))
          (fun _ _ _ _ _ => pe_ix (ix_tupK K) (pv 2) pe_int (fun _ _ => rfl)))), ?_⟩
    refine ⟨_, rfl, T, _, rfl, dg, aA, rfl, ⟨_, SqL.of hA⟩, fun R hR => lc_list (K := K) (a := aA) (xs := refs as) (fun i H4 => Same H H4 ∧ H4 R = some (.lst ((nextL (as.take i) x).map V.str))) ⟨same_upd hR, upd_same⟩ (fun i H4 _ ⟨s4, _⟩ => SqL.of (s4 _ _ hA)) ?_ ?_⟩
    · rintro i v H4 hi ⟨s4, e4⟩
      obtain ⟨y, hy, rfl⟩ := at_refs hi
      have il : i < as.length := (List.getElem?_eq_some_iff.mp hy).1
      have sm : (nextL (as.take i) x).length ≤ 1000 := Nat.le_trans (nextL_le _ _) (by rw [List.length_take]; omega)
      have hy1 := s4 _ _ (hP y (List.mem_of_getElem? hy))
      refine ⟨rfl, _, rfl, y.1, _, 0, .str y.2.1, rfl, rfl, SqT.of hy1, rfl, _, rfl, rfl, _, rfl, ite2 (fun e => ?_) (fun e => ?_)⟩
      · have e1 : y.2.1 = x := V.str.inj (of_decide_eq_true e)
        refine ⟨_, rfl, y.1, _, 1, .str y.2.2, rfl, rfl, SqT.of hy1, rfl, _, e4, by rw [List.length_map]; exact lt_line sm, same_put s4 hR, ?_⟩
        rw [upd_same, take_next hy, nextL_app, if_pos e1, List.map_append]
        rfl
      · have e1 : ¬ y.2.1 = x := fun z => e (decide_eq_true (by rw [z]))
        refine ⟨s4, ?_⟩
        rw [take_next hy, nextL_app, if_neg e1, List.append_nil]
        exact e4
    · rintro H4 ⟨s4, e4⟩
      rw [show (refs as).length = as.length from List.length_map _, List.take_length] at e4
      exact q R H4 hR s4 e4
end
end Mr

/-! X -/
set_option Elab.async false
set_option linter.all false
set_option maxRecDepth 100000
set_option maxHeartbeats 2000000
/-! an own error straight under RuntimeError, its __init__ storing one field -/
namespace PySem
namespace RtX
open PySem.W PySem.Calls PyProof.Rows PySem.HandSPX
open Builtin Builtin.ObjectAttr
abbrev rtTail : List Value := [.type "RuntimeError", .type "Exception", .type "BaseException", .type "object"]
theorem rt_pass (self : Value) (C : Addr) : refuseLoop self "__setattr__" (.ref C :: rtTail) = pure () :=
  (refuseLoop_ref ..).trans (F.store_RuntimeError.passes self)
section
variable {prog : Program} {w : World} {A : Around} {E : Value → Shared → Prop} {R : Result → Shared → Prop} {hp : Heap} {g : Array GenState} {d : Drawn} {t : Nat} {os : OsState} {K : W.Frag} {name : Str} {tk : Tok} {v : Value} {x C : Addr} {fv : Array Value} {cd : ClassData}
theorem rt_osa (X : K.In hp) (hx : hp.get? x = some { cls := .ref C, data := .fields fv }) (hcd : W.clsIn K C = some cd)
    (hm : cd.mro = .ref C :: rtTail) (hh : cd.hasDict = true) (ha : W.findIn K (.ref C) name = some none)
    (hq : ∀ h' tk' dx, (∀ b o, b ≠ x → hp.get? b = some o → h'.get? b = some o) → hp.objs.size ≤ dx → dx ≠ x →
      h'.get? x = some { cls := .ref C, dict := some dx, data := .fields fv } → h'.Ns1 dx (fun y => if y = name then some v else none) →
      R (.ok (.ret .none)) ⟨h', g, d, tk', os⟩) :
    codeAny (model prog w) A (.call (.builtin "object.__setattr__") ⟨[.ref x, .str name tk, v], []⟩) R ⟨hp, g, d, t, os⟩ := by
  have J : W.InstAt hp x { cls := .ref C, data := .fields fv } C none := ⟨hx, rfl, rfl, trivial⟩
  have nx : x ≠ hp.objs.size := Nat.ne_of_lt (Heap.lt_size hx)
  have hasO : cd.mro.contains (.type "object") = true := by
    rw [hm, List.contains_cons]
    have : rtTail.contains (.type "object") = true := by decide +kernel
    rw [this, Bool.or_true]
  have mroT : W.mroIn K C (.type "object") = some true := by
    unfold W.mroIn
    rw [hcd, Option.bind_some, if_neg (by rw [hm]; exact Bool.false_ne_true), hasO]
  have isO : W.Looks (model prog w) hp (isInstance (.ref x) (.type "object")) true := J.type.andThen (W.looks_mroIn X mroT)
  have O := F.store_object
  refine codeAny_call_builtin O.slot.plain O.entry
    (@W.check_slot (model prog w) _ _ ⟨hp, g, d, t, os⟩ "object.__setattr__" "object" "__setattr__" (.ref x) [.str name tk, v] [] _ O.kind O.split isO
      (O.args (.ref x) (.str name tk) v) ?_)
  have cdL : W.Looks (model prog w) hp (classData C) cd := W.looks_clsIn X hcd
  have mroL : W.Looks (model prog w) hp (mroOf (.ref C)) cd.mro := cdL.andThen .now
  have tkL : W.Looks (model prog w) hp (storeTaker? none) none := .now
  rw [W.osa_eq, refuse_eq]
  refine wpAny_bind (wpAny_bind (J.type.at ?_))
  refine wpAny_bind (mroL.at ?_)
  rw [hm, rt_pass]
  refine wpAny_pure (wpAny_bind (J.type.at ?_))
  refine wpAny_bind ((W.looks_findIn X ha).at ?_)
  refine wpAny_bind (tkL.at ?_)
  show wpAny _ _ (storeInOwnDict (.ref x) (.ref C) (.str name tk) name v false) _ _ _
  obtain ⟨nm, bs, mro, ns, qn, hd, sn, sb, ab, col, del⟩ := cd
  have hh' : hd = true := hh
  subst hh'
  unfold storeInOwnDict ownDictForStores
  repeat (first
    | with_reducible refine store_in_new ?_ ?_
    | with_reducible refine wpAny_loadPart_at hx ?_
    | with_reducible refine cdL.at ?_
    | wp_step)
  · exact ⟨_, #[], _, (Heap.get?_update_ne _ _ _ _ nx.symm).trans (Heap.get?_push_at rfl rfl), rfl,
      fun e he => absurd he (by simp), fun _ => rfl⟩
  · intro h' tk' hn' same
    have at1 : (hp.push { cls := .type "dict", data := .dict #[] }).get? x = some { cls := .ref C, data := .fields fv } :=
      Heap.get?_push_of_some _ hx
    refine hq h' tk' hp.objs.size (fun b o hb ho => ?_) (Nat.le_refl _) nx.symm ?_ hn'
    · refine (same.2 b (Nat.ne_of_lt (Heap.lt_size ho))).trans ?_
      exact (Heap.get?_update_ne _ _ _ _ hb).trans (Heap.get?_push_of_some _ ho)
    · exact (same.2 x nx).trans (Heap.get?_update_self _ at1 rfl)
end
end RtX
end PySem

/-! Y -/
set_option Elab.async false
set_option linter.all false
set_option maxRecDepth 100000
set_option maxHeartbeats 2000000
namespace PySem
namespace LmX
open PySem.W PySem.Calls PyProof.Rows PySem.HandSPX
/-! ### the text of __init__ -/
def iA (p1 p2 : Pos) : Arguments := { posonlyargs := [], args := [{ arg := "self", annotation := none, pos := p1 }, { arg := "state", annotation := none, pos := p2 }], vararg := none, kwonlyargs := [], kw_defaults := [], kwarg := none, defaults := [] }
def iB (q1 q2 q3 q4 : Pos) : List Stmt := [.Assign [.Attribute (.Name "self" q1) "state" q2] (.Name "state" q3) q4]
def iS : Scope := { kind := .function, names := [(PySem.Str.ofString "self", .local), (PySem.Str.ofString "state", .local)], isGenerator := false, isCoroutine := false, more := [] }
/-- what the written part says of Low, at C, and of its __init__, at fI -/
structure LmTxt (K : Frag) (mg : Str → Option Value) (C fI : Addr) : Prop where
  gC : mg "LastMove" = some (.ref C)
  cls : ∃ nm q N bs bm sn sub ab col dd k0 k1 k2 k3 k5, K.lookup C = some (excClassObj nm q C N bs bm true sn sub ab col dd k0 k1 k2 k3 k5 "RuntimeError.__new__") ∧ bm = RtX.rtTail
  sa : findIn K (.ref C) "__setattr__" = some (some (.builtin "object.__setattr__"))
  ga : findIn K (.ref C) "__getattribute__" = some (some (.builtin "BaseException.__getattribute__"))
  gg : findIn K (.ref C) "__getattr__" = some none
  noN : findIn K (.ref C) "state" = some none
  iC : findIn K (.ref C) "__init__" = some (some (.ref fI))
  tC : typeIn K (.ref fI) = some (.type "function")
  kC : keepIn K (.ref C) = true
  exC : subIn K (.ref C) (.type "BaseException") = some true
  tyC : typeIn K (.ref C) = some (.type "type")
  hdC : hasDictIn K C = true
  te : exmOne K (.ref C) (.ref C) = some true
  fn : ∃ (oc : Value) (od : Option Addr) (doc pm : Value) (an : Option Addr) (cdv ct : Value) (osl : Array (Option Value)) (p1 p2 q1 q2 q3 q4 : Pos),
    K.lookup fI = some ⟨oc, od, .func (fnOf "__init__" "LastMove.__init__" (iA p1 p2) (iB q1 q2 q3 q4) iS .none .none doc pm an cdv ct), osl⟩ ∧ codeIn K cdv "LastMove.__init__" = true
theorem one_size (v : Value) : [v].length ≤ sizeLine := by
  rw [sizeLine_eq]
  exact (by decide : 1 ≤ 16777216)
theorem kept_but {K : Frag} {h h' : Heap} {x : Addr} (X : K.In h) (hx : K.lookup x = none) (k : ∀ b o, b ≠ x → h.get? b = some o → h'.get? b = some o) : K.In h' := fun a o e =>
  k a o (fun z => by rw [z, hx] at e; cases e) (X a o e)
theorem ldC {M : Model} {s : Shared} {name : Str} {scope : Scope} {L a : Addr} {cd : Value} {m : Str → Option Value} {x : Str} {pos : Pos} {v : Value} {Q : Value → Shared → Prop} {A : Around} {E : Value → Shared → Prop} (hn : s.heap.Ns L m) (hv : m x = some v) (h : Q v s)
    (hk : scope.kind = .function := by rfl) (hl : (envOfC name scope L a cd).kindOf x = some .local := by rfl) (hd : (x == ("__debug__" : Str)) = false := by decide) :
    wpAny M A (eval (.Name x pos) (envOfC name scope L a cd)) Q E s := wpAny_Name (wpAny_loadName_local hk hl hn hv h) hd
/-- what __init__ leaves of a fresh exception at x -/
structure InitEnd (h h' : Heap) (x C dx t1 : Addr) (v : Value) : Prop where
  keep : ∀ b o, b ≠ x → h.get? b = some o → h'.get? b = some o
  obj : h'.get? x = some { cls := .ref C, dict := some dx, data := .fields #[.ref t1, .none, .none, .none, .bool false, .none] }
  dbig : h.objs.size ≤ dx
  dne : dx ≠ x
  ns : h'.Ns1 dx (fun y => if y = "state" then some v else none)
/-- a made Low -/
structure OwnMade (h h' : Heap) (e C d : Addr) (v : Value) : Prop where
  keep : ∀ b o, h.get? b = some o → h'.get? b = some o
  new : h.objs.size ≤ e
  obj : ∃ oe vs, h'.get? e = some oe ∧ oe.cls = .ref C ∧ oe.dict = some d ∧ oe.data = .fields vs ∧ vs[1]? = some .none
  dbig : h.objs.size ≤ d
  dne : d ≠ e
  ns : h'.Ns1 d (fun y => if y = "state" then some v else none)
section
variable {prog : Program} {w : World} {A : Around} {E : Value → Shared → Prop} {R : Result → Shared → Prop} {s : Shared} {K : Frag} {mg : Str → Option Value} {C fI : Addr}
theorem lm_init (T : LmTxt K mg C fI) {x t0 : Addr} {v : Value} (X : K.In s.heap) (hlim : s.heap.NoLimit) (hx : s.heap.get? x = some (excO C t0)) (hnx : K.lookup x = none) (hroom : A.depth < recursionLimit)
    (hq : ∀ h' tk dx, InitEnd s.heap h' x C dx t0 v → R (.ok (.ret .none)) { s with heap := h', toks := tk }) :
    codeAny (model prog w) A (.call (.ref fI) ⟨[.ref x, v], []⟩) R s := by
  obtain ⟨oc, od, doc, pm, an, cdv, ct, osl, p1, p2, q1, q2, q3, q4, ho, hcd⟩ := T.fn
  obtain ⟨nm, q, N, bs, bm, sn, sub, ab, col, dd, k0, k1, k2, k3, k5, hC, hbm⟩ := T.cls
  have hcl : clsIn K C = some { name := nm, bases := bs, mro := .ref C :: bm, ns := N, qualname := q, hasDict := true, slotNames := sn, subclasses := sub, abstract := ab, collection := col, hasDel := false } := by unfold clsIn; rw [hC] <;> rfl
  refine Att.call_fn (binds := [("self", .ref x), ("state", v)]) X hlim ho hcd hroom (BindsTo.of_eq (by first | rfl | with_unfolding_all rfl)) (by first | rfl | decide | with_unfolding_all rfl) (fun s₁ IC => ?_) rfl rfl rfl
  obtain ⟨h₁, tk₁, rfl⟩ := IC.toInCall.same
  have k : ∀ b o, s.heap.get? b = some o → h₁.get? b = some o := IC.toInCall.keep
  have hn := IC.toInCall.ns
  have hxL : s.heap.objs.size ≠ x := Nat.ne_of_gt (Heap.lt_size hx)
  have X₁ : K.In h₁ := X.keeps k
  have hx₁ := k _ _ hx
  -- self.by = by
  show wpAny _ _ (execs _ _) _ _ _
  refine wpAny_execs_cons (plainObj_wpAny_Assign_Attribute ?_)
  refine ldC (v := v) hn (by first | rfl | with_unfolding_all rfl | kernel_rfl) (ldC (v := .ref x) hn (by first | rfl | with_unfolding_all rfl | kernel_rfl) ?_)
  refine set_plain X₁ (ox := excO C t0) (od := none) ⟨hx₁, rfl, rfl, trivial⟩ T.sa ?_
  refine RtX.rt_osa X₁ hx₁ hcl (show (Value.ref C :: bm) = .ref C :: RtX.rtTail by rw [hbm]) rfl T.noN (fun h₃ tk₃ dx k₃ dn dne hx₃ hn₃ => ?_)
  show wpAny _ _ (execs _ _) _ _ _
  have z : s.heap.objs.size < h₁.objs.size := hn.lt
  exact wpAny_execs_nil (hq h₃ tk₃ dx ⟨fun b o hb e => k₃ b o hb (k b o e), hx₃, Nat.le_of_lt (Nat.lt_of_lt_of_le z dn), dne, hn₃⟩)
theorem lm_made (T : LmTxt K mg C fI) {v : Value} (X : K.In s.heap) (hlim : s.heap.NoLimit) (hroom : A.depth + 1 < recursionLimit)
    (hq : ∀ h' tk e d, OwnMade s.heap h' e C d v → R (.ok (.ret (.ref e))) { s with heap := h', toks := tk }) :
    codeAny (model prog w) A (.call (.ref C) ⟨[v], []⟩) R s := by
  obtain ⟨nm, q, N, bs, bm, sn, sub, ab, col, dd, k0, k1, k2, k3, k5, hC, hbm⟩ := T.cls
  obtain ⟨hp, g, dr, tk, os⟩ := s
  have k : ∀ b o, hp.get? b = some o → ((hp.push (kdv_tup [v])).push (excO C hp.objs.size)).get? b = some o := fun b o e => Heap.get?_push_of_some _ (Heap.get?_push_of_some _ e)
  have hget : ((hp.push (kdv_tup [v])).push (excO C hp.objs.size)).get? (hp.objs.size + 1) = some (excO C hp.objs.size) := by heap_get
  have hnx : K.lookup (hp.objs.size + 1) = none := by
    cases e : K.lookup (hp.objs.size + 1) with
    | none => rfl
    | some o =>
      have z : hp.get? (hp.objs.size + 1) = some o := X _ _ e
      exact absurd (Nat.lt_of_succ_lt (Heap.lt_size z)) (Nat.lt_irrefl _)
  refine call_own F.excBase_RuntimeError (fun X => by rw [hbm]) (X _ _ hC) (looks_findIn X T.iC) (fun self => bind_fn X self T.tC) (one_size v) ?_
  refine lm_init (s := ⟨(hp.push (kdv_tup [v])).push (excO C hp.objs.size), g, dr, tk, os⟩) T (X.keeps k) (hlim.keeps k) hget hnx ?_ fun h' tk' dx ⟨k', hx, dn, dne, hns⟩ => ?_
  · show A.depth + 1 < recursionLimit
    exact hroom
  · have old : ∀ b o, hp.get? b = some o → h'.get? b = some o := fun b o e => k' b o (Nat.ne_of_lt (Nat.lt_succ_of_lt (Heap.lt_size e))) (k b o e)
    have z : hp.objs.size + 1 + 1 ≤ dx := by
      first
        | (simpa only [Heap.size_push] using dn)
        | exact dn
        | (have q := dn; rw [Heap.size_push, Heap.size_push] at q; exact q)
    exact ⟨rfl, hq h' tk' (hp.objs.size + 1) dx ⟨old, Nat.le_succ _, ⟨_, _, hx, rfl, rfl, rfl, rfl⟩, Nat.le_trans (Nat.le_trans (Nat.le_succ _) (Nat.le_succ _)) z, dne, hns⟩⟩
end
end LmX
end PySem
namespace L2
open PySem PySem.Spec PyProof.Rows
theorem relO_lm {v : V} {v' : Value} (r : RelV v v') (f : Str) : RelO (List.lookup f [(("state" : Str), v)]) (if f = "state" then some v' else none) := by
  by_cases hw : f = "state"
  · subst hw
    rw [if_pos rfl]
    have q : List.lookup ("state" : Str) [(("state" : Str), v)] = some v := by simp [List.lookup]
    rw [q]
    exact r
  · rw [if_neg hw]
    have qw : (f == ("state" : Str)) = false := by simpa using hw
    have q2 : List.lookup f [(("state" : Str), v)] = none := by simp [List.lookup, qw]
    rw [q2]
    trivial
section
variable {X : Cx} {C fI : Addr}
/-- Low(e) -/
def tMkLm (C : Addr) (ta : TA) : St → Hp → XK → Prop := fun σ H Q => ta σ H fun vs H1 => ∃ v, vs = [v] ∧ ∀ d, H1 d = none → Q (.ref C) (some d) (upd H1 d (.xd [(("state" : Str), v)]))
theorem pmk_lm {a : Expr} {ta : TA} {p pos : Pos} {k : Nat} (T : PySem.LmX.LmTxt X.K X.mg C fI) (hr : Room k X.A) (ha : PA X [a] ta) (hg : Gl X "LastMove" := by rfl)
    (he : starEach (a :: []) X.env = (false, eval a X.env) :: starEach [] X.env := by rfl) (hpl : (backTo pos (starEach [] X.env)).any (·.1) = false := by rfl) :
    PMk X (.Call (.Name "LastMove" p) [a] [] pos) (tMkLm C ta) := by
  intro pins s σ H Q I h
  refine wpAny_Call_Name_kw (ld_glob I hg T.gC ?_)
  refine PySem.W.callWith_K (h₀ := X.base) I.ok.mod.kin T.kC (thn (ha.run pos pins s σ H _ I h) fun us s1 hh => ?_) he hpl
  obtain ⟨vs, H1, I1, r1, v, ev, q1⟩ := hh
  subst ev
  refine ⟨I1.kIn, ?_⟩
  cases r1 with
  | cons rv rn =>
    rename_i v' us'
    cases rn
    show wpAny _ _ (call (.ref C) [v']) _ _ _
    have hlim := I1.nolimit
    obtain ⟨hp, g, dr, tk, os⟩ := s1
    refine wpAny_call (PySem.LmX.lm_made T I1.kIn hlim (by have := hr.dp; omega) fun h' tk' e d M => ?_)
    show MkP X pins σ Q (.ref e) ⟨h', g, dr, tk', os⟩
    obtain ⟨oe, fv, hoe, hc, hd, hdat, h1⟩ := M.obj
    have hns := M.ns
    obtain ⟨G', g1, g2⟩ := restrict h' fun b => decide (b ≠ e)
    have gk : ∀ b, b ≠ e → G'.get? b = h'.get? b := fun b hb => g1 b (decide_eq_true hb)
    have ge : G'.get? e = none := g2 e (by simp)
    have old : ∀ b o, hp.get? b = some o → G'.get? b = some o := fun b o q => (gk b (Nat.ne_of_lt (Nat.lt_of_lt_of_le (Heap.lt_size q) M.new))).trans (M.keep b o q)
    have ob : ObjOk X.prog X.w (upd H1 d (.xd [(("state" : Str), v)])) G' d (.xd [(("state" : Str), v)]) :=
      ⟨_, hns.at (fun o q => (gk d M.dne).trans q), fun f => relO_lm rv f⟩
    have J : Inv X pins σ (upd H1 d (.xd [(("state" : Str), v)])) ⟨G', g, dr, tk', os⟩ := I1.laid (t' := tk') old M.dbig ob
    refine ⟨e, oe, fv, ⟨G', g, dr, tk', os⟩, _, .ref C, some d, rfl, J, fun b o q => ?_, ge, hoe, ⟨hc, hd⟩, hdat, h1, ?_, rfl, I1.bare, raises_own T.exC T.tyC, q1 d (I1.hok.fresh M.dbig)⟩
    · by_cases hb : b = e
      · have q' : G'.get? b = some o := q
        rw [hb, ge] at q'; cases q'
      · exact (gk b hb).symm.trans q
    · rw [upd_ne (Ne.symm M.dne)]
      exact I1.hok.fresh M.new
/-- raise Low(e) -/
def tRaiseLm (C : Addr) (W : WX) (ta : TA) : TS := fun _ σ H => tMkLm C ta σ H fun cls d H' => W cls d σ H'
theorem ps_raiseLm {a : Expr} {ta : TA} {W : WX} {p pos pos2 : Pos} {k : Nat} (hc : X.calm = true) (T : PySem.LmX.LmTxt X.K X.mg C fI) (hr : Room k X.A) (tk : Takes X W) (ha : PA X [a] ta) (hg : Gl X "LastMove" := by rfl)
    (he : starEach (a :: []) X.env = (false, eval a X.env) :: starEach [] X.env := by rfl) (hpl : (backTo pos (starEach [] X.env)).any (·.1) = false := by rfl) :
    PS X (.Raise (some (.Call (.Name "LastMove" p) [a] [] pos)) none pos2) (tRaiseLm C W ta) := ps_raise hc tk (pmk_lm T hr ha hg he hpl)
/-- low.by, low the exception that the suite holds (at a; its class cls, its dict d) -/
def tStLm (C : Addr) (a : Addr) (cls : Value) (d : Option Addr) (te : TE) : TE := fun σ H Q => te σ H fun x H1 => x = .ref a ∧ cls = .ref C ∧ ∃ (dd : Addr) (v : V), d = some dd ∧ H1 dd = some (.xd [(("state" : Str), v)]) ∧ Q v H1
theorem pe_stLm {a : Addr} {oe : Obj} {cls : Value} {d : Option Addr} {pn : List (Addr × Obj)} {e : Expr} {te : TE} {pos : Pos} (T : PySem.LmX.LmTxt X.K X.mg C fI) (hz : Zc cls d oe) (hf : ∃ vs, oe.data = .fields vs) (he : PE (X.suite a ((a, oe) :: pn)) e te)
    (hb : attributeBase e "state" X.env (eval e X.env) = eval e X.env := by rfl) :
    PE (X.suite a ((a, oe) :: pn)) (.Attribute e "state" pos) (tStLm C a cls d te) := by
  refine ⟨fun pins s σ H Q I h => ?_⟩
  refine attr_of hb (thn (he.run pins s σ H _ I h) fun u s1 hh => ?_)
  obtain ⟨x, H1, I1, rx, ex, ec, dd, v, ed, ea, q⟩ := hh
  subst ex
  obtain rfl : u = Value.ref a := rx
  subst ec
  subst ed
  obtain ⟨ha, _⟩ := I1.pin (a, oe) (List.mem_append_left _ List.mem_cons_self)
  obtain ⟨vs, hd⟩ := hf
  have hx : ObjOk X.prog X.w H1 s1.heap dd (.xd [(("state" : Str), v)]) := I1.hok dd _ ea
  obtain ⟨mA, hns, hr⟩ := hx
  obtain ⟨od, ho, hl⟩ := lookIn_ns hns
  have l : List.lookup ("state" : Str) [(("state" : Str), v)] = some v := by simp [List.lookup]
  obtain ⟨u, hu, ru⟩ := RelO.some_of (v := v) (o := mA "state") (by rw [← l]; exact hr "state")
  have J : PySem.W.InstAt s1.heap a oe C (some od) := ⟨ha, hz.1, by unfold PySem.W.notCls; rw [hd] <;> rfl, by rw [hz.2]; exact ho⟩
  exact HandSPX.exc_get I1.kIn J T.ga T.gg T.exC (PySem.W.findObj_own T.hdC T.noN rfl (by rw [hl, hu])) (handed_of ru) ⟨v, H1, I1.tok _, ru, q⟩
end
end L2

/-! V -/
set_option Elab.async false
set_option linter.all false
set_option maxRecDepth 100000
set_option maxHeartbeats 2000000
namespace Mr
open PySem PySem.Spec PyProof.Rows L2 TL MrS RZ PySem.W
abbrev Arcs := List (Addr × (Str × Str))
/-- the moves that stay -/
def keptOf (as bs : Arcs) : Arcs := as.filter fun x => !decide (x.2 ∈ bs.map (·.2))
theorem kept_app (as bs : Arcs) (x : Addr × (Str × Str)) : keptOf (as ++ [x]) bs = keptOf as bs ++ (if x.2 ∈ bs.map (·.2) then [] else [x]) := by
  unfold keptOf
  rw [List.filter_append]
  by_cases h : x.2 ∈ bs.map (·.2)
  · rw [if_pos h]
    simp only [List.filter_cons, decide_eq_true h, Bool.not_true, Bool.false_eq_true, if_false, List.filter_nil]
  · rw [if_neg h]
    simp only [List.filter_cons, decide_eq_false h, Bool.not_false, if_true, List.filter_nil]
theorem kept_le (as bs : Arcs) : (keptOf as bs).length ≤ as.length := List.length_filter_le _ _
theorem kept_sub (as bs : Arcs) : (keptOf as bs).Sublist as := List.filter_sublist
theorem still_out {firsts nodes : List Str} (h : stillOf firsts nodes = .none) : ∀ n ∈ nodes, n ∈ firsts := fun n hn => by
  unfold stillOf at h
  rw [List.find?_eq_none] at h
  have := h n hn
  by_cases z : n ∈ firsts
  · exact z
  · simp [z] at this
theorem kept_ok {nodes firsts : List Str} {as bs : Arcs} {sw : Sw} (ok : PartOk nodes as firsts sw) (h : stillOf (fsts (keptOf as bs)) nodes = .none) : PartOk nodes (keptOf as bs) firsts sw where
  n1 := ok.n1
  n8 := ok.n8
  nn := ok.nn
  nu := ok.nu
  mv := ⟨Nat.le_trans (kept_le as bs) ok.mv.few, fun x hx => ok.mv.ain x ((kept_sub as bs).subset hx), ok.mv.up.sub ((kept_sub as bs).map _), still_out h⟩
  f1 := ok.f1
  f2 := ok.f2
  fin := ok.fin
  fu := ok.fu
  sh := ok.sh
section
variable {P : Program} {w : World} {K : PySem.W.Frag} {mg : Str → Option Value} {base : Heap}
def spWithout (K : PySem.W.Frag) (C L : Addr) : Sp := fun vs H Q E => ∃ (p m aS aM aB aW : Addr) (nodes : List Str) (as bs : Arcs) (firsts : List Str) (sw : Sw), vs = [.ref p, .ref m] ∧ ObAt C H p aS aM aB aW nodes as firsts sw ∧ PartOk nodes as firsts sw ∧
  (SqL K H m (refs bs) ∨ SqT K H m (refs bs)) ∧ PairsAt H bs ∧
  (stillOf (fsts (keptOf as bs)) nodes = .none → ∀ p2 aK H', H p2 = none → Same H H' → ObAt C H' p2 aS aK aB aW nodes (keptOf as bs) firsts sw → Q (.ref p2) H') ∧
  ∀ x, stillOf (fsts (keptOf as bs)) nodes = .some x → ∀ d H', H d = none → Same H H' → H' d = some (.xd [(("state" : Str), .str x)]) → E (.ref L) (some d) H'
theorem ok_without {fP fR fI fN fS fM fV fB fW fX f fT fL C L : Addr} {dP dR dI dN dS dM dV dB dW dX fd fdT : FuncData} (F : Fun K "without" "Table.without" sWithout f fd) (FT : Fun K "__init__" "Table.__init__" sInit fT fdT) (M : Mk K C fT) (T : Txt K mg C)
    (Z : Hlp K mg fP fR fI fN fS fM fV fB fW fX dP dR dI dN dS dM dV dB dW dX) (Lm : PySem.LmX.LmTxt K mg L fL) : FnOk P w K mg base (L2.CX P w) 7 f fd ["self", "moves"] (spWithout K C L) := by
  have GT : FnOk P w K mg base CX0 5 fT fdT nInit (spInit C) := ok_init FT T Z
  have GS : FnOk P w K mg base CX0 1 fS dS ["moves", "states"] spStill := ok_still Z.FS
  have mt := Z.mt
  refine F.okX scWithout (fun vs H Q E h => ?_) (fun cdv A outer s H vs Q E hr h => ?_)
  · obtain ⟨p, m, aS, aM, aB, aW, nodes, as, bs, firsts, sw, rfl, _⟩ := h
    rfl
  · obtain ⟨p, m, aS, aM, aB, aW, nodes, as, bs, firsts, sw, rfl, ⟨⟨dx, hp⟩, D⟩, ok, hm, hb, q, qe⟩ := h
    have hr1 : Room 1 _ := hr.mono (by decide)
    refine ⟨_, pss_cons (ps_set (i := 2) scWithout.nd rfl (.inl rfl) (pe_callTy call_tuple_of (by rfl) mt (by decide +kernel) (pa_cons
          (pe_lc (own := [("move", 4)]) (g := gName 4) rfl scWithout.nd (pi_tup (pe_fld (pv 0) rfl)) (blkOk_by (own := [("move", 4)]) (N := ["self", "moves", "kept", "lost", "move"]) (sc := defScope sWithout) (by decide +kernel))
            (fun _ _ _ _ _ => pg_name (i := 4) scWithout.nd rfl (.inl rfl))
            (fun _ _ _ _ _ => pts_one (pt_cmpR (op_notInP K (hu64 hr)) (pv 4) (pv 1) (by rfl)))
            (fun _ _ _ _ _ => pv 4)) pa_nil)))
      (pss_cons (ps_set (i := 3) scWithout.nd rfl (.inl rfl) (pe_call GS hr1 (by rfl) Z.mS Z.FS.kp Z.bS .nil pass0 (pa_cons (pv 2) (pa_cons (pe_fld (pv 0) rfl) pa_nil))))
      (pss_cons (ps_if (pt_cmpR op_notN (pv 3) pe_non (nomark _)) (pss_one (ps_raiseLm rfl Lm hr (takes_of rfl rfl rfl rfl) (pa_cons (pv 3) pa_nil))) pss_nil)
      (pss_one (ps_ret (pe_makeK M GT hr (by rfl) T.mgC (kb_same FT) pass0 (pa_cons (pe_fld (pv 0) rfl) (pa_cons (pv 2) pa_nil)) (pk_cons (pe_fld (pv 0) rfl) (pk_cons (pe_fld (pv 0) rfl) pk_nil))))))), ?_⟩
    have few := ok.mv.few
    refine ⟨_, rfl, p, C, dx, _, _, rfl, hp, T.cl, T.nM, lkM, aM, rfl, ⟨_, SqT.of D.hM⟩, fun R hR => lc_tup (K := K) (a := aM) (xs := refs as) (fun i H4 => Same H H4 ∧ H4 R = some (.lst (refs (keptOf (as.take i) bs)))) ⟨same_upd hR, upd_same⟩ (fun i H4 _ ⟨s4, _⟩ => SqT.of (s4 _ _ D.hM)) ?_ ?_⟩
    · rintro i v H4 hi ⟨s4, e4⟩
      obtain ⟨y, hy, rfl⟩ := at_refs hi
      have il : i < as.length := (List.getElem?_eq_some_iff.mp hy).1
      have sm : (keptOf (as.take i) bs).length ≤ 1000 := Nat.le_trans (kept_le _ _) (by rw [List.length_take]; omega)
      have hm4 : SqL K H4 m (refs bs) ∨ SqT K H4 m (refs bs) := hm.imp (fun z => s4.seq z) fun z => tseq s4 z
      refine ⟨rfl, _, rfl, _, rfl, y.1, m, y.2, bs, rfl, rfl, s4 _ _ (D.hP y (List.mem_of_getElem? hy)), hm4, hb.same s4, _, rfl, ?_⟩
      rw [take_next hy, kept_app, if_pos rfl]
      by_cases e : y.2 ∈ bs.map (·.2)
      · rw [decide_eq_true e]
        refine iteF ⟨s4, ?_⟩
        rw [if_pos e, List.append_nil]
        exact e4
      · rw [decide_eq_false e]
        refine iteT ⟨_, rfl, _, e4, by rw [show (refs (keptOf (as.take i) bs)).length = (keptOf (as.take i) bs).length from List.length_map _]; exact lt_line sm, same_put s4 hR, ?_⟩
        rw [upd_same, if_neg e, refs_app]
        rfl
    · rintro H4 ⟨s4, e4⟩
      rw [show (refs as).length = as.length from List.length_map _, List.take_length] at e4
      refine ⟨R, _, rfl, .inl ⟨SqL.of e4, fun aK hK => ?_⟩⟩
      have s5 := same_put (o := .tup (refs (keptOf as bs))) s4 (s4.free hK)
      have e5 : (upd H4 aK (.tup (refs (keptOf as bs)))) aK = some (.tup (refs (keptOf as bs))) := upd_same
      generalize upd H4 aK (.tup (refs (keptOf as bs))) = H5 at s5 e5 ⊢
      have k5 : PairsAt H5 (keptOf as bs) := fun x hx => s5 _ _ (D.hP x ((kept_sub as bs).subset hx))
      have lk := kept_le as bs
      refine ⟨_, rfl, _, rfl, p, C, dx, _, _, rfl, s5 _ _ hp, T.cl, T.nS, lkS, aK, aS, keptOf as bs, nodes, rfl, e5, k5, s5 _ _ D.hS, by omega, fun H6 s6 => ?_⟩
      have s56 := s5.trans s6
      refine ⟨_, rfl, rfl, _, rfl, ?_⟩
      cases hs : stillOf (fsts (keptOf as bs)) nodes with
      | some x =>
        refine iteT ?_
        refine ⟨_, rfl, _, rfl, fun d hd => qe x hs d _ (s56.free hd) (same_put s56 (s56.free hd)) upd_same⟩
      | none =>
        refine iteF ?_
        refine ⟨_, rfl, p, C, dx, _, _, rfl, s56 _ _ hp, T.cl, T.nS, lkS, _, rfl, ?_⟩
        refine ⟨_, rfl, p, C, dx, _, _, rfl, s56 _ _ hp, T.cl, T.nB, lkB, _, rfl, p, C, dx, _, _, rfl, s56 _ _ hp, T.cl, T.nW, lkW, ?_⟩
        refine ⟨rfl, rfl, fun p2 dx2 hp2 hdx ne => ?_⟩
        have s9 : Same H6 (upd (upd H6 dx2 (.own p2)) p2 (.ins C dx2 [])) := fun b o e => by
          rw [upd_ne (ne_of_none e hp2), upd_ne (ne_of_none e hdx)]
          exact e
        have D6 : PartAt H6 aS aK aB aW nodes (keptOf as bs) firsts sw := ⟨s56 _ _ D.hS, s6 _ _ e5, k5.same s6, s56 _ _ D.hB, s56 _ _ D.hW, D.hH.same s56⟩
        refine ⟨p2, dx2, aS, aK, aB, aW, nodes, keptOf as bs, firsts, sw, rfl, upd_same, D6.same s9, kept_ok ok hs, fun H9 k9 e9 => ⟨rfl, ?_⟩⟩
        have s69 : Same H6 H9 := fun b o e => k9 b o (s9 b o e) (ne_of_none e hp2)
        exact q hs p2 aK H9 (s56.free hp2) (s56.trans s69) ⟨⟨dx2, e9⟩, D6.same s69⟩
end
end Mr

/-! W -/
set_option Elab.async false
set_option linter.all false
set_option maxRecDepth 100000
set_option maxHeartbeats 2000000
namespace Mr
open PySem PySem.Spec PyProof.Rows L2 TL MrS RZ PySem.W
/-! == of two tables -/
theorem eqv_map {α : Type} [DecidableEq α] {enc : α → PyData} (h : ∀ x y, PyData.eqv (enc x) (enc y) = decide (x = y)) : ∀ l m : List α, PyData.eqvAll (l.map enc) (m.map enc) = decide (l = m)
  | [], [] => by simp [PyData.eqvAll]
  | [], y :: m => by simp [PyData.eqvAll]
  | x :: l, [] => by simp [PyData.eqvAll]
  | x :: l, y :: m => by
    rw [List.map_cons, List.map_cons, PyData.eqvAll, h, eqv_map h l m]
    by_cases e1 : x = y
    · by_cases e2 : l = m
      · simp [e1, e2]
      · simp [e1, e2]
    · simp [e1]
theorem eqv_tup {α : Type} [DecidableEq α] {enc : α → PyData} (h : ∀ x y, PyData.eqv (enc x) (enc y) = decide (x = y)) (l m : List α) : PyData.eqv (.tuple (l.map enc)) (.tuple (m.map enc)) = decide (l = m) := by
  rw [PyData.eqv]
  exact eqv_map h l m
abbrev wd (x : Str × List Str) : PyData := .tuple [.str x.1, .tuple (x.2.map sd)]
theorem wd_eqv (x y : Str × List Str) : PyData.eqv (wd x) (wd y) = decide (x = y) := by
  obtain ⟨a, l⟩ := x
  obtain ⟨b, m⟩ := y
  have e : PyData.eqv (wd (a, l)) (wd (b, m)) = (PyData.eqv (sd a) (sd b) && (PyData.eqv (.tuple (l.map sd)) (.tuple (m.map sd)) && true)) := by
    simp only [PyData.eqv, PyData.eqvAll]
  rw [e, sd_eqv, eqv_tup sd_eqv]
  by_cases h1 : a = b
  · by_cases h2 : l = m
    · simp [h1, h2]
    · simp [h1, h2]
  · simp [h1]
theorem wds_plain : ∀ l : List (Str × List Str), PyData.plainAll (l.map wd) = true
  | [] => by simp [PyData.plainAll]
  | p :: l => by
    have h : (wd p).plain = true := by
      rw [PyData.plain, PyData.plainAll, PyData.plainAll, tsd_plain]
      simp [PyData.plain, PyData.plainAll]
    rw [List.map_cons, PyData.plainAll, wds_plain l, h]
    rfl
theorem wds_depth : ∀ l : List (Str × List Str), PyData.depthAll (l.map wd) ≤ 2
  | [] => by simp [PyData.depthAll]
  | p :: l => by
    have h := wds_depth l
    have h2 : (wd p).depth ≤ 2 := by
      simp only [wd, PyData.depth, PyData.depthAll, sds_depth]
      omega
    rw [List.map_cons, PyData.depthAll]
    omega
theorem tpd_plain (l : List (Str × Str)) : (PyData.tuple (l.map pd)).plain = true := by rw [PyData.plain]; exact pds_plain l
theorem tpd_depth (l : List (Str × Str)) : (PyData.tuple (l.map pd)).depth ≤ 20 := by
  have := pds_depth l
  rw [PyData.depth]
  omega
theorem twd_plain (l : List (Str × List Str)) : (PyData.tuple (l.map wd)).plain = true := by rw [PyData.plain]; exact wds_plain l
theorem twd_depth (l : List (Str × List Str)) : (PyData.tuple (l.map wd)).depth ≤ 20 := by
  have := wds_depth l
  rw [PyData.depth]
  omega
/-- what a table shows, as data -/
abbrev swD (sw : Sw) : List (Str × List Str) := sw.map fun x => (x.2.1, x.2.2.2)
theorem dpa_shows {K : PySem.W.Frag} {H : Hp} : ∀ {sw : Sw}, ShowsAt H sw → DpAll K H (refs sw) ((swD sw).map wd)
  | [], _ => .nil
  | x :: sw, h => .cons (.tup (SqT.of (h x List.mem_cons_self).1) (.cons (.str x.2.1) (.cons (dp_tstr (h x List.mem_cons_self).2) .nil))) (dpa_shows fun y hy => h y (List.mem_cons_of_mem _ hy))
def tabEq (n1 : List Str) (a1 : Arcs) (f1 : List Str) (w1 : Sw) (n2 : List Str) (a2 : Arcs) (f2 : List Str) (w2 : Sw) : Bool :=
  decide (n1 = n2) && (decide (a1.map (·.2) = a2.map (·.2)) && (decide (f1 = f2) && decide (swD w1 = swD w2)))
section
variable {P : Program} {w : World} {K : PySem.W.Frag} {mg : Str → Option Value} {base : Heap}
def spEqT (K : PySem.W.Frag) (C : Addr) : Sp := fun vs H Q _ => ∃ (p aS aM aB aW : Addr) (nodes : List Str) (as : Arcs) (firsts : List Str) (sw : Sw) (o : V), vs = [.ref p, o] ∧ ObAt C H p aS aM aB aW nodes as firsts sw ∧
  ((∃ (p2 bS bM bB bW : Addr) (nodes2 : List Str) (as2 : Arcs) (firsts2 : List Str) (sw2 : Sw), o = .ref p2 ∧ ObAt C H p2 bS bM bB bW nodes2 as2 firsts2 sw2 ∧ TyX K H (.ref p2) (.ref C) ∧ Q (.bl (tabEq nodes as firsts sw nodes2 as2 firsts2 sw2)) H) ∨
    (∃ t, TyX K H o t ∧ PySem.W.kitOne K t (.ref C) = some false ∧ Q (.bl false) H))
theorem ok_eq {f C : Addr} {fd : FuncData} {k : Nat} (F : Fun K "__eq__" "Table.__eq__" sEq f fd) (T : Txt K mg C) (mi : mg "isinstance" = none) : FnOk P w K mg base CX0 (k + 1) f fd ["self", "other"] (spEqT K C) := by
  refine F.ok scEq (fun vs H Q E h => ?_) (fun cdv A outer s H vs Q E hr h => ?_)
  · obtain ⟨p, aS, aM, aB, aW, nodes, as, firsts, sw, o, rfl, _⟩ := h
    rfl
  · obtain ⟨p, aS, aM, aB, aW, nodes, as, firsts, sw, o, rfl, ⟨⟨dx, hp⟩, D⟩, hq⟩ := h
    refine ⟨_, pss_one (ps_ret (pe_and (pe_callB call_isi (by rfl) mi (by decide +kernel) (pa_cons (pv 1) (pa_cons (pe_glob (v := .ref C) rfl T.mgC rfl) pa_nil)))
      (pe_and (pe_cmpR (op_eqP K (hu64 hr)) (pe_fld (pv 0) rfl) (pe_fld (pv 1) rfl) (nomark _))
      (pe_and (pe_cmpR (op_eqP K (hu64 hr)) (pe_fld (pv 0) rfl) (pe_fld (pv 1) rfl) (nomark _))
      (pe_and (pe_cmpR (op_eqP K (hu64 hr)) (pe_fld (pv 0) rfl) (pe_fld (pv 1) rfl) (nomark _))
      (pe_one (pe_cmpR (op_eqP K (hu64 hr)) (pe_fld (pv 0) rfl) (pe_fld (pv 1) rfl) (nomark _)))))))), ?_⟩
    rcases hq with ⟨p2, bS, bM, bB, bW, nodes2, as2, firsts2, sw2, rfl, ⟨⟨dy, hp2⟩, D2⟩, ty, q⟩ | ⟨t, ty, ki, q⟩
    · refine ⟨_, rfl, _, _, .ref C, .ref C, true, rfl, .own C, ty, (by unfold PySem.W.kitOne; rw [if_pos (by simp)]), _, rfl, iteT ?_⟩
      unfold tabEq at q
      refine ⟨_, rfl, p, C, dx, _, _, rfl, hp, T.cl, T.nS, lkS, _, rfl, p2, C, dy, _, _, rfl, hp2, T.cl, T.nS, lkS, _, _, dp_tstr D.hS, dp_tstr D2.hS, tsd_plain _, tsd_plain _, tsd_depth _, ?_⟩
      rw [if_neg (by decide), eqv_tup sd_eqv]
      refine ⟨_, rfl, ite2 (fun e1 => ?_) (fun e1 => ?_)⟩
      · refine ⟨_, rfl, p, C, dx, _, _, rfl, hp, T.cl, T.nM, lkM, _, rfl, p2, C, dy, _, _, rfl, hp2, T.cl, T.nM, lkM, _, _, .tup (SqT.of D.hM) (dpa_pairs D.hP), .tup (SqT.of D2.hM) (dpa_pairs D2.hP), tpd_plain _, tpd_plain _, tpd_depth _, ?_⟩
        rw [if_neg (by decide), eqv_tup pd_eqv]
        refine ⟨_, rfl, ite2 (fun e2 => ?_) (fun e2 => ?_)⟩
        · refine ⟨_, rfl, p, C, dx, _, _, rfl, hp, T.cl, T.nB, lkB, _, rfl, p2, C, dy, _, _, rfl, hp2, T.cl, T.nB, lkB, _, _, dp_tstr D.hB, dp_tstr D2.hB, tsd_plain _, tsd_plain _, tsd_depth _, ?_⟩
          rw [if_neg (by decide), eqv_tup sd_eqv]
          refine ⟨_, rfl, ite2 (fun e3 => ?_) (fun e3 => ?_)⟩
          · refine ⟨_, rfl, p, C, dx, _, _, rfl, hp, T.cl, T.nW, lkW, _, rfl, p2, C, dy, _, _, rfl, hp2, T.cl, T.nW, lkW, _, _, .tup (SqT.of D.hW) (dpa_shows D.hH), .tup (SqT.of D2.hW) (dpa_shows D2.hH), twd_plain _, twd_plain _, twd_depth _, ?_⟩
            rw [if_neg (by decide), eqv_tup wd_eqv]
            rw [e1, e2, e3] at q
            exact q
          · rw [e1, e2, Bool.eq_false_iff.mpr e3] at q
            exact q
        · rw [e1, Bool.eq_false_iff.mpr e2] at q
          exact q
      · rw [Bool.eq_false_iff.mpr e1] at q
        exact q
    · exact ⟨_, rfl, _, _, t, .ref C, false, rfl, .own C, ty, ki, _, rfl, iteF q⟩
/-- the text that tells how many -/
def tabTxt (n : Nat) : Str := Str.empty ++ Str.ofString "Table(" ++ (toString (n : Int) : Str) ++ Str.ofString ")"
theorem tabTxt_fits {n : Nat} (h : n ≤ 8) : (tabTxt n).length ≤ 20 := by
  have e : ∀ i : Fin 9, (tabTxt i.val).length ≤ 20 := by decide +kernel
  exact e ⟨n, by omega⟩
theorem tabTxt_part {n : Nat} (h : n ≤ 8) : (Str.empty ++ Str.ofString "Table(" ++ (toString (n : Int) : Str)).length ≤ 20 := by
  have e : ∀ i : Fin 9, (Str.empty ++ Str.ofString "Table(" ++ (toString (i.val : Int) : Str)).length ≤ 20 := by decide +kernel
  exact e ⟨n, by omega⟩
def spRepr (C : Addr) : Sp := fun vs H Q _ => ∃ (p aS aM aB aW : Addr) (nodes : List Str) (as : Arcs) (firsts : List Str) (sw : Sw), vs = [.ref p] ∧ ObAt C H p aS aM aB aW nodes as firsts sw ∧ nodes.length ≤ 8 ∧ Q (.str (tabTxt nodes.length)) H
theorem ok_repr {f C : Addr} {fd : FuncData} {k : Nat} (F : Fun K "__repr__" "Table.__repr__" sRepr f fd) (T : Txt K mg C) (ml : mg "len" = none) : FnOk P w K mg base CX0 (k + 1) f fd ["self"] (spRepr C) := by
  refine F.ok scRepr (fun vs H Q E h => ?_) (fun cdv A outer s H vs Q E hr h => ?_)
  · obtain ⟨p, aS, aM, aB, aW, nodes, as, firsts, sw, rfl, _⟩ := h
    rfl
  · obtain ⟨p, aS, aM, aB, aW, nodes, as, firsts, sw, rfl, ⟨⟨dx, hp⟩, D⟩, n8, q⟩ := h
    refine ⟨_, pss_one (ps_ret (pe_joined (.cons pe_str (.cons (pe_fmt (pe_callB call_len_seq (by rfl) ml PySem.boot_len (pa_cons (pe_fld (pv 0) rfl) pa_nil))) (.cons pe_str .nil))))), ?_⟩
    have ll : ((nodes.map V.str).length : Int) = (nodes.length : Int) := by rw [List.length_map]
    refine ⟨_, rfl, (by decide +kernel), _, rfl, p, C, dx, _, _, rfl, hp, T.cl, T.nS, lkS, aS, _, rfl, .inr (SqT.of D.hS), .inr ⟨_, rfl, ?_, ?_⟩⟩
    · rw [ll]
      refine Nat.lt_of_le_of_lt (Nat.log2_le_self _) ?_
      show ((nodes.length : Int)).natAbs < 1920
      omega
    · rw [ll]
      exact ⟨_, rfl, Nat.le_trans (tabTxt_part n8) (by decide), _, rfl, Nat.le_trans (tabTxt_fits n8) (by decide), q⟩
end
end Mr

/-! Z -/
set_option Elab.async false
set_option linter.all false
set_option maxRecDepth 100000
set_option maxHeartbeats 2000000
/-! ==, !=, len, bool, repr by a class's own methods, both answers -/
namespace MrS
open PySem PySem.Spec PyProof.Rows L2 PySem.W
section
variable {X : Cx} {CX : CXT} {n : Nat} {C f : Addr} {fd : FuncData} {ps : List Str} {sp : Sp} {E : XK} {A : Around} {pins : List (Addr × Obj)} {σ : L2.St} {H : Hp} {s : Shared} {vs : List V} {us : List Value} {Q : VK}
theorem own_run (F : FnOk X.prog X.w X.K X.mg X.base CX n f fd ps sp) (hb : Binds X.K fd ps []) (hx : Passes CX X E) (sb : Sub X n A)
    (I : Inv X pins σ H s) (r : Vals vs us) (h : sp vs H Q E) : wpAny (model X.prog X.w) A (call (.ref f) us) (EP X pins σ Q) X.xe s := by
  have e0 : Env0 X.prog X.w X.K X.mg X.base A X.stack s H := by
    have e := I.env0
    refine ⟨?_, e.mod, e.bs, e.bsz, e.funs, e.frf, e.hok, e.bare⟩
    rw [sb.fr]
    exact e.frames
  have hl := F.len _ _ _ _ h
  have bd : BindsTo s fd ⟨us, []⟩ (ps.zip us) := by
    have z := hb s us I.kIn (by rw [List.append_nil, ← r.length]; exact hl)
    rw [List.append_nil] at z
    exact z
  refine wpAny_call (codeAny_mono (F.run A X.stack s H ⟨us, []⟩ us vs Q E sb.room e0 bd r h) fun r' s' hq => ?_)
  cases r' with
  | error e => exact hx pins σ H s e s' I hq
  | ok fl =>
    cases fl with
    | ret w => exact I.after hq
    | next => exact False.elim hq
    | brk => exact False.elim hq
    | cont => exact False.elim hq
/-- x == y, x an instance of C -/
def rEqO (K : Frag) (C : Addr) (sp : Sp) (E : XK) (neg : Bool) : R2 := fun x y H Q => ∃ a dx fs t, x = .ref a ∧ H a = some (.ins C dx fs) ∧ TyX K H y t ∧ notFirst K C t = true ∧
  sp [.ref a, y] H (fun v H' => ∃ b, v = .bl b ∧ Q (.bl (if neg = true then !b else b)) H') E
theorem op_eqO (F : FnOk X.prog X.w X.K X.mg X.base CX n f fd ps sp) (hs : findIn X.K (.ref C) "__eq__" = some (some (.ref f))) (hf : isFn X.K (.ref f) = true)
    (hb : Binds X.K fd ps []) (hx : Passes CX X E) (hr : Room n X.A) : OpR X (compareOp .Eq) (rEqO X.K C sp E false) := by
  intro pins s σ H x y u v Q I rx ry h
  obtain ⟨a, dx, fs, t, rfl, ha, ty, nf, q⟩ := h
  cases rx
  obtain ⟨mA, J, _⟩ := ins_get I.hok ha
  obtain ⟨od, J, _⟩ := J.look
  obtain ⟨m, hF⟩ := I.fr
  obtain ⟨Pp, kx, hp, _⟩ := kit_of I ry ty
  refine PySem.W.cmp_K (op := .Eq) (tb := t) hr.units0 hF I.ok.mod.kin J (kx.ty _ _ I.kIn hp) nf hs hf ?_
  refine wpAny_mono (own_run F hb hx ⟨hr, rfl⟩ I (show Vals [V.ref a, y] [Value.ref a, v] from .cons rfl (.cons ry .nil)) q) (fun r s' z => ?_) fun _ _ e => e
  obtain ⟨w, H', I', rw', b, ew, qq⟩ := z
  subst ew
  cases rw'
  exact ⟨.bl b, H', I', rfl, qq⟩
/-- len of an instance -/
def rLenO (C : Addr) (sp : Sp) (E : XK) : List V → Hp → VK → Prop := fun xs H Q => ∃ a dx fs, xs = [.ref a] ∧ H a = some (.ins C dx fs) ∧ sp [.ref a] H (fun v H' => ∃ k : Nat, v = .int k ∧ k < 2 ^ 62 ∧ Q (.int k) H') E
theorem call_lenO (F : FnOk X.prog X.w X.K X.mg X.base CX n f fd ps sp) (hs : findIn X.K (.ref C) "__len__" = some (some (.ref f))) (hf : isFn X.K (.ref f) = true)
    (hb : Binds X.K fd ps []) (hx : Passes CX X E) (hr : Room (n + 1) X.A) : CallR X (.builtin "len") (rLenO C sp E) := by
  intro pins s σ H xs us Q I r h
  obtain ⟨a, dx, fs, rfl, ha, q⟩ := h
  obtain ⟨u, rfl, ru⟩ := vals1 r
  cases ru
  obtain ⟨mA, J, _⟩ := ins_get I.hok ha
  obtain ⟨od, J, _⟩ := J.look
  obtain ⟨m, hF⟩ := I.fr
  refine PySem.W.len_K hF I.ok.mod.kin J hs hf ?_
  refine wpAny_mono (own_run F hb hx ⟨hr.in1, rfl⟩ I r q) (fun r s' z => ?_) fun _ _ e => e
  obtain ⟨w, H', I', rw', k, ew, hk, qq⟩ := z
  subst ew
  obtain ⟨tk, rfl⟩ := (show ∃ t, r = Value.int k t from rw')
  exact ⟨⟨Int.natCast_nonneg k, by omega⟩, .int k, H', I'.tok _, ⟨_, rfl⟩, qq⟩
/-- repr of an instance -/
def rReprO (C : Addr) (sp : Sp) (E : XK) : List V → Hp → VK → Prop := fun xs H Q => ∃ a dx fs, xs = [.ref a] ∧ H a = some (.ins C dx fs) ∧ sp [.ref a] H (fun v H' => ∃ t : Str, v = .str t ∧ Q (.str t) H') E
theorem call_reprO (F : FnOk X.prog X.w X.K X.mg X.base CX n f fd ps sp) (hs : findIn X.K (.ref C) "__repr__" = some (some (.ref f))) (hf : isFn X.K (.ref f) = true)
    (hb : Binds X.K fd ps []) (hx : Passes CX X E) (hr : Room (n + 1) X.A) : CallR X (.builtin "repr") (rReprO C sp E) := by
  intro pins s σ H xs us Q I r h
  obtain ⟨a, dx, fs, rfl, ha, q⟩ := h
  obtain ⟨u, rfl, ru⟩ := vals1 r
  cases ru
  obtain ⟨mA, J, _⟩ := ins_get I.hok ha
  obtain ⟨od, J, _⟩ := J.look
  obtain ⟨m, hF⟩ := I.fr
  refine PySem.W.repr_K hr.in1.units0 hF I.ok.mod.kin J hs hf ?_
  refine wpAny_mono (own_run F hb hx ⟨hr.in1, rfl⟩ I r q) (fun r s' z => ?_) fun _ _ e => e
  obtain ⟨w, H', I', rw', t, ew, qq⟩ := z
  subst ew
  obtain ⟨tk, rfl⟩ := (show ∃ t', r = Value.str t t' from rw')
  exact ⟨.str t, H', I', ⟨_, rfl⟩, qq⟩
end
end MrS

/-! Z2 -/
set_option Elab.async false
set_option linter.all false
set_option maxRecDepth 100000
set_option maxHeartbeats 2000000
namespace MrS
open PySem PySem.Spec PyProof.Rows L2 PySem.W
section
variable {prog : Program} {w : World} {A : Around} {Er : Value → Shared → Prop} {s : Shared} {K : Frag} {x C f L : Addr} {ox : Obj} {od : Option Obj} {y tb : Value} {h₀ : Heap} {m : Str → Option Value}
/-- a slot of a built-in base, called if it binds -/
theorem ifBound_slot {T : String} {name : Str} {id : String} {args : List Value} {Q : Option Value → Shared → Prop} (X : K.In s.heap) (I : InstAt s.heap x ox C od) (hs : findIn K (.ref C) name = some (some (.builtin id))) (S : Slot T name id)
    (h : wpAny (model prog w) A (call (.builtin id) (.ref x :: args)) (fun v => Q (some v)) Er s) : wpAny (model prog w) A (callSpecialIfBound? (.ref x) name args) Q Er s := by
  simp only [callSpecialIfBound?,
    bindSpecialIfBound?]
  refine wpAny_holding ?_
  refine wpAny_bind (wpAny_bind (wpAny_bind ?_))
  refine I.type.here ((looks_findIn X hs).here ?_)
  simp only [S.bind]
  refine wpAny_bind ?_
  refine wpAny_askSetting (wpAny_ite ?_)
  have fin : wpAny (model prog w) A (call (.builtin id) ([.ref x] ++ args) >>= fun v => pure (some v)) Q Er s :=
    wpAny_bind (wpAny_mono h (fun v s' h' => wpAny_pure h') fun _ _ h' => h')
  split
  · exact wpAny_bind (wpAny_pure (wpAny_pure (by exact fin)))
  · exact wpAny_tryCatch (wpAny_bind (wpAny_pure (wpAny_pure (by exact fin))))
/-- what an own == gives back, turned round -/
def NeBack (Q : Value → Shared → Prop) (v : Value) (s' : Shared) : Prop := ∃ b, v = .bool b ∧ Q (.bool !b) s'
theorem ne_tree {Q : Value → Shared → Prop} (hu : A.in1.units < cLine) (X : K.In s.heap) (I : InstAt s.heap x ox C od) (hs : findIn K (.ref C) "__eq__" = some (some (.ref f))) (hf : isFn K (.ref f) = true)
    (hn : findIn K (.ref C) "__ne__" = some (some (.builtin "object.__ne__"))) (hm : mroIn K C (.type "object") = some true)
    (h : wpAny (model prog w) A.in1 (call (.ref f) [.ref x, y]) (NeBack Q) Er s) : wpAny (model prog w) A (tryCompare (.ref x) "__ne__" y) (fun r s' => ∃ v, r = some v ∧ Q v s') Er s := by
  unfold tryCompare
  refine wpAny_bind (ifBound_slot X I hn PySem.F.cmp_object.ne ?_)
  have isO : Looks (model prog w) s.heap (isInstance (.ref x) (.type "object")) true := I.type.andThen (looks_mroIn X hm)
  refine wpAny_call (codeAny_call_builtin PySem.F.cmp_object.ne.plain PySem.F.cmpEntry_ne
    (@check_slot (model prog w) _ _ s "object.__ne__" "object" "__ne__" (.ref x) [y] [] _ PySem.F.cmpKind_ne PySem.F.cmpSplit_ne isO (PySem.F.cmpArgs_ne _ _) ?_))
  unfold Builtin.«object.__ne__»
  refine wpAny_bind (wpAny_of_eq (a := ((Value.ref x : Value), [y])) (by first | rfl | (simp only [slotArgs]; rfl)) ?_)
  refine wpAny_bind (wpAny_cRoomFor hu ?_)
  refine wpAny_bind (ifBound_K X I hs hf (wpAny_mono h (fun v s' hv => ?_) fun _ _ e => e))
  obtain ⟨b, rfl, q⟩ := hv
  refine wpAny_bind (wpAny_truthy_bool ?_)
  refine wpAny_pure ?_
  show wpAny (model prog w) A (pure (some (Value.bool !b))) _ _ _
  exact wpAny_pure ⟨_, rfl, q⟩
/-- x != y where the right one is no kind of x's -/
theorem ne_K {Q : Value → Shared → Prop} (hu : A.in1.units < cLine) (hu0 : A.units < cLine) (F : Fr h₀ L s.heap m) (X₀ : K.In h₀) (I : InstAt s.heap x ox C od) (ht : Looks (model prog w) s.heap (typeOf y) tb) (nf : notFirst K C tb = true)
    (hs : findIn K (.ref C) "__eq__" = some (some (.ref f))) (hf : isFn K (.ref f) = true) (hn : findIn K (.ref C) "__ne__" = some (some (.builtin "object.__ne__"))) (hm : mroIn K C (.type "object") = some true)
    (h : wpAny (model prog w) A.in1 (call (.ref f) [.ref x, y]) (NeBack Q) Er s) : wpAny (model prog w) A (richCompare .NotEq (.ref x) y) Q Er s := by
  have X := X₀.keeps F.keep
  have one := ne_tree (Q := Q) hu X I hs hf hn hm h
  unfold richCompare
  simp only [oneThing_ref]
  refine wpAny_holding ?_
  refine wpAny_bind (wpAny_cRoomFor hu0 ?_)
  refine wpAny_bind ?_
  refine I.type.here ?_
  refine wpAny_bind (ht.here ?_)
  split
  · rename_i q
    have no : subIn K tb (.ref C) = some false := by
      unfold notFirst at nf
      rcases Bool.or_eq_true_iff.mp nf with e | e
      · rw [beq_iff_eq.mp e] at q
        simp at q
      · exact beq_iff_eq.mp e
    refine wpAny_bind ((looks_subIn X no).here ?_)
    simp only [if_neg Bool.false_ne_true]
    refine wpAny_bind (wpAny_mono one (fun r s' z => ?_) fun _ _ e => e)
    obtain ⟨v, rfl, q⟩ := z
    exact wpAny_pure q
  · refine wpAny_bind ?_
    refine wpAny_pure ?_
    simp only [if_neg Bool.false_ne_true]
    refine wpAny_bind (wpAny_mono one (fun r s' z => ?_) fun _ _ e => e)
    obtain ⟨v, rfl, q⟩ := z
    exact wpAny_pure q
theorem special_none {name : Str} {args : List Value} {Q : Option Value → Shared → Prop} (X : K.In s.heap) (I : InstAt s.heap x ox C od) (hf : findIn K (.ref C) name = some none) (h : Q none s) :
    wpAny (model prog w) A (callSpecial? (.ref x) name args) Q Er s := by
  unfold callSpecial?
  unfold specialOf
  refine wpAny_bind (wpAny_bind ?_)
  exact I.type.here ((looks_findIn X hf).here (wpAny_pure h))
/-- the truth of one that has its own len -/
theorem truthy_len {Q : Bool → Shared → Prop} (F : Fr h₀ L s.heap m) (X₀ : K.In h₀) (I : InstAt s.heap x ox C od) (hb : findIn K (.ref C) "__bool__" = some none)
    (hs : findIn K (.ref C) "__len__" = some (some (.ref f))) (hf : isFn K (.ref f) = true)
    (h : wpAny (model prog w) A.in1 (call (.ref f) [.ref x]) (PySem.W.LenBack fun v s' => ∃ (k : Int) (t : Tok), v = .int k t ∧ Q (k != 0) s') Er s) : wpAny (model prog w) A (truthy (.ref x)) Q Er s := by
  have X := X₀.keeps F.keep
  have key : wpAny (model prog w) A (runValue (.builtin "len" ⟨[.ref x], []⟩)) (fun v s' => ∃ (k : Int) (t : Tok), v = .int k t ∧ Q (k != 0) s') Er s := by
    refine wpAny_runValue (codeAny_builtin entry_len ?_)
    rw [Around.under_plainId plain_len _]
    unfold Builtin.«len»
    refine wpAny_bind (m := oneArg "len" _) (wpAny_pure ?_)
    refine wpAny_bind (m := callSpecial? (.ref x) (Str.ofString "__len__")) (special_fn X I hs (beq_iff_eq.mp hf) ?_)
    refine wpAny_mono h (fun r s' hr => ?_) fun _ _ e => e
    cases r <;> first | exact hr.elim | skip
    rename_i k u
    obtain ⟨⟨h0, h1⟩, hq⟩ := hr
    refine wpAny_bind (wpAny_holding (wpAny_pure ?_))
    refine wpAny_bind (wpAny_letGo ?_)
    show wpAny _ _ (if k < 0 then _ else _) _ _ _
    rw [if_neg (by omega)]
    show wpAny _ _ (if k ≥ 2 ^ 63 then _ else _) _ _ _
    rw [if_neg (by omega)]
    exact wpAny_bind (wpAny_mkInt (wpAny_pure hq))
  have hsp : ∀ {Q' : Option Value → Shared → Prop}, Q' (some (.ref f)) s → wpAny (model prog w) A (specialOf (.ref x) "__len__") Q' Er s := fun q => by
    unfold specialOf
    refine wpAny_bind ?_
    exact I.type.here ((looks_findIn X hs).here q)
  unfold truthy
  first
    | refine wpAny_bind (special_none (name := Str.ofString "__bool__") X I hb ?_)
    | refine wpAny_bind (wpAny_pure (wpAny_bind (special_none (name := Str.ofString "__bool__") X I hb ?_)))
  first
    | refine wpAny_bind (hsp ?_)
    | refine wpAny_bind (wpAny_pure (wpAny_bind (hsp ?_)))
  have last : ∀ {Q' : Bool → Shared → Prop}, (∀ b s', Q b s' → Q' b s') → wpAny (model prog w) A (runValue (.builtin "len" ⟨[.ref x], []⟩) >>= fun v => match v with | .int n _ => (pure (n != 0) : Sem Bool) | _ => unsupported "internal:truth.len") Q' Er s := fun q => by
    refine wpAny_bind (wpAny_mono key (fun r s' z => ?_) fun _ _ e => e)
    obtain ⟨k, t, rfl, qq⟩ := z
    exact wpAny_pure (q _ _ qq)
  first
    | exact last fun _ _ z => z
    | exact wpAny_bind (wpAny_pure (last fun _ _ z => z))
end
end MrS

/-! Z3 -/
set_option Elab.async false
set_option linter.all false
set_option maxRecDepth 100000
set_option maxHeartbeats 2000000
namespace MrS
open PySem PySem.Spec PyProof.Rows L2 PySem.W
section
variable {X : Cx} {CX : CXT} {k n : Nat} {C f : Addr} {fd : FuncData} {ps ks : List Str} {sp : Sp} {E : XK} {Es : L2.St → XK} {pins : List (Addr × Obj)} {σ : L2.St} {H : Hp} {s : Shared} {vs zs : List V} {us ws : List Value} {Q : VK} {g : List Value → List Value → List Value} {gV : List V → List V → List V}
theorem op_neO (F : FnOk X.prog X.w X.K X.mg X.base CX n f fd ps sp) (hs : findIn X.K (.ref C) "__eq__" = some (some (.ref f))) (hf : isFn X.K (.ref f) = true) (hn : findIn X.K (.ref C) "__ne__" = some (some (.builtin "object.__ne__")))
    (hm : mroIn X.K C (.type "object") = some true) (hb : Binds X.K fd ps []) (hx : Passes CX X E) (hr : Room (n + 1) X.A) : OpR X (compareOp .NotEq) (rEqO X.K C sp E true) := by
  intro pins s σ H x y u v Q I rx ry h
  obtain ⟨a, dx, fs, t, rfl, ha, ty, nf, q⟩ := h
  cases rx
  obtain ⟨mA, J0, _⟩ := ins_get I.hok ha
  obtain ⟨od, J, _⟩ := J0.look
  obtain ⟨m, hF⟩ := I.fr
  obtain ⟨Pp, kx, hp, _⟩ := kit_of I ry ty
  refine ne_K hr.in1.units0 hr.units0 hF I.ok.mod.kin J (kx.ty _ _ I.kIn hp) nf hs hf hn hm ?_
  refine wpAny_mono (own_run F hb hx ⟨hr.in1, rfl⟩ I (show Vals [V.ref a, y] [Value.ref a, v] from .cons rfl (.cons ry .nil)) q) (fun r s' z => ?_) fun _ _ e => e
  obtain ⟨w, H', I', rw', b, ew, qq⟩ := z
  subst ew
  cases rw'
  exact ⟨b, rfl, .bl (!b), H', I', rfl, qq⟩
/-- the truth of an instance by its len -/
theorem call_boolO (F : FnOk X.prog X.w X.K X.mg X.base CX n f fd ps sp) (hs : findIn X.K (.ref C) "__len__" = some (some (.ref f))) (hf : isFn X.K (.ref f) = true) (hn : findIn X.K (.ref C) "__bool__" = some none)
    (hb : Binds X.K fd ps []) (hx : Passes CX X E) (hr : Room (n + 4) X.A) :
    CallR X (.type "bool") (fun xs H Q => ∃ a dx fs, xs = [.ref a] ∧ H a = some (.ins C dx fs) ∧ sp [.ref a] H (fun v H' => ∃ k : Nat, v = .int k ∧ k < 2 ^ 62 ∧ Q (.bl (decide (k ≠ 0))) H') E) := by
  intro pins s σ H xs us Q I r h
  obtain ⟨a, dx, fs, rfl, ha, q⟩ := h
  obtain ⟨u, rfl, ru⟩ := vals1 r
  cases ru
  obtain ⟨mA, J0, _⟩ := ins_get I.hok ha
  obtain ⟨od, J, _⟩ := J0.look
  obtain ⟨m, hF⟩ := I.fr
  have tr : ∀ (A : Around), A.frames = X.A.frames → Room (n + 1) A → wpAny (model X.prog X.w) A (truthy (.ref a)) (fun b s' => EP X pins σ Q (.bool b) s') X.xe s := fun A hfr hrA => by
    refine truthy_len hF I.ok.mod.kin J hn hs hf ?_
    refine wpAny_mono (own_run F hb hx ⟨hrA.in1, hfr⟩ I r q) (fun r' s' z => ?_) fun _ _ e => e
    obtain ⟨w, H', I', rw', k, ew, hk, qq⟩ := z
    subst ew
    obtain ⟨tk, rfl⟩ := (show ∃ t, r' = Value.int k t from rw')
    refine ⟨⟨Int.natCast_nonneg k, by omega⟩, k, _, rfl, .bl (decide (k ≠ 0)), H', I'.tok _, ?_, qq⟩
    have e : (((k : Int)) != 0) = decide (k ≠ 0) := by
      by_cases z : k = 0
      · simp [z]
      · simp [z]
    rw [e]
    rfl
  refine callType_newIn (S := fun A' R s' => A' = X.A.in1 ∧ s' = s ∧ R = wants (fun obj s₁ => s₁.TypeIs obj "bool" ∧ EP X pins σ Q obj s₁) X.xe) PySem.F.called_bool PySem.F.newNe_bool (PySem.F.typeCall_bool_1 _) (PySem.F.newCall_bool_1 _) (fun obj => PySem.F.args_object_init_2 obj _) PySem.F.entry_bool_new ?_ ⟨rfl, rfl, rfl⟩
  rintro A' R s' ⟨e1, e2, e3⟩
  have tA := tr A'.in1 (by rw [e1]) (by rw [e1]; exact (hr.mono (show n + 1 + 1 + 1 ≤ n + 4 by omega)).in1.in1)
  rw [← e2] at tA
  have f1 := PySem.F.conv_sub_bool
  subst e3
  clear tr e1 e2
  obtain ⟨hp, g, d, tk, os⟩ := s'
  repeat (any_goals (first | assumption | (with_reducible refine wpAny_mono tA (fun b s2 hb => ?_) fun _ _ e => e) | wp_step))
  all_goals first | exact ⟨rfl, hb⟩ | exact ⟨trivial, hb⟩ | exact ⟨typeIs_bool _ _, hb⟩ | skip
/-! ### o.m(k = e) -/
theorem run_kS (F : FnOk X.prog X.w X.K X.mg X.base CX k f fd ps sp) (hr : Room k X.A) (hb : KBn X.K fd ps n ks g gV) (hx : PassesAt CX X σ E)
    (I : Inv X pins σ H s) (r : Vals vs us) (rz : Vals zs ws) (l1 : vs.length = n) (l2 : zs.length = ks.length) (h : sp (gV vs zs) H Q E) : wpAny (model X.prog X.w) X.A (call (.ref f) us (ks.zip ws)) (EP X pins σ Q) X.xe s := by
  have r2 := hb.rel r rz
  have bd := hb.to s us ws I.kIn (r.length.symm.trans l1) (rz.length.symm.trans l2)
  refine wpAny_call (codeAny_mono (F.run X.A X.stack s H ⟨us, ks.zip ws⟩ (g us ws) (gV vs zs) Q E hr I.env0 bd r2 h) fun r' s' hq => ?_)
  cases r' with
  | error e => exact hx pins H s e s' I hq
  | ok fl =>
    cases fl with
    | ret u => exact I.after hq
    | next => exact False.elim hq
    | brk => exact False.elim hq
    | cont => exact False.elim hq
end
end MrS

/-! Z4 -/
set_option Elab.async false
set_option linter.all false
set_option maxRecDepth 100000
set_option maxHeartbeats 2000000
namespace MrS
open PySem PySem.Spec PyProof.Rows L2 PySem.W
section
variable {X : Cx} {CX : CXT} {k : Nat} {C f : Addr} {fd : FuncData} {ps ks : List Str} {sp : Sp} {E : L2.St → XK} {g : List Value → List Value → List Value} {gV : List V → List V → List V} {o e : Expr} {es : List Expr} {kws : List Keyword} {m : Str} {apos pos : Pos} {ta : TE} {t tk : TA}
theorem at0 : ∀ σ, PassesAt CX0 X σ ((fun _ => E0 : L2.St → XK) σ) := fun _ _ _ _ _ _ _ c => c.elim
/-- o.m(k = e, ..) -/
def tMethK (C : Addr) (m : Str) (n : Nat) (sp : Sp) (gV : List V → List V → List V) (E : L2.St → XK) (ta : TE) (tk : TA) : TE := fun σ H Q => ta σ H fun x H1 => ∃ a dx fs, x = .ref a ∧ H1 a = some (.ins C dx fs) ∧ fs.lookup m = none ∧
  tk σ H1 fun zs H2 => zs.length = n ∧ sp (gV [.ref a] zs) H2 Q (E σ)
theorem pe_methK {pl : Sem Bool} (he : PE X o ta) (c : Cls X.K C) (hm : Meth X.K C m f) (F : FnOk X.prog X.w X.K X.mg X.base CX k f fd ps sp) (hr : Room k X.A) (hb : KBn X.K fd ps 1 ks g gV) (hx : ∀ σ, PassesAt CX X σ (E σ)) (hkw : PK X kws tk)
    (hall : (backToKw pos (keywordEach kws X.env)).all (·.1.isSome) = true := by rfl) (hks : (backToKw pos (keywordEach kws X.env)).filterMap (·.1) = ks := by rfl)
    (hpl : ((backTo pos (starEach [] X.env)).any (·.1) || (backToKw pos (keywordEach kws X.env)).any (·.1.isNone)) = false := by rfl)
    (ht : eval (.Call (.Attribute o m apos) [] kws pos) X.env = (do
      let ov ← eval o X.env
      standAt apos.atName
      let (f, first) ← holding [ov] (getMethod ov m pl)
      callWith pos f first (backTo pos (starEach [] X.env)) (backToKw pos (keywordEach kws X.env))) := by rfl) :
    PE X (.Call (.Attribute o m apos) [] kws pos) (tMethK C m ks.length sp gV E ta tk) := by
  refine ⟨fun pins s σ H Q I h => ?_⟩
  refine PySem.W.methodCall_KW (pl := pl) (thn (he.run pins s σ H _ I h) fun u s1 hh => ?_) ht
  obtain ⟨x, H1, I1, rx, a, dx, fs, ex, ea, l, q⟩ := hh
  subst ex
  obtain rfl : u = Value.ref a := rx
  refine getmeth_ok I1 ea c hm l ?_
  refine PySem.W.callWith_KW0 (first := [.ref a]) (h₀ := X.base) I1.ok.mod.kin hm.kp hall ?_ hpl
  refine thn (hkw.run pos pins s1 σ H1 _ I1 q) fun ws s2 hh => ?_
  obtain ⟨zs, H2, I2, rz, l2, q2⟩ := hh
  refine ⟨I2.kIn, ?_⟩
  rw [hks]
  exact run_kS (us := [.ref a]) (vs := [.ref a]) F hr hb (hx σ) I2 (.cons rfl .nil) rz rfl l2 q2
/-- o.m(e, ..) that may let an error out into the frame's own try -/
def tMethT (C : Addr) (m : Str) (sp : Sp) (E : L2.St → XK) (ta : TE) (t : TA) : TE := fun σ H Q => ta σ H fun x H1 => ∃ a dx fs, x = .ref a ∧ H1 a = some (.ins C dx fs) ∧ fs.lookup m = none ∧
  t σ H1 fun vs H2 => sp (.ref a :: vs) H2 Q (E σ)
theorem pe_methT {pl : Sem Bool} (he : PE X o ta) (c : Cls X.K C) (hm : Meth X.K C m f) (F : FnOk X.prog X.w X.K X.mg X.base CX k f fd ps sp) (hr : Room k X.A) (hb : Binds X.K fd ps []) (hx : ∀ σ, PassesAt CX X σ (E σ)) (ha : PA X (e :: es) t)
    (hst : starEach (e :: es) X.env = (false, eval e X.env) :: starEach es X.env := by rfl) (hpl : (backTo pos (starEach es X.env)).any (·.1) = false := by rfl)
    (ht : eval (.Call (.Attribute o m apos) (e :: es) [] pos) X.env = (do
      let ov ← eval o X.env
      standAt apos.atName
      let (f, first) ← holding [ov] (getMethod ov m pl)
      callWith pos f first (backTo pos (starEach (e :: es) X.env)) (backToKw pos (keywordEach [] X.env))) := by rfl) :
    PE X (.Call (.Attribute o m apos) (e :: es) [] pos) (tMethT C m sp E ta t) := by
  refine ⟨fun pins s σ H Q I h => ?_⟩
  refine PySem.W.methodCall_KW (pl := pl) (thn (he.run pins s σ H _ I h) fun u s1 hh => ?_) ht
  obtain ⟨x, H1, I1, rx, a, dx, fs, ex, ea, l, q⟩ := hh
  subst ex
  obtain rfl : u = Value.ref a := rx
  refine getmeth_ok I1 ea c hm l ?_
  refine PySem.W.callWith_K (first := [.ref a]) (h₀ := X.base) I1.ok.mod.kin hm.kp ?_ hst hpl
  refine thn (ha.run pos pins s1 σ H1 _ I1 q) fun us s2 hh => ?_
  obtain ⟨vs, H2, I2, r, q2⟩ := hh
  refine ⟨I2.kIn, ?_⟩
  exact run_fnS (us := .ref a :: us) (vs := .ref a :: vs) F hr hb (hx σ) I2 (.cons rfl r) q2
end
end MrS

/-! Z5 -/
set_option Elab.async false
set_option linter.all false
set_option maxRecDepth 100000
set_option maxHeartbeats 2000000
namespace MrS
open PySem PySem.Spec PyProof.Rows L2
/-- at a: an error of the class cls, its own dict at d, kept as a value -/
def XO (cls : Value) (d : Option Addr) (a : Addr) : HO := .ext fun h => ∃ (oe : Obj) (vs : Array Value), h.get? a = some oe ∧ Zc cls d oe ∧ oe.data = .fields vs
theorem xo_ok {P : Program} {w : World} {H : Hp} {h : Heap} {a : Addr} {cls : Value} {d : Option Addr} {oe : Obj} {vs : Array Value} (e : h.get? a = some oe) (z : Zc cls d oe) (q : oe.data = .fields vs) : ObjOk P w H h a (XO cls d a) :=
  ⟨⟨oe, vs, e, z, q⟩, ⟨oe, e⟩, fun _ _ ⟨o, vs', e1, z1, q1⟩ k => ⟨o, vs', k o e1, z1, q1⟩⟩
section
variable {X : Cx} {pins : List (Addr × Obj)} {σ : L2.St} {H : Hp} {s : Shared} {a : Addr} {o : HO}
/-- an object that no one held is told of -/
theorem inv_track (I : Inv X pins σ H s) (hn : H a = none) (h0 : X.s_0.heap.get? a = none) (ne : a ≠ X.env.locals) (hc : ∀ x c, X.env.cells.lookup x = some c → c ≠ a) (hp : ∀ p ∈ X.pn ++ pins, p.1 ≠ a)
    (new : ObjOk X.prog X.w (upd H a o) s.heap a o) : Inv X pins σ (upd H a o) s where
  ok := I.ok
  os := I.os
  bare := I.bare
  base := {
    keep := I.base.keep
    slot := I.base.slot
    free := fun b u e n x => by
      have : b ≠ a := fun z => by
        rw [z, h0] at e
        cases e
      rw [upd_ne this]
      exact I.base.free b u e n x
    there := I.base.there
    tups := fun b xs e => by
      have q := I.base.tups b xs e
      rw [upd_ne (ne_of_none q hn)]
      exact q
    frzs := fun b u v e => by
      have q := I.base.frzs b u v e
      rw [upd_ne (ne_of_none q hn)]
      exact q
    tbls := fun b qs e => by
      obtain ⟨more, q⟩ := I.base.tbls b qs e
      exact ⟨more, by rw [upd_ne (ne_of_none q hn)]; exact q⟩ }
  loc := I.loc
  cell := I.cell
  free := by
    rw [upd_ne (Ne.symm ne)]
    exact I.free
  freeC := fun x c e => by
    rw [upd_ne (hc x c e)]
    exact I.freeC x c e
  pin := fun p hm => by
    obtain ⟨e, n, q⟩ := I.pin p hm
    exact ⟨e, by rw [upd_ne (hp p hm)]; exact n, q⟩
  hok := fun b u e => by
    by_cases hb : b = a
    · rw [hb, upd_same] at e
      cases e
      rw [hb]
      exact new
    · rw [upd_ne hb] at e
      exact (I.hok b u e).stay (fun c v _ q => q) (fun c q => by rw [upd_ne (ne_of_none q hn)]; exact q) fun c xs q => by rw [upd_ne (ne_of_none q hn)]; exact q
  len := I.len
end
section
variable {X : Cx} {x n : Str} {c : Value} {i : Nat} {body suite : List Stmt} {b₀ : Stmt} {np pos pos' : Pos} {tb : WX → TS} {ts : Addr → Value → Option Addr → TS}
/-- what 'except x as n' wishes of the body's error, where it is of that class and the suite keeps it -/
def wKeep (K : PySem.W.Frag) (c : Value) (i : Nat) (ts : Addr → Value → Option Addr → TS) (D : Ends) : WX := fun cls d σ H =>
  PySem.W.exmOne K cls c = some true ∧ ∀ a, H a = none → ts a cls d { nx := fun σ' H' => D.nx (σ'.set i none) (upd H' a (XO cls d a)), rt := fun _ _ => False, bk := fun _ _ => False, ct := fun _ _ => False } (σ.set i (some (.ref a))) H
theorem ps_try_keep (hs : X.stack = X.env :: X.outer) (hf : X.env.frame = some X.env.locals) (hN : X.N.Nodup) (hi : X.N[i]? = some n) (hln : X.env.kindOf n = some .local) (hex : X.ex = []) (hc : Names X x c)
    (hb : ∀ (W : WX) (pn : List (Addr × Obj)) (xe : Value → Shared → Prop),
      Takes (X.tr pn xe) W → PassesOwn (model X.prog X.w) X.A X.env xe → PSs (X.tr pn xe) body (tb W))
    (hsu : ∀ (a : Addr) (oe : Obj) (cls : Value) (d : Option Addr) (pn : List (Addr × Obj)),
      Zc cls d oe → (∃ vs, oe.data = .fields vs) → PSs (X.suite a ((a, oe) :: pn)) (b₀ :: suite) (ts a cls d)) :
    PS X (.Try body [.ExceptHandler (some (.Name x np)) (some n) (b₀ :: suite) pos'] [] [] pos) (fun D σ H => tb (wKeep X.K c i ts D) D σ H) := by
  constructor
  intro pins s σ H D I h
  have ok := I.ok
  have frm : X.A.frames = some (X.env :: X.outer) := ok.frames.trans (by rw [hs])
  have isL : Loc X.env.scope n := .inl hln
  refine wpAny_Try_except ?_
  have run := (hb (wKeep X.K c i ts D) (X.pn ++ pins)
    (fun e s₁ => wpAny (model X.prog X.w) X.A (noteFrame e X.env)
      (fun _ s₂ => wpAny (model X.prog X.w) X.A (setFlight e none)
        (fun _ s₃ => wpAny (model X.prog X.w) X.A (handleBy e X.env [.ExceptHandler (some (.Name x np)) (some n) (b₀ :: suite) pos']) (SP X pins D) X.xe s₃) X.xe s₂) X.xe s₁)
    (fun u s' air => ?_) PassesOwn.looking).run [] s σ H D (I.toTry _) h
  · refine wpAny_mono run (fun f s1 hsp => ?_) fun _ _ z => z
    cases f with
    | next =>
      obtain ⟨σ', H', J, q⟩ := hsp
      exact wpAny_execs_nil ⟨σ', H', J.ofTry ok, q⟩
    | brk =>
      obtain ⟨σ', H', J, q⟩ := hsp
      exact ⟨σ', H', J.ofTry ok, q⟩
    | cont =>
      obtain ⟨σ', H', J, q⟩ := hsp
      exact ⟨σ', H', J.ofTry ok, q⟩
    | ret v =>
      obtain ⟨y, σ', H', J, r, q⟩ := hsp
      exact ⟨y, σ', H', J.ofTry ok, r, q⟩
  · obtain ⟨a, B, sI, pins', σ', H', cls, d, rfl, J0, nb, up, sky, na, os, ag, hb1, yes⟩ := air
    have J : Inv X pins σ' H' sI := J0.ofTry ok
    have sky1 : Sky B (X.env :: X.outer) a (Zc cls d) X.env.locals s'.heap := hs ▸ sky
    show wpAny (model X.prog X.w) X.A (noteFrame (.ref a) X.env) _ _ _
    refine Sky.land Zc.steady frm hf sky1 fun h3 fly up3 => ?_
    have K3 : Inv X pins σ' H' { s' with heap := h3 } := J.landed nb fly.1 (up.trans up3) os ag
    obtain ⟨ob3, fv3, ge3, gz3, gd3⟩ := fly.there
    -- a is no frame, it wasn't there ahead
    have noF : a ∉ frs (X.env :: X.outer) := fun hm => by
      obtain ⟨_, o', e', hnf⟩ := fly.2.2.1.mem hm
      rw [ge3] at e'
      cases e'
      exact hnf _ gd3
    have noL : a ≠ X.env.locals := fun z => noF (List.mem_filterMap.mpr ⟨X.env, List.mem_cons_self, by rw [hf, z]⟩)
    have noS : a ∉ X.fs := fun hm => by
      obtain ⟨e, he, q⟩ := List.mem_filterMap.mp hm
      exact noF (List.mem_filterMap.mpr ⟨e, List.mem_cons_of_mem _ he, q⟩)
    have noI : sI.heap.get? a = none := by
      cases e : sI.heap.get? a with
      | none => rfl
      | some o =>
        have z := nb a o e (by rw [show (X.tr (X.pn ++ pins) _).stack = X.env :: X.outer from hs]; exact noF)
        rw [fly.2.1] at z
        cases z
    have no0 : X.s_0.heap.get? a = none := by
      cases e : X.s_0.heap.get? a with
      | none => rfl
      | some o =>
        obtain ⟨o', e'⟩ := J.base.there a o e (by rw [hex]; exact List.not_mem_nil)
        rw [noI] at e'
        cases e'
    have noP : ∀ p ∈ X.pn ++ pins, p.1 ≠ a := fun p hp z => by
      obtain ⟨e, _⟩ := J.pin p hp
      rw [z, noI] at e
      cases e
    have noC : ∀ y b, X.env.cells.lookup y = some b → b ≠ a := fun y b e z => by
      obtain ⟨v, hv⟩ := J.cell y b e
      rw [z] at hv
      obtain ⟨o, e1, _⟩ := hv
      rw [noI] at e1
      cases e1
    have S3 := K3.suite ge3 gd3 na noL noS
    refine wpAny_handleBy_cons ?_ (by intro q; cases q)
    refine codeAny_handlers_test ?_
    have kind : PySem.W.Looks (model X.prog X.w) h3 (typeOf (.ref a)) cls := fun _ _ _ t k q => by
      refine wpAny_typeOf_ref (k _ _ ge3) ?_
      rw [gz3.1]
      exact q
    have fits := PySem.W.exm_one K3.kIn kind hb1
    have asked : ∀ {R : Value → Shared → Prop} {E' : Value → Shared → Prop}, R c { s' with heap := h3 } →
        wpAny (model X.prog X.w) (X.A.mark (some (.ref a))) (eval (.Name x np) X.env) R E' { s' with heap := h3 } := fun {R E'} q => by
      rcases hc with ⟨g1, g2, g3 | ⟨g3, g4, g5⟩⟩
      · exact ld_glob (X := X.suite a _) S3 g1 g3 q g2
      · exact ld_blt (X := X.suite a _) S3 g1 g3 g4 q g5 g2
    refine asked (fits.here ?_)
    refine codeAny_handlers_suite_as ?_
    refine HandSPX.lands_againZ fly fun h4 low up4 => ?_
    have K4 : Inv X pins σ' H' { s' with heap := h4 } := J.landed nb low.1 ((up.trans up3).trans up4) os ag
    obtain ⟨ob4, fv4, ge4, gz4, gd4⟩ := low.there
    have S4 := K4.suite ge4 gd4 na noL noS
    refine store_ok (X := X.suite a ((a, ob4) :: (X.pn ++ pins))) (v := .ref a) S4 hN hi isL rfl (fun s5 S5 => ?_) (.inr hln)
    refine wpAny_mono ((hsu a ob4 cls d (X.pn ++ pins) gz4 ⟨_, gd4⟩).run [] s5 _ H' _ S5 (yes a na)) (fun f s6 hsp => ?_) (fun _ _ z => False.elim z)
    cases f with
    | next =>
      obtain ⟨σe, He, Se, qe⟩ := hsp
      have pin6 := Se.pin (a, ob4) (List.mem_append_left _ List.mem_cons_self)
      have T6 : Inv X pins σe (upd He a (XO cls d a)) s6 := inv_track (Se.unsuite ok) pin6.2.1 no0 noL noC noP (xo_ok pin6.1 gz4 gd4)
      exact gone_ok T6 hN hi hln fun s7 J7 => ⟨_, _, J7, qe⟩
    | brk =>
      obtain ⟨_, _, _, z⟩ := hsp
      exact z.elim
    | cont =>
      obtain ⟨_, _, _, z⟩ := hsp
      exact z.elim
    | ret u =>
      obtain ⟨_, _, _, _, _, z⟩ := hsp
      exact z.elim
end
end MrS

/-! Z6 -/
set_option Elab.async false
set_option linter.all false
set_option maxRecDepth 100000
set_option maxHeartbeats 2000000
namespace MrS
open PySem PySem.Spec PyProof.Rows L2
/-- what a class of errors says, so that isinstance of its instances is asked rightly -/
structure XcC (K : PySem.W.Frag) (D : Addr) : Prop where
  hc : (PySem.W.clsIn K D).isSome = true
  hg : PySem.W.findIn K (.ref D) "__getattribute__" = some (some (.builtin "BaseException.__getattribute__"))
  hk : PySem.W.findIn K (.ref D) "__getattr__" = some none
  hs : PySem.W.subIn K (.ref D) (.type "BaseException") = some true
  ha : PySem.W.findIn K (.ref D) "__class__" = some (some (.builtin "object.__class__"))
  hn : PySem.W.specialIn K (.builtin "object.__class__") "__get__" = some (some (.builtin "getset_descriptor.__get__"))
  ht : PySem.W.takesIn K (.builtin "object.__class__") = some true
  hm : PySem.W.mroIn K D (.type "object") = some true
section
variable {X : Cx} {pins : List (Addr × Obj)} {σ : L2.St} {H : Hp} {s : Shared}
theorem xo_inst {a D dd : Addr} {fs : List (Str × V)} (I : Inv X pins σ H s) (ea : H a = some (XO (.ref D) (some dd) a)) (ed : H dd = some (.xd fs)) :
    ∃ (oe od : Obj) (mA : Str → Option Value), PySem.W.InstAt s.heap a oe D (some od) ∧ (∀ f, RelO (fs.lookup f) (mA f)) ∧ ∀ name, PySem.W.lookIn name od = some (mA name) := by
  have x1 : ObjOk X.prog X.w H s.heap a (XO (.ref D) (some dd) a) := I.hok a _ ea
  obtain ⟨⟨oe, vs, e1, z1, q1⟩, _⟩ := x1
  have x2 : ObjOk X.prog X.w H s.heap dd (.xd fs) := I.hok dd _ ed
  obtain ⟨mA, hns, rl⟩ := x2
  obtain ⟨od, ho, hl⟩ := lookIn_ns hns
  refine ⟨oe, od, mA, ⟨e1, z1.1, ?_, ?_⟩, rl, hl⟩
  · unfold PySem.W.notCls
    rw [q1] <;> rfl
  · rw [z1.2]
    exact ho
/-- isinstance(e, c) -/
theorem call_isX : CallR X (.builtin "isinstance") (fun xs H Q => ∃ (a D dd : Addr) (fs : List (Str × V)) (c : V) (u : Value) (b : Bool), xs = [.ref a, c] ∧ ClsV c u ∧ XcC X.K D ∧ H a = some (XO (.ref D) (some dd) a) ∧ H dd = some (.xd fs) ∧
    PySem.W.kitOne X.K (.ref D) u = some b ∧ Q (.bl b) H) := by
  intro pins s σ H xs us Q I r h
  obtain ⟨a, D, dd, fs, c, u, b, rfl, k, C, ea, ed, e, q⟩ := h
  obtain ⟨u1, u2, rfl, r1, r2⟩ := vals2 r
  have e2 := k.eq r2
  subst e2
  cases r1
  obtain ⟨oe, od, mA, J, _, _⟩ := xo_inst I ea ed
  exact PySem.W.kia_one (PySem.W.kitx_exc C.hc C.hg C.hk C.hs C.ha C.hn C.ht C.hm) I.kIn J e (fun z => nomatch z) fun tk => ⟨.bl b, H, I.tok tk, rfl, q⟩
/-- isinstance(e, (c1, c2, ..)) -/
theorem call_isXT : CallR X (.builtin "isinstance") (fun xs H Q => ∃ (a D dd tp : Addr) (fs : List (Str × V)) (cs : List V) (ws : List Value) (b : Bool), xs = [.ref a, .ref tp] ∧ H tp = some (.tup cs) ∧ Paired ClsV cs ws ∧ XcC X.K D ∧ H a = some (XO (.ref D) (some dd) a) ∧ H dd = some (.xd fs) ∧
    PySem.W.kitAny X.K (.ref D) ws = some b ∧ Q (.bl b) H) := by
  intro pins s σ H xs us Q I r h
  obtain ⟨a, D, dd, tp, fs, cs, ws, b, rfl, hT, k, C, ea, ed, e, q⟩ := h
  obtain ⟨u1, u2, rfl, r1, r2⟩ := vals2 r
  cases r1
  cases (show u2 = Value.ref tp from r2)
  obtain ⟨oe, od, mA, J, _, _⟩ := xo_inst I ea ed
  have x3 : ObjOk X.prog X.w H s.heap tp (.tup cs) := I.hok tp _ hT
  obtain ⟨_, its, rv, o, h1, h2, n, h3⟩ := x3
  have e3 := ClsV.all k rv
  subst e3
  obtain ⟨oc, ot, dt, sl⟩ := o
  simp only at h2 h3
  subst h2 h3
  exact PySem.W.kia_tup (PySem.W.kitx_exc C.hc C.hg C.hk C.hs C.ha C.hn C.ht C.hm) I.kIn J h1 e (fun z => nomatch z) fun tk => ⟨.bl b, H, I.tok tk, rfl, q⟩
/-- e.f of a kept error -/
def tXoF (K : PySem.W.Frag) (f : Str) (te : TE) : TE := fun σ H Q => te σ H fun x H1 => ∃ (a D dd : Addr) (fs : List (Str × V)) (v : V), x = .ref a ∧ XcC K D ∧ PySem.W.hasDictIn K D = true ∧ PySem.W.findIn K (.ref D) f = some none ∧
  H1 a = some (XO (.ref D) (some dd) a) ∧ H1 dd = some (.xd fs) ∧ fs.lookup f = some v ∧ Q v H1
theorem pe_xoF {e : Expr} {te : TE} {f : Str} {pos : Pos} (he : PE X e te) (hb : attributeBase e f X.env (eval e X.env) = eval e X.env := by rfl) : PE X (.Attribute e f pos) (tXoF X.K f te) := by
  refine ⟨fun pins s σ H Q I h => ?_⟩
  refine attr_of hb (thn (he.run pins s σ H _ I h) fun u s1 hh => ?_)
  obtain ⟨x, H1, I1, rx, a, D, dd, fs, v, ex, C, hD, no, ea, ed, lk, q⟩ := hh
  subst ex
  obtain rfl : u = Value.ref a := rx
  obtain ⟨oe, od, mA, J, rl, hl⟩ := xo_inst I1 ea ed
  obtain ⟨u, hu, ru⟩ := RelO.some_of (v := v) (o := mA f) (by rw [← lk]; exact rl f)
  exact HandSPX.exc_get I1.kIn J C.hg C.hk C.hs (PySem.W.findObj_own hD no rfl (by rw [hl, hu])) (handed_of ru) ⟨v, H1, I1.tok _, ru, q⟩
end
end MrS

/-! AA -/
set_option Elab.async false
set_option linter.all false
set_option maxRecDepth 100000
set_option maxHeartbeats 2000000
namespace Mr
open PySem PySem.Spec PyProof.Rows L2 TL MrS RZ PySem.W
abbrev sTold : Stmt := topS 35
abbrev nTold : List Str := ["_law_table_here", "_law_some", "_law_named", "_law_found", "_law_caught", "error", "_law_others"]
theorem scTold : FnScope nTold ["_law_table_here", "_law_some", "_law_named"] (defScope sTold) := ⟨rfl, rfl, rfl, by decide +kernel, rfl, by decide +kernel, by decide +kernel⟩
/-- what the text says of the errors -/
structure Erx (K : PySem.W.Frag) (mg : Str → Option Value) (L fL c1 c2 c3 c4 c5 c6 : Addr) : Prop where
  lm : PySem.LmX.LmTxt K mg L fL
  xc : XcC K L
  m1 : mg "BadTable" = some (.ref c1)
  m2 : mg "Known" = some (.ref c2)
  m3 : mg "LastBegin" = some (.ref c3)
  m4 : mg "NoMove" = some (.ref c4)
  m5 : mg "NoState" = some (.ref c5)
  m6 : mg "TooGreat" = some (.ref c6)
  mR : mg "RuntimeError" = none
  ka : PySem.W.kitAny K (.ref L) [.ref c1, .ref c2, .ref c3, .ref c4, .ref c5, .ref c6] = some false
  kr : PySem.W.kitOne K (.ref L) (.type "RuntimeError") = some true
section
variable {P : Program} {w : World} {K : PySem.W.Frag} {mg : Str → Option Value} {base : Heap}
theorem kb_moves {f : Addr} {fd : FuncData} (F : Fun K "without" "Table.without" sWithout f fd) : KBn K fd ["self", "moves"] 1 ["moves"] (fun us ws => us ++ ws) (fun vs zs => vs ++ zs) := by
  obtain ⟨oc, od, kV, doc, pm, an, cdv, ct, osl, rfl, lk, hcd⟩ := F.ex
  refine ⟨fun s us ws _ l1 l2 => BindsTo.of_eq ?_, fun r1 r2 => r1.append r2⟩
  match us, l1, ws, l2 with
  | [_], _, [_], _ => rfl
def spTold (K : PySem.W.Frag) (C : Addr) : Sp := fun vs H Q _ => ∃ (p m aS aM aB aW : Addr) (nm : Bool) (nodes : List Str) (as bs : Arcs) (firsts : List Str) (sw : Sw), vs = [.ref p, .ref m, .bl nm] ∧ ObAt C H p aS aM aB aW nodes as firsts sw ∧ PartOk nodes as firsts sw ∧
  (SqL K H m (refs bs) ∨ SqT K H m (refs bs)) ∧ PairsAt H bs ∧
  (stillOf (fsts (keptOf as bs)) nodes = .none → ∀ t aK H', Same H H' → PartAt H' aS aK aB aW nodes (keptOf as bs) firsts sw → H' t = some (.tup [.ref aS, .ref aK, .ref aB, .ref aW]) → Q (.ref t) H') ∧
  ∀ x, stillOf (fsts (keptOf as bs)) nodes = .some x → ∀ l H', Same H H' → H' l = some (.lst [.str x]) → Q (.ref l) H'
theorem ok_told {fP fR fI fN fS fM fV fB fW fX f fO fT fL C L c1 c2 c3 c4 c5 c6 : Addr} {dP dR dI dN dS dM dV dB dW dX fd fdO fdT : FuncData} (F : Fun K "_law_told" "_law_told" sTold f fd) (FO : Fun K "without" "Table.without" sWithout fO fdO) (bO : Binds K fdO ["self", "moves"] []) (mO : Meth K C "without" fO)
    (FT : Fun K "__init__" "Table.__init__" sInit fT fdT) (M : Mk K C fT) (T : Txt K mg C)
    (Z : Hlp K mg fP fR fI fN fS fM fV fB fW fX dP dR dI dN dS dM dV dB dW dX) (R : Erx K mg L fL c1 c2 c3 c4 c5 c6) : FnOk P w K mg base CX0 8 f fd ["_law_table_here", "_law_some", "_law_named"] (spTold K C) := by
  have GO : FnOk P w K mg base (L2.CX P w) 7 fO fdO ["self", "moves"] (spWithout K C L) := ok_without FO FT M T Z R.lm
  have mi := Z.mi
  refine F.ok scTold (fun vs H Q E h => ?_) (fun cdv A outer s H vs Q E hr h => ?_)
  · obtain ⟨p, m, aS, aM, aB, aW, nm, nodes, as, bs, firsts, sw, rfl, _⟩ := h
    rfl
  · obtain ⟨p, m, aS, aM, aB, aW, nm, nodes, as, bs, firsts, sw, rfl, ob, ok, hm, hb, q, qe⟩ := h
    obtain ⟨dx, hp⟩ := ob.ob
    refine ⟨_, pss_cons (ps_asg (pe_tup (pa_cons pe_non (pa_cons pe_non pa_nil))) (pg_tup rfl (pgs_cons (pg_name (i := 3) scTold.nd rfl (.inl rfl)) (pgs_cons (pg_name (i := 4) scTold.nd rfl (.inl rfl)) pgs_nil))))
      (pss_cons (ps_try_keep (i := 5) rfl rfl scTold.nd rfl rfl rfl ⟨rfl, by decide, .inl R.lm.gC⟩
        (fun W pn xe tk _ => pss_one (ps_set (i := 3) scTold.nd rfl (.inl rfl) (pe_ifExp (pt_val (pv 2)) (pe_methK (pv 0) T.cl mO GO hr (kb_moves FO) (fun σ => passAt tk σ) (pk_cons (pv 1) pk_nil)) (pe_methT (pv 0) T.cl mO GO hr bO (fun σ => passAt tk σ) (pa_cons (pv 1) pa_nil)))))
        (fun a oe cls d pn hz hf => pss_one (ps_set (i := 4) scTold.nd rfl (.inl rfl) (pv 5))))
      (pss_cons (ps_if (pt_cmpR op_isN (pv 4) pe_non (nomark _)) (pss_one (ps_ret (pe_tup (pa_cons (pe_fld (pv 3) rfl) (pa_cons (pe_fld (pv 3) rfl) (pa_cons (pe_fld (pv 3) rfl) (pa_cons (pe_fld (pv 3) rfl) pa_nil))))))) pss_nil)
      (pss_cons (ps_set (i := 6) scTold.nd rfl (.inl rfl) (pe_callB call_isXT (by rfl) mi (by decide +kernel) (pa_cons (pv 4) (pa_cons (pe_tup (pa_cons (pe_glob (v := .ref c1) rfl R.m1 rfl) (pa_cons (pe_glob (v := .ref c2) rfl R.m2 rfl) (pa_cons (pe_glob (v := .ref c3) rfl R.m3 rfl)
          (pa_cons (pe_glob (v := .ref c4) rfl R.m4 rfl) (pa_cons (pe_glob (v := .ref c5) rfl R.m5 rfl) (pa_cons (pe_glob (v := .ref c6) rfl R.m6 rfl) pa_nil))))))) pa_nil))))
      (pss_one (ps_ret (pe_ifExp (PW.pt (pw_or (pt_val (pv 6)) (pw_or1 (pt_not (pt_val (pe_callB call_isX (by rfl) mi (by decide +kernel) (pa_cons (pv 4) (pa_cons (pe_bltn (v := .ty "RuntimeError") (by rfl) R.mR (by decide +kernel) rfl) pa_nil))))))))
        pe_str (pe_lst (pa_cons (pe_xoF (pv 4)) pa_nil)))))))), ?_⟩
    refine ⟨(by show 2 ≤ sizeLine; decide), fun tp htp => ⟨tp, [.non, .non], rfl, .inl (.inl upd_same), rfl, .non, [.non], rfl, .non, [], rfl, rfl, ?_⟩⟩
    have s1 := same_upd (o := .tup [V.non, .non]) htp
    have ob1 := ob.same s1
    have hm1 : SqL K (upd H tp (.tup [V.non, .non])) m (refs bs) ∨ SqT K (upd H tp (.tup [V.non, .non])) m (refs bs) := hm.imp (fun z => s1.seq z) fun z => tseq s1 z
    have hb1 := hb.same s1
    have hp1 := s1 _ _ hp
    generalize upd H tp (.tup [V.non, .non]) = H1 at s1 ob1 hm1 hb1 hp1 ⊢
    cases nm with
    | true =>
      refine ⟨_, rfl, _, rfl, iteT ?_⟩
      refine ⟨_, rfl, p, dx, _, rfl, hp1, lkNo (by decide +kernel) (by decide +kernel) (by decide +kernel) (by decide +kernel), _, rfl, rfl, ?_⟩
      refine ⟨p, m, aS, aM, aB, aW, nodes, as, bs, firsts, sw, rfl, ob1, ok, hm1, hb1, fun hn p2 aK H2 hp2 s2 o2 => ?_, fun x hx d H2 hd s2 ed => ?_⟩
      · obtain ⟨dy, e2⟩ := o2.ob
        refine ⟨_, rfl, rfl, _, rfl, iteT ?_⟩
        refine ⟨_, rfl, p2, C, dy, _, _, rfl, e2, T.cl, T.nS, lkS, _, rfl, p2, C, dy, _, _, rfl, e2, T.cl, T.nM, lkM, _, rfl, p2, C, dy, _, _, rfl, e2, T.cl, T.nB, lkB, _, rfl, p2, C, dy, _, _, rfl, e2, T.cl, T.nW, lkW, (by show 4 ≤ sizeLine; decide), fun t ht => ?_⟩
        exact q hn t aK _ ((s1.trans s2).trans (same_upd ht)) (o2.pt.same (same_upd ht)) upd_same
      · refine ⟨R.lm.te, fun a ha => ?_⟩
        refine ⟨_, rfl, ?_⟩
        have s3 := same_upd (o := XO (.ref L) (some d) a) ha
        have e3 : (upd H2 a (XO (.ref L) (some d) a)) a = some (XO (.ref L) (some d) a) := upd_same
        have d3 := s3 _ _ ed
        refine ⟨_, rfl, rfl, _, rfl, iteF ?_⟩
        refine ⟨_, rfl, (by show 6 ≤ sizeLine; decide), fun u hu => ?_⟩
        have s4 := same_upd (o := .tup [.ref c1, .ref c2, .ref c3, .ref c4, .ref c5, .ref c6]) hu
        refine ⟨a, L, d, u, _, _, _, false, rfl, upd_same, .cons (.own _) (.cons (.own _) (.cons (.own _) (.cons (.own _) (.cons (.own _) (.cons (.own _) .nil))))), R.xc, s4 _ _ e3, s4 _ _ d3, R.ka, ?_⟩
        refine ⟨_, rfl, _, rfl, iteF ?_⟩
        refine ⟨_, rfl, a, L, d, _, _, _, true, rfl, .ty _, R.xc, s4 _ _ e3, s4 _ _ d3, R.kr, _, rfl, iteF ?_⟩
        refine ⟨_, rfl, a, L, d, _, .str x, rfl, R.xc, R.lm.hdC, R.lm.noN, s4 _ _ e3, s4 _ _ d3, ?_, (by show 1 ≤ sizeLine; decide), fun l hl => ?_⟩
        · rw [List.lookup_cons_self]
        · exact qe x hx l _ ((((s1.trans s2).trans s3).trans s4).trans (same_upd hl)) upd_same
    | false =>
      refine ⟨_, rfl, _, rfl, iteF ?_⟩
      refine ⟨_, rfl, p, dx, _, rfl, hp1, lkNo (by decide +kernel) (by decide +kernel) (by decide +kernel) (by decide +kernel), _, rfl, ?_⟩
      refine ⟨p, m, aS, aM, aB, aW, nodes, as, bs, firsts, sw, rfl, ob1, ok, hm1, hb1, fun hn p2 aK H2 hp2 s2 o2 => ?_, fun x hx d H2 hd s2 ed => ?_⟩
      · obtain ⟨dy, e2⟩ := o2.ob
        refine ⟨_, rfl, rfl, _, rfl, iteT ?_⟩
        refine ⟨_, rfl, p2, C, dy, _, _, rfl, e2, T.cl, T.nS, lkS, _, rfl, p2, C, dy, _, _, rfl, e2, T.cl, T.nM, lkM, _, rfl, p2, C, dy, _, _, rfl, e2, T.cl, T.nB, lkB, _, rfl, p2, C, dy, _, _, rfl, e2, T.cl, T.nW, lkW, (by show 4 ≤ sizeLine; decide), fun t ht => ?_⟩
        exact q hn t aK _ ((s1.trans s2).trans (same_upd ht)) (o2.pt.same (same_upd ht)) upd_same
      · refine ⟨R.lm.te, fun a ha => ?_⟩
        refine ⟨_, rfl, ?_⟩
        have s3 := same_upd (o := XO (.ref L) (some d) a) ha
        have e3 : (upd H2 a (XO (.ref L) (some d) a)) a = some (XO (.ref L) (some d) a) := upd_same
        have d3 := s3 _ _ ed
        refine ⟨_, rfl, rfl, _, rfl, iteF ?_⟩
        refine ⟨_, rfl, (by show 6 ≤ sizeLine; decide), fun u hu => ?_⟩
        have s4 := same_upd (o := .tup [.ref c1, .ref c2, .ref c3, .ref c4, .ref c5, .ref c6]) hu
        refine ⟨a, L, d, u, _, _, _, false, rfl, upd_same, .cons (.own _) (.cons (.own _) (.cons (.own _) (.cons (.own _) (.cons (.own _) (.cons (.own _) .nil))))), R.xc, s4 _ _ e3, s4 _ _ d3, R.ka, ?_⟩
        refine ⟨_, rfl, _, rfl, iteF ?_⟩
        refine ⟨_, rfl, a, L, d, _, _, _, true, rfl, .ty _, R.xc, s4 _ _ e3, s4 _ _ d3, R.kr, _, rfl, iteF ?_⟩
        refine ⟨_, rfl, a, L, d, _, .str x, rfl, R.xc, R.lm.hdC, R.lm.noN, s4 _ _ e3, s4 _ _ d3, ?_, (by show 1 ≤ sizeLine; decide), fun l hl => ?_⟩
        · rw [List.lookup_cons_self]
        · exact qe x hx l _ ((((s1.trans s2).trans s3).trans s4).trans (same_upd hl)) upd_same
end
end Mr

/-! AB -/
set_option Elab.async false
set_option linter.all false
set_option maxRecDepth 100000
set_option maxHeartbeats 2000000
namespace Mr
open PySem PySem.Spec PyProof.Rows L2 TL MrS RZ PySem.W
abbrev sSome : Stmt := topS 36
abbrev nSome : List Str := ["_law_box_here", "_law_t", "_law_left", "_law_found", "_law_turn", "_law_node", "_law_arc"]
theorem scSome : FnScope nSome ["_law_box_here", "_law_t"] (defScope sSome) := ⟨rfl, rfl, rfl, by decide +kernel, rfl, by decide +kernel, by decide +kernel⟩
theorem seq_at {n k : Nat} (h : k < n) : seqIndex? (k : Int) n = some k := by
  have h1 : ¬ ((k : Int) < 0) := by omega
  unfold seqIndex?
  simp only [h1, if_false]
  have h2 : (decide (0 ≤ (k : Int)) && decide ((k : Int) < (n : Int))) = true := by
    rw [Bool.and_eq_true]
    exact ⟨decide_eq_true (by omega), decide_eq_true (by omega)⟩
  rw [if_pos h2]
  simp
theorem map_erase {α β : Type} (g : α → β) : ∀ (l : List α) (k : Nat), (l.map g).eraseIdx k = (l.eraseIdx k).map g
  | [], _ => rfl
  | x :: l, 0 => rfl
  | x :: l, k + 1 => by
    rw [List.map_cons, List.eraseIdx_cons_succ, List.eraseIdx_cons_succ, List.map_cons, map_erase g l k]
def fromL (l : Arcs) (x : Str) : Arcs := l.filter fun y => decide (y.2.1 = x)
theorem fromL_app (l : Arcs) (y : Addr × (Str × Str)) (x : Str) : fromL (l ++ [y]) x = fromL l x ++ (if y.2.1 = x then [y] else []) := by
  unfold fromL
  rw [List.filter_append]
  by_cases h : y.2.1 = x
  · simp [h]
  · simp [h]
theorem fromL_le (l : Arcs) (x : Str) : (fromL l x).length ≤ l.length := List.length_filter_le _ _
section
variable {P : Program} {w : World} {K : PySem.W.Frag} {mg : Str → Option Value} {base : Heap}
def spSome : Sp := fun vs H Q _ => ∃ (b T : Addr) (t : TD) (aN aA aF aG : Addr) (as : Arcs) (ts : List (Str × Addr × List Str)) (c : Int), vs = [.ref b, .ref T] ∧ Bx H b c ∧ 0 ≤ c ∧ c ≤ 8000000 ∧ TOk t ∧ TabAt H T t aN aA aF aG as ts ∧
  ∀ l (bs : Arcs) c' H', H l = none → (∀ x ∈ bs, x ∈ as) → bs.length ≤ 48 → H' l = some (.lst (refs bs)) → c ≤ c' → c' ≤ c + 20 → Bx H' b c' → Kp b H H' → Q (.ref l) H'
theorem ok_some {f fT fO : Addr} {fd fdT fdO : FuncData} (F : Fun K "_law_some_moves" "_law_some_moves" sSome f fd) (FT : Fun K "_law_take" "_law_take" sTake fT fdT) (bT : Binds K fdT ["_law_box_here", "_law_size"] []) (mT : mg "_law_take" = some (.ref fT))
    (FO : Fun K "_law_of" "_law_of" sOf fO fdO) (bO : Binds K fdO ["_law_box_here", "_law_some"] []) (mO : mg "_law_of" = some (.ref fO))
    (ml : mg "len" = none) (mr : mg "range" = none) (mm : mg "min" = none) (mli : mg "list" = none) : FnOk P w K mg base CX0 3 f fd ["_law_box_here", "_law_t"] spSome := by
  have GT : FnOk P w K mg base CX0 1 fT fdT ["_law_box_here", "_law_size"] spTake := ok_take FT
  have GO : FnOk P w K mg base CX0 2 fO fdO ["_law_box_here", "_law_some"] (spOf K) := ok_of FO FT bT mT ml
  refine F.ok scSome (fun vs H Q E h => ?_) (fun cdv A outer s H vs Q E hr h => ?_)
  · obtain ⟨b, T, t, aN, aA, aF, aG, as, ts, c, rfl, _⟩ := h
    rfl
  · obtain ⟨b, T, t, aN, aA, aF, aG, as, ts, c, rfl, hb, hc, hc2, ok, B, q⟩ := h
    have hu := hu_of hr
    have hr1 : Room 1 _ := hr.mono (by decide)
    refine ⟨_, pss_cons (ps_par (i := 2) (j := 3) rfl scSome.nd rfl rfl (by decide) rfl rfl (pa_cons (pe_callTy call_list_of (by rfl) mli (by decide +kernel) (pa_cons (pe_dget hu (pv 1) pe_str (fun _ _ => rfl)) pa_nil)) (pa_cons (pe_lst pa_nil) pa_nil)) (by rfl))
      (pss_cons (ps_for PassesOwn.never rfl (pi_range1 rfl mr (pa_cons (pe_callB (call_min2 rfl) (by rfl) mm (by decide +kernel) (pa_cons (pe_callB call_len_seq (by rfl) ml PySem.boot_len (pa_cons (pv 2) pa_nil)) (pa_cons (pe_call GT hr1 (by rfl) mT FT.kp bT .nil pass0 (pa_cons (pv 0) (pa_cons pe_int pa_nil))) pa_nil))) pa_nil))
          (pg_name (i := 4) scSome.nd rfl (.inl rfl))
        (pss_one (ps_expr (pe_bm PySem.F.plainAttrs_list PySem.F.slot_list_append PySem.F.type_list_append mt_append (pv 3) (pa_cons (pe_bm PySem.F.plainAttrs_list PySem.F.slot_list_pop PySem.F.type_list_pop mt_popAt (pv 2)
            (pa_cons (pe_call GT hr1 (by rfl) mT FT.kp bT .nil pass0 (pa_cons (pv 0) (pa_cons (pe_callB call_len_seq (by rfl) ml PySem.boot_len (pa_cons (pv 2) pa_nil)) pa_nil))) pa_nil)) pa_nil)))))
      (pss_cons (ps_if (pt_cmpR op_eq (pe_call GT hr1 (by rfl) mT FT.kp bT .nil pass0 (pa_cons (pv 0) (pa_cons pe_int pa_nil))) pe_int (nomark _))
        (pss_cons (ps_set (i := 5) scSome.nd rfl (.inr rfl) (pe_call GO hr (by rfl) mO FO.kp bO .nil pass0 (pa_cons (pv 0) (pa_cons (pe_dget hu (pv 1) pe_str (fun _ _ => rfl)) pa_nil))))
        (pss_one (ps_set (i := 3) scSome.nd rfl (.inl rfl) (pe_op op_cat (pv 3) (pe_revL (pe_lc (own := [("_law_arc", 6)]) (g := gName 6) rfl scSome.nd (pi_list (pv 2))
          (blkOk_by (own := [("_law_arc", 6)]) (N := nSome) (sc := defScope sSome) (by decide +kernel))
          (fun _ _ _ _ _ => pg_name (i := 6) scSome.nd rfl (.inl rfl))
          (fun _ _ _ _ _ => pts_one (pt_cmpR op_eq (pe_ix (ix_tupK K) (pv 6) pe_int (fun _ _ => rfl)) (pv 5) (nomark _)))
          (fun _ _ _ _ _ => pv 6))))))) pss_nil)
      (pss_one (ps_ret (pv 3))))), ?_⟩
    -- left, found
    have nA : aA ≠ b := refs_ne hb B.hA
    refine ⟨_, rfl, T, _, rfl, getA B.hT, aA, _, rfl, .inl (SqL.of B.hA), fun Lf hLf => ⟨Nat.zero_le _, fun Fo hFo => ⟨_, _, rfl, ?_⟩⟩⟩
    have k1 := (Kp.new (b := b) (o := .lst (refs as)) hLf).trans (Kp.new (b := b) (o := .lst []) hFo)
    have hb1 := (hb.new (o := .lst (refs as)) hLf).new (o := .lst []) hFo
    have eF1 : (upd (upd H Lf (.lst (refs as))) Fo (.lst [])) Fo = some (.lst []) := upd_same
    have nLF : Lf ≠ Fo := ne_of_none (upd_same (H := H) (o := .lst (refs as))) hFo
    have eL1 : (upd (upd H Lf (.lst (refs as))) Fo (.lst [])) Lf = some (.lst (refs as)) := by rw [upd_ne nLF, upd_same]
    have hFo0 : H Fo = none := by
      cases e : H Fo with
      | none => rfl
      | some o =>
        have z : (upd H Lf (.lst (refs as))) Fo = some o := by rw [upd_ne nLF.symm]; exact e
        rw [z] at hFo
        cases hFo
    have nLb : Lf ≠ b := fun z => hb.ne hLf z.symm
    have nFb : Fo ≠ b := fun z => hb.ne hFo0 z.symm
    generalize upd (upd H Lf (.lst (refs as))) Fo (.lst []) = H1 at k1 hb1 eF1 eL1 ⊢
    -- the walk
    have a24 : as.length ≤ 24 := by
      have z := ok.a24
      rw [← B.mA, List.length_map] at z
      exact z
    have la : (refs as).length = as.length := List.length_map _
    refine ⟨_, rfl, Lf, _, rfl, .inl (SqL.of eL1), _, rfl, b, 7, c, rfl, hb1, hc, by omega, by decide, by decide, fun r c2 H2 r0 r1 c2a c2b hb2 k2 ke2 => ⟨_, _, rfl, ?_⟩⟩
    have eL2 : H2 Lf = some (.lst (refs as)) := by rw [ke2 _ nLb]; exact eL1
    have eF2 : H2 Fo = some (.lst []) := by rw [ke2 _ nFb]; exact eF1
    have k02 := k1.trans k2
    rw [la]
    generalize hm : (if r < (as.length : Int) then r else (as.length : Int)) = m
    have m0 : 0 ≤ m := by rw [← hm]; split <;> omega
    have m1 : m ≤ as.length := by rw [← hm]; split <;> omega
    have m7 : m ≤ 7 := by rw [← hm]; split <;> omega
    refine ⟨m, rfl, by omega, by omega, for_range (lo := 0) (n := m.toNat) (fun i σ H7 => ∃ (y4 : Option V) (c7 : Int) (ls fs : Arcs), σ = [some (.ref b), some (.ref T), some (.ref Lf), some (.ref Fo), y4, none, none] ∧ H7 Lf = some (.lst (refs ls)) ∧ H7 Fo = some (.lst (refs fs)) ∧
        (∀ x ∈ ls, x ∈ as) ∧ (∀ x ∈ fs, x ∈ as) ∧ ls.length + i = as.length ∧ fs.length = i ∧ Kp b H H7 ∧ Bx H7 b c7 ∧ c2 ≤ c7 ∧ c7 ≤ c2 + i)
      ⟨_, c2, as, [], rfl, eL2, eF2, fun x hx => hx, (fun x hx => by cases hx), by omega, rfl, k02, hb2, Int.le_refl _, by omega⟩ ?_ ?_⟩
    · rintro i σ H7 hi ⟨y4, c7, ls, fs, rfl, eL, eF, lin, fin, ll, lf, kp7, hb7, c7a, c7b⟩
      have ls0 : 0 < ls.length := by omega
      have lr : (refs ls).length = ls.length := List.length_map _
      refine ⟨_, rfl, .inl ⟨rfl, _, SqL.of eF⟩, _, rfl, .inl ⟨rfl, _, SqL.of eL⟩, _, rfl, _, rfl, Lf, _, rfl, .inl (SqL.of eL), ?_⟩
      refine ⟨b, _, c7, rfl, hb7, by omega, by omega, by rw [lr]; omega, by rw [lr]; omega, fun u c8 H8 u0 u1 c8a c8b hb8 kp8 ke8 => ?_⟩
      rw [lr] at u1
      obtain ⟨k, rfl⟩ := Int.eq_ofNat_of_zero_le u0
      have kl : k < ls.length := by omega
      have eL8 : H8 Lf = some (.lst (refs ls)) := by rw [ke8 _ nLb]; exact eL
      have eF8 : H8 Fo = some (.lst (refs fs)) := by rw [ke8 _ nFb]; exact eF
      refine ⟨Lf, _, _, k, .ref ls[k].1, rfl, rfl, eL8, by omega, by omega, by rw [lr]; exact seq_at kl, by rw [List.getElem?_map, List.getElem?_eq_getElem kl]; rfl, ?_⟩
      rw [map_erase]
      have eF9 : (upd H8 Lf (.lst (refs (ls.eraseIdx k)))) Fo = some (.lst (refs fs)) := by rw [upd_ne nLF.symm]; exact eF8
      refine ⟨Fo, _, _, rfl, rfl, eF9, by rw [show (refs fs).length = fs.length from List.length_map _]; exact lt_line (by omega), ?_⟩
      refine ⟨_, c8, ls.eraseIdx k, fs ++ [ls[k]], rfl, ?_, ?_, fun x hx => lin x (List.mem_of_mem_eraseIdx hx), fun x hx => ?_, ?_, ?_, ((kp7.trans kp8).up hLf).up hFo0, (hb8.up nLb.symm).up nFb.symm, by omega, by omega⟩
      · rw [upd_ne nLF, upd_same]
      · rw [upd_same, refs_app]
        rfl
      · rcases List.mem_append.mp hx with z | z
        · exact fin x z
        · rw [List.mem_singleton.mp z]
          exact lin _ (List.getElem_mem kl)
      · rw [List.length_eraseIdx_of_lt kl]
        omega
      · rw [List.length_append, lf]
        rfl
    · rintro σ H7 ⟨y4, c7, ls, fs, rfl, eL, eF, lin, fin, ll, lf, kp7, hb7, c7a, c7b⟩
      refine ⟨_, rfl, b, 4, c7, rfl, hb7, by omega, by omega, by decide, by decide, fun u c8 H8 u0 u1 c8a c8b hb8 kp8 ke8 => ⟨rfl, _, rfl, ite2 (fun _ => ?_) (fun _ => ?_)⟩⟩
      · have kp08 := kp7.trans kp8
        have eL8 : H8 Lf = some (.lst (refs ls)) := by rw [ke8 _ nLb]; exact eL
        have eF8 : H8 Fo = some (.lst (refs fs)) := by rw [ke8 _ nFb]; exact eF
        have hT8 := kp08 _ _ (ho_ne hb B.hT fun xs e => nomatch e) B.hT
        have hN8 := kp08 _ _ (txt_ne hb B.hN) B.hN
        refine ⟨_, rfl, _, rfl, T, _, rfl, getN hT8, b, aN, t.nodes.map V.str, c8, rfl, hb8, .inl ⟨SqL.of hN8, txt_ne hb8 hN8⟩, (fun z => by
          rw [List.map_eq_nil_iff] at z
          have n1 := ok.n1
          rw [z] at n1
          simp at n1), by rw [List.length_map]; have := ok.n8; omega, by omega, by omega, fun v c9 H9 hv c9a c9b hb9 kp9 ke9 => ?_⟩
        obtain ⟨nd, hnd, rfl⟩ := of_str hv
        have eL9 : H9 Lf = some (.lst (refs ls)) := by rw [ke9 _ nLb]; exact eL8
        have eF9 : H9 Fo = some (.lst (refs fs)) := by rw [ke9 _ nFb]; exact eF8
        have kp09 := kp08.trans kp9
        have P9 : ∀ x ∈ ls, H9 x.1 = some (.tup [.str x.2.1, .str x.2.2]) := fun x hx => kp09 _ _ (ho_ne hb (B.eA x (lin x hx)) fun xs e => nomatch e) (B.eA x (lin x hx))
        refine ⟨_, rfl, _, rfl, Lf, rfl, ⟨_, SqL.of eL9⟩, fun R hR => lc_list (K := K) (a := Lf) (xs := refs ls) (fun i H4 => Same H9 H4 ∧ H4 R = some (.lst (refs (fromL (ls.take i) nd)))) ⟨same_upd hR, upd_same⟩ (fun i H4 _ ⟨s4, _⟩ => SqL.of (s4 _ _ eL9)) ?_ ?_⟩
        · rintro i v H4 hi ⟨s4, e4⟩
          obtain ⟨y, hy, rfl⟩ := at_refs hi
          have il : i < ls.length := (List.getElem?_eq_some_iff.mp hy).1
          have sm : (fromL (ls.take i) nd).length ≤ 1000 := Nat.le_trans (fromL_le _ _) (by rw [List.length_take]; omega)
          have hy1 := s4 _ _ (P9 y (List.mem_of_getElem? hy))
          refine ⟨rfl, _, rfl, y.1, _, 0, .str y.2.1, rfl, rfl, SqT.of hy1, rfl, _, rfl, rfl, _, rfl, ite2 (fun e => ?_) (fun e => ?_)⟩
          · have e1 : y.2.1 = nd := V.str.inj (of_decide_eq_true e)
            refine ⟨_, rfl, _, e4, by rw [show (refs (fromL (ls.take i) nd)).length = (fromL (ls.take i) nd).length from List.length_map _]; exact lt_line sm, same_put s4 hR, ?_⟩
            rw [upd_same, take_next hy, fromL_app, if_pos e1, refs_app]
            rfl
          · have e1 : ¬ y.2.1 = nd := fun z => e (decide_eq_true (by rw [z]))
            refine ⟨s4, ?_⟩
            rw [take_next hy, fromL_app, if_neg e1, List.append_nil]
            exact e4
        · rintro H4 ⟨s4, e4⟩
          rw [show (refs ls).length = ls.length from List.length_map _, List.take_length] at e4
          refine ⟨R, _, rfl, SqL.of e4, fun p2 hp2 => ?_⟩
          have s5 := same_put (o := .lst (refs (fromL ls nd)).reverse) s4 (s4.free hp2)
          have e5 : (upd H4 p2 (.lst (refs (fromL ls nd)).reverse)) p2 = some (.lst (refs (fromL ls nd)).reverse) := upd_same
          have fl := fromL_le ls nd
          have er : (refs (fromL ls nd)).reverse = refs (fromL ls nd).reverse := (List.map_reverse ..).symm
          refine ⟨Fo, p2, refs fs, _, rfl, rfl, s5 _ _ eF9, e5, ?_, fun p3 hp3 => ?_⟩
          · rw [er, show (refs fs).length = fs.length from List.length_map _, show (refs (fromL ls nd).reverse).length = (fromL ls nd).reverse.length from List.length_map _, List.length_reverse]
            exact Nat.le_of_lt (lt_line (by omega))
          · rw [er, ← refs_app]
            have s6 := same_put (o := .lst (refs (fs ++ (fromL ls nd).reverse))) s5 (s5.free hp3)
            rw [er] at s6 hp3
            refine ⟨_, rfl, q p3 (fs ++ (fromL ls nd).reverse) c9 _ ?_ (fun x hx => ?_) ?_ upd_same (by omega) (by omega) ?_ (kp09.trans (Kp.same s6))⟩
            · exact kp09.free hb9 (s5.free (by rw [er]; exact hp3))
            · rcases List.mem_append.mp hx with z | z
              · exact fin x z
              · exact lin x (List.mem_filter.mp (List.mem_reverse.mp z)).1
            · rw [List.length_append, List.length_reverse]
              omega
            · obtain ⟨x1, y1, e1, r1⟩ := hb9
              exact ⟨x1, y1, s6 _ _ e1, r1⟩
      · have kp08 := kp7.trans kp8
        have eF8 : H8 Fo = some (.lst (refs fs)) := by rw [ke8 _ nFb]; exact eF
        exact ⟨_, rfl, q Fo fs c8 H8 hFo0 fin (by omega) eF8 (by omega) (by omega) hb8 kp08⟩
end
end Mr

/-! ZD -/
set_option Elab.async false
set_option linter.all false
set_option maxRecDepth 100000
set_option maxHeartbeats 2000000
namespace MrS
open PySem PySem.Spec PyProof.Rows L2
/-! == and != of dicts whose values are plain data or such dicts, both answers -/
section
variable {prog : Program} {w : World} {Ky : Type} [DecidableEq Ky] {knd : KeyKind prog w Ky} {A : Around} {s : Shared}
theorem rcNe_dicts {a b : Addr} {ka kb : List (Ky × Value)} {r : Bool} (ha : (a == sysModules) = false) (hb : (b == sysModules) = false)
    (da : s.heap.DictOf knd a ka) (db : s.heap.DictOf knd b kb) (hu : A.units < cLine)
    (hits : ka.length = kb.length → PySem.W.KeqHitsP prog w A.in1 s kb ka r) (E Q : Value → Shared → Prop) (h : Q (.bool (!(ka.length == kb.length && r))) s) :
    wpAny (model prog w) A (richCompare .NotEq (.ref a) (.ref b)) Q E s := by
  refine wpAny_richCompare_same_room (op := .NotEq) da.typeIs db.typeIs PySem.F.slot_dict_ne
    (wpAny_call_entry PySem.F.slot_dict_ne da.typeIs PySem.F.entry_dict_ne ?_ (PySem.F.args_dict_ne_2 _ _)) hu
  show wpAny _ _ (Builtin.Dict.dictSlotArgs "__ne__" ⟨[.ref a, .ref b], []⟩ >>= _) _ _ s
  refine wpAny_bind ?_
  unfold Builtin.Dict.dictSlotArgs
  refine wpAny_bind (wpAny_notOrdered_dict da.typeIs ?_)
  show wpAny _ _ (pure (Value.ref a, Value.ref b)) _ _ s
  refine wpAny_pure ?_
  refine wpAny_bind ?_
  refine wpAny_isInstance (T := "dict") db.typeIs PySem.F.sub_dict_dict ?_
  simp only [Bool.not_true, Bool.false_eq_true, if_false]
  refine wpAny_bind ?_
  refine wpAny_pure (wpAny_bind (wpAny_pure ?_))
  refine wpAny_bind (PySem.W.samePairsP ha hb da db hits ?_)
  refine wpAny_pure ⟨_, rfl, fun x => (nomatch x), ?_⟩
  cases e : (ka.length == kb.length && r) with
  | true =>
    rw [e] at h
    exact h
  | false =>
    rw [e] at h
    exact h
end
/-- every key of ks stands in ls, the values compared one by one -/
inductive HitsW (F : V → V → Bool → Prop) (ls : List (Key × V)) : List (Key × V) → Bool → Prop
  | nil : HitsW F ls [] true
  | cons {p : Key × V} {r : List (Key × V)} {u : V} {e b : Bool} : valV ls p.1 = some u → F p.2 u e → HitsW F ls r b → HitsW F ls (p :: r) (e && b)
/-- x == y gives b, plain data -/
def EqW0 (K : PySem.W.Frag) (H : Hp) (x y : V) (b : Bool) : Prop := ∃ d e, Dp K H x d ∧ Dp K H y e ∧ d.plain = true ∧ e.plain = true ∧ d.depth ≤ 20 ∧ b = PyData.eqv d e
/-- .. of dicts nested below n -/
def EqW (K : PySem.W.Frag) (H : Hp) : Nat → V → V → Bool → Prop
  | 0 => fun x y b => EqW0 K H x y b
  | n + 1 => fun x y b => EqW0 K H x y b ∨ (∃ a, x = .ref a ∧ y = .ref a ∧ b = true) ∨
      ∃ a c ks ls, x = .ref a ∧ y = .ref c ∧ a ≠ c ∧ H a = some (.dK ks) ∧ H c = some (.dK ls) ∧ ks.length = ls.length ∧ HitsW (EqW K H n) ls ks b
theorem hitsW_run {P : Program} {w : World} {A : Around} {s : Shared} {F : V → V → Bool → Prop} (ih : ∀ x y b v u, F x y b → RelV x v → RelV y u → SeqAt.EqP P w A s v u b) {ls : List (Key × V)} {vb : List (Key × Value)} (rb : KV ls vb) {ks : List (Key × V)} {b : Bool}
    (h : HitsW F ls ks b) : ∀ {va : List (Key × Value)}, KV ks va → PySem.W.KeqHitsP P w A s vb va b := by
  induction h with
  | nil =>
    intro va ra
    unfold KV at ra
    cases ra
    exact .nil
  | @cons p r u e b hv hF _ k =>
    intro va ra
    unfold KV at ra
    cases ra with
    | @cons _ q _ qs h1 t =>
      obtain ⟨h1, h2⟩ := h1
      have rr : RelO (some u) (valueAt vb p.1) := by
        rw [← hv]
        exact rb.val p.1
      obtain ⟨y, hy, ry⟩ := rr.some_of
      obtain ⟨key, v⟩ := q
      have h1' : p.1 = key := h1
      rw [h1'] at hy
      exact .hit hy (ih _ _ _ _ _ hF h2 ry) (k t)
section
variable {X : Cx} {pins : List (Addr × Obj)} {σ : L2.St} {H : Hp} {s : Shared}
theorem eqW0_run (I : Inv X pins σ H s) (A : Around) (hu : A.units + 40 < cLine) {x y : V} {v u : Value} {b : Bool} (h : EqW0 X.K H x y b) (rx : RelV x v) (ry : RelV y u) : SeqAt.EqP X.prog X.w A s v u b := by
  obtain ⟨d, e, hd, he, p1, p2, dp, rfl⟩ := h
  obtain ⟨as, r1⟩ := Dp.reads I d x v hd rx
  obtain ⟨bs, r2⟩ := Dp.reads I e y u he ry
  exact (SeqAt.eqAt_plain d e A s v u as bs r1 r2 p1 p2 (by omega)).eqP
theorem dictW_run (I : Inv X pins σ H s) {A : Around} {F : V → V → Bool → Prop} (hu : A.units < cLine) (ih : ∀ x y b v u, F x y b → RelV x v → RelV y u → SeqAt.EqP X.prog X.w A.in1 s v u b) {a c : Addr} {ks ls : List (Key × V)} {b : Bool}
    (ha : H a = some (.dK ks)) (hc : H c = some (.dK ls)) (hl : ks.length = ls.length) (hh : HitsW F ls ks b) (E Q : Value → Shared → Prop) :
    (Q (.bool b) s → wpAny (model X.prog X.w) A (richCompare .Eq (.ref a) (.ref c)) Q E s) ∧ (Q (.bool !b) s → wpAny (model X.prog X.w) A (richCompare .NotEq (.ref a) (.ref c)) Q E s) := by
  have x1 : ObjOk X.prog X.w H s.heap a (.dK ks) := I.hok a _ ha
  have x2 : ObjOk X.prog X.w H s.heap c (.dK ls) := I.hok c _ hc
  obtain ⟨_, ya, va, ra, da⟩ := x1
  obtain ⟨_, yb, vb, rb, db⟩ := x2
  have e : va.length = vb.length := by rw [← ra.length, ← rb.length]; exact hl
  have z : (va.length == vb.length && b) = b := by rw [e]; simp
  refine ⟨fun q => PySem.W.rcP_dicts (knd := mixKind X.prog X.w) (r := b) ya yb da db hu (fun _ => hitsW_run ih rb hh ra) E Q ?_, fun q => rcNe_dicts (knd := mixKind X.prog X.w) (r := b) ya yb da db hu (fun _ => hitsW_run ih rb hh ra) E Q ?_⟩
  · rw [z]; exact q
  · rw [z]; exact q
theorem eqW_run (I : Inv X pins σ H s) : ∀ (n : Nat) (A : Around), A.units + n + 40 < cLine → ∀ (x y : V) (b : Bool) (v u : Value), EqW X.K H n x y b → RelV x v → RelV y u → SeqAt.EqP X.prog X.w A s v u b
  | 0, A, hu, x, y, b, v, u, h, rx, ry => eqW0_run I A (by omega) h rx ry
  | n + 1, A, hu, x, y, b, v, u, h, rx, ry => by
    rcases h with h | ⟨a, rfl, rfl, rfl⟩ | ⟨a, c, ks, ls, rfl, rfl, ne, ha, hc, hl, hh⟩
    · exact eqW0_run I A (by omega) h rx ry
    · cases (show v = Value.ref a from rx)
      cases (show u = Value.ref a from ry)
      exact (SeqAt.EqAt.same _).eqP
    · cases (show v = Value.ref a from rx)
      cases (show u = Value.ref c from ry)
      exact SeqAt.eqP_refs ne fun E Q q => (dictW_run I (A := A) (by omega) (eqW_run I n A.in1 (by show A.units + 1 + n + 40 < cLine; omega)) ha hc hl hh E Q).1 q
/-- a == c, a != c: two dicts -/
def rEqDd (K : PySem.W.Frag) (neg : Bool) : R2 := fun x y H Q => ∃ a c ks ls b, x = .ref a ∧ y = .ref c ∧ H a = some (.dK ks) ∧ H c = some (.dK ls) ∧ ks.length = ls.length ∧ HitsW (EqW K H 2) ls ks b ∧ Q (.bl (if neg = true then !b else b)) H
theorem op_eqDd (hu : X.A.units + 64 < cLine) : OpR X (compareOp .Eq) (rEqDd X.K false) := by
  intro pins s σ H x y v u Q I rx ry h
  obtain ⟨a, c, ks, ls, b, rfl, rfl, ha, hc, hl, hh, q⟩ := h
  cases rx
  cases ry
  exact (dictW_run I (A := X.A) (by omega) (eqW_run I 2 X.A.in1 (by show X.A.units + 1 + 2 + 40 < cLine; omega)) ha hc hl hh X.xe _).1 ⟨.bl b, H, I, rfl, q⟩
theorem op_neDd (hu : X.A.units + 64 < cLine) : OpR X (compareOp .NotEq) (rEqDd X.K true) := by
  intro pins s σ H x y v u Q I rx ry h
  obtain ⟨a, c, ks, ls, b, rfl, rfl, ha, hc, hl, hh, q⟩ := h
  cases rx
  cases ry
  exact (dictW_run I (A := X.A) (by omega) (eqW_run I 2 X.A.in1 (by show X.A.units + 1 + 2 + 40 < cLine; omega)) ha hc hl hh X.xe _).2 ⟨.bl !b, H, I, rfl, q⟩
end
end MrS

/-! AC -/
set_option Elab.async false
set_option linter.all false
set_option maxRecDepth 100000
set_option maxHeartbeats 2000000
namespace Mr
open PySem PySem.Spec PyProof.Rows L2 TL MrS RZ PySem.W
abbrev Tg := List (Str × Addr × List Str)
abbrev tgD (ts : Tg) : List (Str × List Str) := ts.map fun x => (x.1, x.2.2)
def qq : Str := Str.ofString "qq"
theorem qq_is : isNm qq := by
  have e : tl qq = [113, 113] := by decide +kernel
  unfold isNm
  rw [e]
  refine ⟨by decide, by decide, fun c hc => ?_⟩
  rcases List.mem_cons.mp hc with z | z
  · rw [z]; unfold Low; omega
  · rw [List.mem_singleton.mp z]; unfold Low; omega
/-! a law's table changed at one place -/
theorem tok_arcs {t : TD} (ok : TOk t) {l : List (Str × Str)} (sub : l.Sublist t.arcs) (out : ∀ x ∈ t.nodes, ∃ p ∈ l, p.1 = x) : TOk { t with arcs := l } where
  n1 := ok.n1
  n8 := ok.n8
  nn := ok.nn
  nu := ok.nu
  a24 := Nat.le_trans sub.length_le ok.a24
  ain := fun p hp => ok.ain p (sub.subset hp)
  aout := out
  au := ok.au.sub sub
  f1 := ok.f1
  fin := ok.fin
  fu := ok.fu
  ts := ok.ts
  tm := ok.tm
theorem tok_firsts {t : TD} (ok : TOk t) {x : Str} (hx : x ∈ t.nodes) : TOk { t with firsts := [x] } where
  n1 := ok.n1
  n8 := ok.n8
  nn := ok.nn
  nu := ok.nu
  a24 := ok.a24
  ain := ok.ain
  aout := ok.aout
  au := ok.au
  f1 := List.cons_ne_nil _ _
  fin := fun y hy => by rw [List.mem_singleton.mp hy]; exact hx
  fu := List.pairwise_singleton _ _
  ts := ok.ts
  tm := ok.tm
def setTag (ts : Tg) (nd : Str) (v : Addr) (mk : List Str) : Tg := ts.map fun p => if p.1 = nd then (nd, v, mk) else p
theorem setTag_names (ts : Tg) (nd : Str) (v : Addr) (mk : List Str) : (setTag ts nd v mk).map (·.1) = ts.map (·.1) := by
  unfold setTag
  rw [List.map_map]
  refine List.map_congr_left fun p _ => ?_
  show (if p.1 = nd then (nd, v, mk) else p).1 = p.1
  by_cases h : p.1 = nd
  · rw [if_pos h]; exact h.symm
  · rw [if_neg h]
theorem setTag_mem {ts : Tg} {nd : Str} {v : Addr} {mk : List Str} {x : Str × Addr × List Str} (h : x ∈ setTag ts nd v mk) : x = (nd, v, mk) ∨ x ∈ ts := by
  obtain ⟨p, hp, e⟩ := List.mem_map.mp h
  by_cases z : p.1 = nd
  · rw [if_pos z] at e; exact .inl e.symm
  · rw [if_neg z] at e; exact .inr (e ▸ hp)
theorem setTag_put {ts : Tg} {nd : Str} {v : Addr} {mk : List Str} (h : nd ∈ ts.map (·.1)) : mergeK (ts.map tagE) [(.inr nd, .ref v)] = (setTag ts nd v mk).map tagE := by
  show putK (ts.map tagE) (.inr nd) (.ref v) = _
  unfold putK setTag
  rw [if_pos ?_]
  · rw [List.map_map, List.map_map]
    refine List.map_congr_left fun p _ => ?_
    show (if (tagE p).1 = Sum.inr nd then _ else tagE p) = tagE (if p.1 = nd then (nd, v, mk) else p)
    by_cases z : p.1 = nd
    · rw [if_pos z, if_pos (show (tagE p).1 = Sum.inr nd from congrArg Sum.inr z)]
      first
        | rfl
        | (unfold tagE; rw [z])
    · rw [if_neg z, if_neg (show ¬ (tagE p).1 = Sum.inr nd from fun e => z (Sum.inr.inj e))]
  · obtain ⟨p, hp, e⟩ := List.mem_map.mp h
    exact List.any_eq_true.mpr ⟨tagE p, List.mem_map.mpr ⟨p, hp, rfl⟩, decide_eq_true (congrArg Sum.inr e)⟩
theorem tok_tags {t : TD} {ts : Tg} (ok : TOk t) (e : tgD ts = t.tags) {nd : Str} {v : Addr} {mk : List Str} (um : Up sd mk) (lm : mk.length ≤ 4) (im : ∀ x ∈ mk, isNm x) : TOk { t with tags := tgD (setTag ts nd v mk) } where
  n1 := ok.n1
  n8 := ok.n8
  nn := ok.nn
  nu := ok.nu
  a24 := ok.a24
  ain := ok.ain
  aout := ok.aout
  au := ok.au
  f1 := ok.f1
  fin := ok.fin
  fu := ok.fu
  ts := by
    show (tgD (setTag ts nd v mk)).map (·.1) = t.nodes
    have z := setTag_names ts nd v mk
    have z2 : (tgD (setTag ts nd v mk)).map (·.1) = (setTag ts nd v mk).map (·.1) := by rw [List.map_map]; rfl
    rw [z2, z, ← ok.ts, ← e, List.map_map]
    rfl
  tm := fun p hp => by
    obtain ⟨x, hx, ex⟩ := List.mem_map.mp hp
    rcases setTag_mem hx with z | z
    · rw [← ex, z]
      exact ⟨um, lm, im⟩
    · refine ok.tm p ?_
      rw [← e, ← ex]
      exact List.mem_map.mpr ⟨x, z, rfl⟩
/-! what is shown tells the tags, the names alike -/
theorem shown_names {ts : Tg} {x : Str × Addr × List Str} (h : x ∈ shown ts) : x.1 ∈ ts.map (·.1) ∧ x.2.2 ≠ [] := by
  obtain ⟨h1, h2⟩ := List.mem_filter.mp h
  refine ⟨List.mem_map.mpr ⟨x, h1, rfl⟩, fun z => ?_⟩
  rw [z] at h2
  cases h2
theorem shown_inj : ∀ {ts us : Tg}, ts.map (·.1) = us.map (·.1) → (ts.map (·.1)).Nodup → tgD (shown ts) = tgD (shown us) → tgD ts = tgD us
  | [], [], _, _, _ => rfl
  | [], _ :: _, h, _, _ => by cases h
  | _ :: _, [], h, _, _ => by cases h
  | x :: ts, y :: us, h, nd, e => by
    rw [List.map_cons, List.map_cons] at h
    obtain ⟨h1, h2⟩ := List.cons.inj h
    rw [List.map_cons, List.nodup_cons] at nd
    have sx : ∀ (z : Str × Addr × List Str) (l : Tg), shown (z :: l) = if z.2.2.isEmpty = true then shown l else z :: shown l := fun z l => by
      unfold shown
      cases hz : z.2.2.isEmpty with
      | true => simp [hz]
      | false => simp [hz]
    rw [sx, sx] at e
    have emp : ∀ {l : List Str}, l.isEmpty = true → l = [] := fun {l} q => List.isEmpty_iff.mp q
    by_cases hx : x.2.2.isEmpty = true
    · by_cases hy : y.2.2.isEmpty = true
      · rw [if_pos hx, if_pos hy] at e
        have ih := shown_inj h2 nd.2 e
        show (x.1, x.2.2) :: tgD ts = (y.1, y.2.2) :: tgD us
        rw [ih, h1, emp hx, emp hy]
      · rw [if_pos hx, if_neg hy] at e
        exfalso
        have z : (y.1, y.2.2) ∈ tgD (shown ts) := by rw [e]; exact List.mem_cons_self
        obtain ⟨p, hp, ep⟩ := List.mem_map.mp z
        have z1 := (shown_names hp).1
        rw [show p.1 = y.1 from (Prod.mk.inj ep).1, ← h1] at z1
        exact nd.1 z1
    · by_cases hy : y.2.2.isEmpty = true
      · rw [if_neg hx, if_pos hy] at e
        exfalso
        have z : (x.1, x.2.2) ∈ tgD (shown us) := by rw [← e]; exact List.mem_cons_self
        obtain ⟨p, hp, ep⟩ := List.mem_map.mp z
        have z1 := (shown_names hp).1
        rw [show p.1 = x.1 from (Prod.mk.inj ep).1, ← h2] at z1
        exact nd.1 z1
      · rw [if_neg hx, if_neg hy] at e
        obtain ⟨e1, e2⟩ := List.cons.inj (show (x.1, x.2.2) :: tgD (shown ts) = (y.1, y.2.2) :: tgD (shown us) from e)
        have ih := shown_inj h2 nd.2 e2
        show (x.1, x.2.2) :: tgD ts = (y.1, y.2.2) :: tgD us
        rw [ih, e1]
theorem shown_dec {ts us : Tg} (h : ts.map (·.1) = us.map (·.1)) (nd : (ts.map (·.1)).Nodup) : decide (tgD (shown ts) = tgD (shown us)) = decide (tgD ts = tgD us) := by
  by_cases z : tgD ts = tgD us
  · rw [decide_eq_true z]
    refine decide_eq_true ?_
    have f : ∀ l : Tg, tgD (shown l) = (tgD l).filter fun p => !p.2.isEmpty := fun l => by
      unfold shown tgD
      rw [List.filter_map]
      rfl
    rw [f, f, z]
  · rw [decide_eq_false z]
    exact decide_eq_false fun q => z (shown_inj h nd q)
theorem swD_shown {sw : Sw} {ts : Tg} (e : sw.map (·.2) = shown ts) : swD sw = tgD (shown ts) := by
  rw [← e]
  unfold tgD swD
  rw [List.map_map]
  rfl
end Mr

/-! AD -/
set_option Elab.async false
set_option linter.all false
set_option maxRecDepth 100000
set_option maxHeartbeats 2000000
namespace Mr
open PySem PySem.Spec PyProof.Rows L2 TL MrS RZ PySem.W
theorem strs_inj : ∀ {l m : List Str}, l.map V.str = m.map V.str → l = m
  | [], [], _ => rfl
  | [], _ :: _, h => by cases h
  | _ :: _, [], h => by cases h
  | x :: l, y :: m, h => by
    obtain ⟨h1, h2⟩ := List.cons.inj (show V.str x :: l.map V.str = V.str y :: m.map V.str from h)
    rw [V.str.inj h1, strs_inj h2]
theorem same_tags : ∀ {ts us : Tg}, ts.map (·.1) = us.map (·.1) → (ts.map (·.1)).Nodup → ((∀ x ∈ ts, ∃ y ∈ us, y.1 = x.1 ∧ y.2.2 = x.2.2) ↔ tgD ts = tgD us)
  | [], [], _, _ => ⟨fun _ => rfl, fun _ x hx => by cases hx⟩
  | [], _ :: _, h, _ => by cases h
  | _ :: _, [], h, _ => by cases h
  | x :: ts, y :: us, h, nd => by
    obtain ⟨h1, h2⟩ := List.cons.inj (show x.1 :: ts.map (·.1) = y.1 :: us.map (·.1) from h)
    rw [List.map_cons, List.nodup_cons] at nd
    have ih := same_tags h2 nd.2
    show _ ↔ (x.1, x.2.2) :: tgD ts = (y.1, y.2.2) :: tgD us
    constructor
    · intro al
      obtain ⟨z, hz, e1, e2⟩ := al x List.mem_cons_self
      have zy : z = y := by
        rcases List.mem_cons.mp hz with q | q
        · exact q
        · exfalso
          refine nd.1 ?_
          rw [h2, ← e1]
          exact List.mem_map.mpr ⟨z, q, rfl⟩
      rw [zy] at e2
      have tl : tgD ts = tgD us := ih.mp fun v hv => by
        obtain ⟨u, hu, f1, f2⟩ := al v (List.mem_cons_of_mem _ hv)
        rcases List.mem_cons.mp hu with q | q
        · exfalso
          refine nd.1 ?_
          rw [h1, ← q, f1]
          exact List.mem_map.mpr ⟨v, hv, rfl⟩
        · exact ⟨u, q, f1, f2⟩
      rw [tl, h1, e2]
    · intro e v hv
      obtain ⟨e1, e2⟩ := List.cons.inj e
      rcases List.mem_cons.mp hv with q | q
      · exact ⟨y, List.mem_cons_self, by rw [q]; exact h1.symm, by rw [q]; exact (Prod.mk.inj e1).2.symm⟩
      · obtain ⟨u, hu, f⟩ := ih.mpr e2 v q
        exact ⟨u, List.mem_cons_of_mem _ hu, f⟩
section
variable {K : PySem.W.Frag} {H : Hp}
theorem ew_tup {a c : Addr} {l m : List Str} (h1 : H a = some (.tup (l.map V.str))) (h2 : H c = some (.tup (m.map V.str))) : EqW0 K H (.ref a) (.ref c) (decide (l = m)) :=
  ⟨_, _, dp_tstr h1, dp_tstr h2, tsd_plain _, tsd_plain _, tsd_depth _, (eqv_tup sd_eqv l m).symm⟩
theorem eqv_lst {α : Type} [DecidableEq α] {enc : α → PyData} (h : ∀ x y, PyData.eqv (enc x) (enc y) = decide (x = y)) (l m : List α) : PyData.eqv (.list (l.map enc)) (.list (m.map enc)) = decide (l = m) := by
  rw [PyData.eqv]
  exact eqv_map h l m
theorem ew_lst {a c : Addr} {l m : List Str} (h1 : H a = some (.lst (l.map V.str))) (h2 : H c = some (.lst (m.map V.str))) : EqW0 K H (.ref a) (.ref c) (decide (l = m)) :=
  ⟨_, _, .lst (SqL.of h1) (dpa_strs l), .lst (SqL.of h2) (dpa_strs m), by rw [PyData.plain]; exact sds_plain _, by rw [PyData.plain]; exact sds_plain _, by rw [PyData.depth, sds_depth]; decide, (eqv_lst sd_eqv l m).symm⟩
theorem ew_arcs {a c : Addr} {l m : Arcs} (h1 : H a = some (.lst (refs l))) (p1 : PairsAt H l) (h2 : H c = some (.lst (refs m))) (p2 : PairsAt H m) : EqW0 K H (.ref a) (.ref c) (decide (l.map (·.2) = m.map (·.2))) :=
  ⟨_, _, .lst (SqL.of h1) (dpa_pairs p1), .lst (SqL.of h2) (dpa_pairs p2), by rw [PyData.plain]; exact pds_plain _, by rw [PyData.plain]; exact pds_plain _, by have := pds_depth (l.map (·.2)); rw [PyData.depth]; omega, (eqv_lst pd_eqv _ _).symm⟩
theorem hits_tags {ts : Tg} (nd : (ts.map (·.1)).Nodup) (e1 : ∀ x ∈ ts, H x.2.1 = some (.tup (x.2.2.map V.str))) : ∀ {us : Tg}, (∀ x ∈ us, x.1 ∈ ts.map (·.1)) → (∀ x ∈ us, H x.2.1 = some (.tup (x.2.2.map V.str))) →
    ∃ b, HitsW (EqW K H 1) (ts.map tagE) (us.map tagE) b ∧ (b = true ↔ ∀ x ∈ us, ∃ y ∈ ts, y.1 = x.1 ∧ y.2.2 = x.2.2)
  | [], _, _ => ⟨true, .nil, fun _ x hx => (by cases hx), fun _ => rfl⟩
  | x :: us, hn, e2 => by
    obtain ⟨b, hb, ib⟩ := hits_tags nd e1 (us := us) (fun y hy => hn y (List.mem_cons_of_mem _ hy)) fun y hy => e2 y (List.mem_cons_of_mem _ hy)
    obtain ⟨y, hy, ey⟩ := List.mem_map.mp (hn x List.mem_cons_self)
    have vy : valV (ts.map tagE) (tagE x).1 = some (.ref y.2.1) := by
      show valV (ts.map tagE) (.inr x.1) = _
      rw [← ey]
      exact val_tag nd hy
    refine ⟨decide (x.2.2 = y.2.2) && b, .cons (p := tagE x) vy (.inl (ew_tup (e2 x List.mem_cons_self) (e1 y hy))) hb, ?_⟩
    rw [Bool.and_eq_true, decide_eq_true_eq, ib]
    constructor
    · rintro ⟨q1, q2⟩ z hz
      rcases List.mem_cons.mp hz with w1 | w1
      · exact ⟨y, hy, by rw [w1]; exact ey, by rw [w1]; exact q1.symm⟩
      · exact q2 z w1
    · intro al
      refine ⟨?_, fun z hz => al z (List.mem_cons_of_mem _ hz)⟩
      obtain ⟨u, hu, f1, f2⟩ := al x List.mem_cons_self
      have uy : valV (ts.map tagE) (.inr u.1) = some (.ref u.2.1) := val_tag nd hu
      have same : u.2.2 = y.2.2 := by
        have q : valV (ts.map tagE) (.inr u.1) = some (.ref y.2.1) := by rw [f1]; exact vy
        rw [uy] at q
        have ea : u.2.1 = y.2.1 := V.ref.inj (Option.some.inj q)
        have h1 := e1 u hu
        rw [ea, e1 y hy] at h1
        have h2 := HO.tup.inj (Option.some.inj h1)
        exact (strs_inj h2).symm
      rw [← f2, same]
def dictB (u t : TD) : Bool := decide (u.nodes = t.nodes) && (decide (u.arcs = t.arcs) && (decide (u.firsts = t.firsts) && (decide (u.tags = t.tags) && true)))
theorem hits_tab {T O : Addr} {t u : TD} {aN aA aF aG bN bA bF bG : Addr} {as bs : Arcs} {ts us : Tg} (B : TabAt H T t aN aA aF aG as ts) (D : TabAt H O u bN bA bF bG bs us) (ok : TOk t) (en : us.map (·.1) = ts.map (·.1)) (hg : bG = aG → us = ts) :
    HitsW (EqW K H 2) (tabD aN aA aF aG) (tabD bN bA bF bG) (dictB u t) := by
  have nmT : ts.map (·.1) = t.nodes := by
    rw [← ok.ts, ← B.mG, List.map_map]
    rfl
  have nd : (ts.map (·.1)).Nodup := by rw [nmT]; exact ok.nu.nodup
  refine .cons (p := (kN, .ref bN)) tabN (.inl (ew_lst D.hN B.hN)) ?_
  refine .cons (p := (kA, .ref bA)) tabA (.inl ?_) ?_
  · have z := ew_arcs (K := K) D.hA D.eA B.hA B.eA
    rw [D.mA, B.mA] at z
    exact z
  refine .cons (p := (kF, .ref bF)) tabF (.inl (ew_lst D.hF B.hF)) ?_
  have last : EqW K H 2 (.ref bG) (.ref aG) (decide (u.tags = t.tags)) := by
    by_cases e : bG = aG
    · refine .inr (.inl ⟨aG, by rw [e], rfl, ?_⟩)
      have z := hg e
      have q : u.tags = t.tags := by rw [← D.mG, ← B.mG, z]
      exact decide_eq_true q
    · obtain ⟨b, hb, ib⟩ := hits_tags (K := K) nd B.eG (us := us) (fun x hx => by rw [← en]; exact List.mem_map.mpr ⟨x, hx, rfl⟩) D.eG
      have z := same_tags en (by rw [en]; exact nd)
      have eb : b = decide (u.tags = t.tags) := by
        have q : (tgD us = tgD ts) = (u.tags = t.tags) := by
          show (us.map (fun x => (x.1, x.2.2)) = ts.map (fun x => (x.1, x.2.2))) = _
          rw [D.mG, B.mG]
        by_cases w1 : u.tags = t.tags
        · rw [decide_eq_true w1]
          exact ib.mpr (z.mpr (q ▸ w1))
        · rw [decide_eq_false w1]
          exact Bool.eq_false_iff.mpr fun w2 => w1 (q ▸ z.mp (ib.mp w2))
      rw [← eb]
      refine .inr (.inr ⟨bG, aG, _, _, rfl, rfl, e, D.hG, B.hG, ?_, hb⟩)
      have l1 := congrArg List.length en
      rw [List.length_map, List.length_map] at l1
      rw [List.length_map, List.length_map]
      exact l1
  exact .cons (p := (kG, .ref bG)) tabG last .nil
/-- two tables are as alike as the dicts that they are made of -/
theorem alike_tabs {t u : TD} {as bs : Arcs} {ts us : Tg} {sw sv : Sw} (ok : TOk t) (mA : as.map (·.2) = t.arcs) (mB : bs.map (·.2) = u.arcs) (mG : tgD ts = t.tags) (nG : tgD us = u.tags) (en : us.map (·.1) = ts.map (·.1))
    (e1 : sw.map (·.2) = shown ts) (e2 : sv.map (·.2) = shown us) : tabEq u.nodes bs u.firsts sv t.nodes as t.firsts sw = dictB u t := by
  have nmT : ts.map (·.1) = t.nodes := by
    rw [← ok.ts, ← mG, List.map_map]
    rfl
  unfold tabEq dictB
  rw [mA, mB, swD_shown e1, swD_shown e2, shown_dec en (by rw [en, nmT]; exact ok.nu.nodup), mG, nG, Bool.and_true]
theorem tabEq_symm (n1 : List Str) (a1 : Arcs) (f1 : List Str) (w1 : Sw) (n2 : List Str) (a2 : Arcs) (f2 : List Str) (w2 : Sw) : tabEq n1 a1 f1 w1 n2 a2 f2 w2 = tabEq n2 a2 f2 w2 n1 a1 f1 w1 := by
  unfold tabEq
  have sy : ∀ {α : Type} [DecidableEq α] (x y : α), decide (x = y) = decide (y = x) := fun x y => by
    by_cases h : x = y
    · simp [h]
    · simp [h, Ne.symm h]
  rw [sy n1, sy (a1.map (·.2)), sy f1, sy (swD w1)]
end
end Mr

/-! AE -/
set_option Elab.async false
set_option linter.all false
set_option maxRecDepth 100000
set_option maxHeartbeats 2000000
namespace Mr
open PySem PySem.Spec PyProof.Rows L2 TL MrS RZ PySem.W
abbrev sAlike : Stmt := topS 37
abbrev nAlike : List Str := ["_law_box_here", "_law_t", "_law_table_here", "_law_names_here", "_law_word", "_law_other", "_law_gone", "_law_arcs", "_law_made_here", "_law_arc", "_law_node", "_law_some"]
theorem scAlike : FnScope nAlike ["_law_box_here", "_law_t"] (defScope sAlike) := ⟨rfl, rfl, rfl, by decide +kernel, rfl, by decide +kernel, by decide +kernel⟩
/-- the class's own ==, len, repr as they stand -/
structure Own (K : PySem.W.Frag) (mg : Str → Option Value) (C fE fL fR : Addr) (dE dL dR : FuncData) : Prop where
  FE : Fun K "__eq__" "Table.__eq__" sEq fE dE
  bE : Binds K dE ["self", "other"] []
  sE : findIn K (.ref C) "__eq__" = some (some (.ref fE))
  iE : isFn K (.ref fE) = true
  FL : Fun K "__len__" "Table.__len__" sLen fL dL
  bL : Binds K dL ["self"] []
  sL : findIn K (.ref C) "__len__" = some (some (.ref fL))
  iL : isFn K (.ref fL) = true
  FR : Fun K "__repr__" "Table.__repr__" sRepr fR dR
  bR : Binds K dR ["self"] []
  sR : findIn K (.ref C) "__repr__" = some (some (.ref fR))
  iR : isFn K (.ref fR) = true
  nE : findIn K (.ref C) "__ne__" = some (some (.builtin "object.__ne__"))
  nB : findIn K (.ref C) "__bool__" = some none
  mO : mroIn K C (.type "object") = some true
  ca : findIn K (.ref C) "__class__" = some (some (.builtin "object.__class__"))
  cn : specialIn K (.builtin "object.__class__") "__get__" = some (some (.builtin "getset_descriptor.__get__"))
  ct : takesIn K (.builtin "object.__class__") = some true
  f1 : notFirst K C (.type "NoneType") = true
  f2 : notFirst K C (.type "tuple") = true
  f3 : notFirst K C (.type "list") = true
  f4 : notFirst K C (.type "str") = true
  f5 : notFirst K C (.type "int") = true
  k1 : kitOne K (.type "NoneType") (.ref C) = some false
  k2 : kitOne K (.type "tuple") (.ref C) = some false
  k3 : kitOne K (.type "list") (.ref C) = some false
  k4 : kitOne K (.type "str") (.ref C) = some false
  k5 : kitOne K (.type "int") (.ref C) = some false
section
variable {X : Cx}
theorem op_eqOK {CX : CXT} {n : Nat} {C f : Addr} {fd : FuncData} {ps : List Str} {sp : Sp} {E : XK} (K : PySem.W.Frag) (F : FnOk X.prog X.w X.K X.mg X.base CX n f fd ps sp) (hs : findIn X.K (.ref C) "__eq__" = some (some (.ref f))) (hf : isFn X.K (.ref f) = true)
    (hb : Binds X.K fd ps []) (hx : Passes CX X E) (hr : Room n X.A) (h : X.K = K := by rfl) : OpR X (compareOp .Eq) (rEqO K C sp E false) := by
  subst h
  exact op_eqO F hs hf hb hx hr
theorem pi_listK {tg e : Expr} {te : TE} (K : PySem.W.Frag) (he : PE X e te) (h : X.K = K := by rfl) : PI X tg e (iList K te) := by
  subst h
  exact pi_list he
end
theorem TabAt.keep {H H' : Hp} {b T aN aA aF aG : Addr} {t : TD} {as : Arcs} {ts : Tg} {c : Int} (B : TabAt H T t aN aA aF aG as ts) (hb : Bx H b c) (k : Kp b H H') : TabAt H' T t aN aA aF aG as ts where
  hT := k _ _ (ho_ne hb B.hT fun xs e => nomatch e) B.hT
  hN := k _ _ (txt_ne hb B.hN) B.hN
  hA := k _ _ (refs_ne hb B.hA) B.hA
  eA := fun x hx => k _ _ (ho_ne hb (B.eA x hx) fun xs e => nomatch e) (B.eA x hx)
  mA := B.mA
  hF := k _ _ (txt_ne hb B.hF) B.hF
  hG := k _ _ (ho_ne hb B.hG fun xs e => nomatch e) B.hG
  eG := fun x hx => k _ _ (ho_ne hb (B.eG x hx) fun xs e => nomatch e) (B.eG x hx)
  mG := B.mG
theorem TabAt.same {H H' : Hp} {T aN aA aF aG : Addr} {t : TD} {as : Arcs} {ts : Tg} (B : TabAt H T t aN aA aF aG as ts) (k : Same H H') : TabAt H' T t aN aA aF aG as ts where
  hT := k _ _ B.hT
  hN := k _ _ B.hN
  hA := k _ _ B.hA
  eA := fun x hx => k _ _ (B.eA x hx)
  mA := B.mA
  hF := k _ _ B.hF
  hG := k _ _ B.hG
  eG := fun x hx => k _ _ (B.eG x hx)
  mG := B.mG
theorem ObAt.keep {C : Addr} {H H' : Hp} {b p aS aM aB aW : Addr} {nodes : List Str} {as : Arcs} {firsts : List Str} {sw : Sw} {c : Int} (o : ObAt C H p aS aM aB aW nodes as firsts sw) (hb : Bx H b c) (k : Kp b H H') : ObAt C H' p aS aM aB aW nodes as firsts sw := by
  have ne : ∀ {a : Addr} {u : HO}, H a = some u → (∀ xs, u ≠ .lst xs) → H' a = some u := fun {a u} e n => k _ _ (ho_ne hb e n) e
  refine ⟨o.ob.imp fun dx e => ne e (fun xs z => nomatch z), ?_⟩
  have D := o.pt
  exact ⟨ne D.hS (fun xs z => nomatch z), ne D.hM (fun xs z => nomatch z), fun x hx => ne (D.hP x hx) (fun xs z => nomatch z), ne D.hB (fun xs z => nomatch z), ne D.hW (fun xs z => nomatch z),
    fun x hx => ⟨ne (D.hH x hx).1 (fun xs z => nomatch z), ne (D.hH x hx).2 (fun xs z => nomatch z)⟩⟩
theorem putG {aN aA aF aG z : Addr} : putK (tabD aN aA aF aG) kG (.ref z) = tabD aN aA aF z := by
  unfold putK tabD
  simp [kNG, kAG, kFG]
theorem tabTxt_eq {n : Nat} (h : n ≤ 8) : Str.ofString "Table(" ++ (toString (n : Int) : Str) ++ Str.ofString ")" = tabTxt n := by
  have e : ∀ i : Fin 9, Str.ofString "Table(" ++ (toString (i.val : Int) : Str) ++ Str.ofString ")" = tabTxt i.val := by decide +kernel
  exact e ⟨n, by omega⟩
theorem tabTxt_l1 {n : Nat} (h : n ≤ 8) : (Str.ofString "Table(").length + (toString (n : Int) : Str).length ≤ sizeLine := by
  have e : ∀ i : Fin 9, (Str.ofString "Table(").length + (toString (i.val : Int) : Str).length ≤ 20 := by decide +kernel
  exact Nat.le_trans (e ⟨n, by omega⟩) (by decide)
theorem tabTxt_l2 {n : Nat} (h : n ≤ 8) : (Str.ofString "Table(" ++ (toString (n : Int) : Str)).length + (Str.ofString ")").length ≤ sizeLine := by
  have e : ∀ i : Fin 9, (Str.ofString "Table(" ++ (toString (i.val : Int) : Str)).length + (Str.ofString ")").length ≤ 20 := by decide +kernel
  exact Nat.le_trans (e ⟨n, by omega⟩) (by decide)
theorem small_log {n : Nat} (h : n ≤ 1000) : ((n : Int)).natAbs.log2 < 1920 := by
  refine Nat.lt_of_le_of_lt (Nat.log2_le_self _) ?_
  show ((n : Int)).natAbs < 1920
  omega
section
variable {X : Cx} {st : Stmt} {t : TS}
/-- a statement's reading cut off behind it -/
theorem ps_cut (h : PS X st t) : PS X st (fun D σ H => ∃ Post : L2.St → Hp → Prop, t { D with nx := Post } σ H ∧ ∀ σ' H', Post σ' H' → D.nx σ' H') := by
  refine ⟨fun pins s σ H D I hh => ?_⟩
  obtain ⟨Post, h1, h2⟩ := hh
  refine wpAny_mono (h.run pins s σ H { D with nx := Post } I h1) (fun f s' hsp => ?_) fun _ _ z => z
  cases f with
  | next =>
    obtain ⟨σ', H', J, q⟩ := hsp
    exact ⟨σ', H', J, h2 _ _ q⟩
  | brk => exact hsp
  | cont => exact hsp
  | ret u => exact hsp
end
theorem same_free {H H1 : Hp} {a : Addr} {o : HO} (_ : Same H H1) (_ : H1 a = some o) (h : H a = none) : H a = none := h
/-- the arcs that are not this one -/
def butL (l : Arcs) (g : Str × Str) : Arcs := l.filter fun y => !decide (y.2 = g)
theorem butL_app (l : Arcs) (y : Addr × (Str × Str)) (g : Str × Str) : butL (l ++ [y]) g = butL l g ++ (if y.2 = g then [] else [y]) := by
  unfold butL
  rw [List.filter_append]
  by_cases h : y.2 = g
  · simp [h]
  · simp [h]
theorem butL_le (l : Arcs) (g : Str × Str) : (butL l g).length ≤ l.length := List.length_filter_le _ _
theorem butL_sub (l : Arcs) (g : Str × Str) : (butL l g).Sublist l := List.filter_sublist
end Mr

/-! AF -/
set_option Elab.async false
set_option linter.all false
set_option maxRecDepth 100000
set_option maxHeartbeats 2000000
namespace Mr
open PySem PySem.Spec PyProof.Rows L2 TL MrS RZ PySem.W
section
variable {P : Program} {w : World} {K : PySem.W.Frag} {mg : Str → Option Value} {base : Heap}
def spAlike : Sp := fun vs H Q _ => ∃ (b T : Addr) (t : TD) (aN aA aF aG : Addr) (as : Arcs) (ts : Tg) (c : Int), vs = [.ref b, .ref T] ∧ Bx H b c ∧ 0 ≤ c ∧ c ≤ 8000000 ∧ TOk t ∧ TabAt H T t aN aA aF aG as ts ∧
  ∀ c' H', c ≤ c' → c' ≤ c + 20 → Bx H' b c' → Kp b H H' → Q (.bl true) H'
theorem ok_alike {fP fR fI fN fS fM fV fB fW fX f fT fO fMd fIn fSm fE fL fRp C : Addr} {dP dR dI dN dS dM dV dB dW dX fd fdT fdO dMd dIn dSm dE dL dRp : FuncData} (F : Fun K "_law_alike_right" "_law_alike_right" sAlike f fd)
    (FT : Fun K "_law_take" "_law_take" sTake fT fdT) (bT : Binds K fdT ["_law_box_here", "_law_size"] []) (mT : mg "_law_take" = some (.ref fT))
    (FO : Fun K "_law_of" "_law_of" sOf fO fdO) (bO : Binds K fdO ["_law_box_here", "_law_some"] []) (mO : mg "_law_of" = some (.ref fO))
    (FM : Fun K "_law_made" "_law_made" sMade fMd dMd) (bM : Binds K dMd ["_law_t"] []) (mM : mg "_law_made" = some (.ref fMd))
    (FI : Fun K "__init__" "Table.__init__" sInit fIn dIn) (M : Mk K C fIn) (T : Txt K mg C)
    (FS : Fun K "_law_same" "_law_same" sSame fSm dSm) (bS : Binds K dSm ["_law_found", "_law_due"] []) (mS : mg "_law_same" = some (.ref fSm))
    (Z : Hlp K mg fP fR fI fN fS fM fV fB fW fX dP dR dI dN dS dM dV dB dW dX) (O : Own K mg C fE fL fRp dE dL dRp)
    (md : mg "dict" = none) (mbl : mg "bool" = none) (mrp : mg "repr" = none) (man : mg "any" = none) (mli : mg "list" = none) (mint : mg "int" = none) : FnOk P w K mg base CX0 8 f fd ["_law_box_here", "_law_t"] spAlike := by
  have ml := Z.ml
  have ma := Z.ma
  have mstr := Z.ms
  have GO : FnOk P w K mg base CX0 2 fO fdO ["_law_box_here", "_law_some"] (spOf K) := ok_of FO FT bT mT ml
  have GM : FnOk P w K mg base CX0 7 fMd dMd ["_law_t"] (spMade C) := ok_made FM FI M T Z
  have GE : FnOk P w K mg base CX0 1 fE dE ["self", "other"] (spEqT K C) := ok_eq O.FE T Z.mi
  have GL : FnOk P w K mg base CX0 1 fL dL ["self"] (spLen C) := ok_len O.FL T ml
  have GR : FnOk P w K mg base CX0 1 fRp dRp ["self"] (spRepr C) := ok_repr O.FR T ml
  have GS : FnOk P w K mg base CX0 2 fSm dSm ["_law_found", "_law_due"] (spSame K 2) := ok_same FS bS mS Z.mi ml ma Z.mz mli Z.mt mbl mint 2
  refine F.ok scAlike (fun vs H Q E h => ?_) (fun cdv A outer s H vs Q E hr h => ?_)
  · obtain ⟨b, T, t, aN, aA, aF, aG, as, ts, c, rfl, _⟩ := h
    rfl
  · obtain ⟨b, D, t, aN, aA, aF, aG, as, ts, c, rfl, hb, hc, hc2, ok, B, q⟩ := h
    have hu := hu_of hr
    have hr1 : Room 1 _ := hr.mono (by decide)
    have hr2 : Room 2 _ := hr.mono (by decide)
    have hr5 : Room 5 _ := hr.mono (by decide)
    refine ⟨_, pss_cons (ps_asg (pe_tup (pa_cons (pe_call GM hr (by rfl) mM FM.kp bM .nil pass0 (pa_cons (pv 1) pa_nil))
          (pa_cons (pe_op op_add_str (pe_op op_add_str pe_str (pe_callTy call_str_int (by rfl) mstr (by decide +kernel) (pa_cons (pe_callB call_len_seq (by rfl) ml PySem.boot_len (pa_cons (pe_dget hu (pv 1) pe_str (fun _ _ => rfl)) pa_nil)) pa_nil))) pe_str) pa_nil)))
        (pg_tup rfl (pgs_cons (pg_name (i := 2) scAlike.nd rfl (.inr rfl)) (pgs_cons (pg_name (i := 3) scAlike.nd rfl (.inl rfl)) pgs_nil))))
      (pss_cons (ps_for PassesOwn.never rfl (pi_tup (pe_tup (pa_cons pe_str (pa_cons pe_str (pa_cons pe_str (pa_cons pe_str pa_nil)))))) (pg_name (i := 4) scAlike.nd rfl (.inl rfl))
        (pss_cons (ps_set (i := 5) scAlike.nd rfl (.inl rfl) (pe_callTy call_dictD (by rfl) md (by decide +kernel) (pa_cons (pv 1) pa_nil)))
        (pss_cons (ps_cut (ps_if (pt_cmpR op_eq (pv 4) pe_str (nomark _))
            (pss_cons (ps_set (i := 6) scAlike.nd rfl (.inr rfl) (pe_call GO hr2 (by rfl) mO FO.kp bO .nil pass0 (pa_cons (pv 0) (pa_cons (pe_dget hu (pv 1) pe_str (fun _ _ => rfl)) pa_nil))))
            (pss_cons (ps_set (i := 7) scAlike.nd rfl (.inr rfl) (pe_lc (own := [("_law_arc", 9)]) (g := gName 9) rfl scAlike.nd (pi_list (pe_dget hu (pv 1) pe_str (fun _ _ => rfl)))
                (blkOk_by (own := [("_law_arc", 9)]) (N := nAlike) (sc := defScope sAlike) (by decide +kernel)) (fun _ _ _ _ _ => pg_name (i := 9) scAlike.nd rfl (.inl rfl))
                (fun _ _ _ _ _ => pts_one (pt_cmpR (op_neP K (hu64 hr)) (pv 9) (pv 6) (nomark _))) (fun _ _ _ _ _ => pv 9)))
            (pss_one (ps_dput hu (pv 5) pe_str (pe_ifExp (pt_val (pe_callB (cr_all rfl) (by rfl) ma (by decide +kernel) (pa_cons
                (pe_lc (own := [("_law_node", 10)]) (g := gName 10) (tt := tYes) rfl scAlike.nd (pi_list (pe_dget hu (pv 1) pe_str (fun _ _ => rfl)))
                  (blkOk_by (own := [("_law_node", 10)]) (N := nAlike) (sc := defScope sAlike) (by decide +kernel)) (fun _ _ _ _ _ => pg_name (i := 10) scAlike.nd rfl (.inl rfl)) (fun _ _ _ _ _ => pts_nil)
                  (fun _ _ _ _ _ => pe_cmpR (op_inK K) (pv 10) (pe_lc (own := [("_law_arc", 9)]) (g := gName 9) (tt := tYes) rfl scAlike.nd (pi_listK K (pv 7))
                    (blkOk_by (own := [("_law_arc", 9)]) (by kernel_rfl)) (fun _ _ _ _ _ => pg_name (i := 9) scAlike.nd rfl (.inl rfl)) (fun _ _ _ _ _ => pts_nil)
                    (fun _ _ _ _ _ => pe_ix (ix_tupK K) (pv 9) pe_int (fun _ _ => rfl))) (by rfl))) pa_nil))) (pv 7) (pe_dget hu (pv 1) pe_str (fun _ _ => rfl))) rfl))))
            (pss_one (ps_if (pt_cmpR op_eq (pv 4) pe_str (nomark _))
              (pss_one (ps_dput hu (pv 5) pe_str (pe_lst (pa_cons (pe_call GO hr2 (by rfl) mO FO.kp bO .nil pass0 (pa_cons (pv 0) (pa_cons (pe_dget hu (pv 1) pe_str (fun _ _ => rfl)) pa_nil))) pa_nil)) rfl))
              (pss_one (ps_if (pt_cmpR op_eq (pv 4) pe_str (nomark _))
                (pss_cons (ps_dput hu (pv 5) pe_str (pe_callTy call_dictD (by rfl) md (by decide +kernel) (pa_cons (pe_dget hu (pv 1) pe_str (fun _ _ => rfl)) pa_nil)) rfl)
                (pss_one (ps_expr (pe_bm PySem.F.plainAttrs_dict PySem.F.slot_dict_update PySem.F.type_dict_update mt_update (pe_dget hu (pv 5) pe_str (fun _ _ => rfl)) (pa_cons
                  (pe_disp (pps_cons (pe_call GO hr2 (by rfl) mO FO.kp bO .nil pass0 (pa_cons (pv 0) (pa_cons (pe_dget hu (pv 1) pe_str (fun _ _ => rfl)) pa_nil)))
                    (pe_call GO hr2 (by rfl) mO FO.kp bO .nil pass0 (pa_cons (pv 0) (pa_cons (pe_lst (pa_cons (pe_tup (pa_cons pe_str pa_nil)) (pa_cons (pe_tup pa_nil) pa_nil))) pa_nil))) pps_nil) (by rfl) (by rfl) (fun z => by cases z) (by decide)) pa_nil)))))
                pss_nil))))))
        (pss_cons (ps_set (i := 8) scAlike.nd rfl (.inl rfl) (pe_call GM hr (by rfl) mM FM.kp bM .nil pass0 (pa_cons (pv 5) pa_nil)))
        (pss_cons (ps_if (pt_cmpR (op_neP K (hu64 hr))
            (pe_lst (pa_cons (pe_cmpR (op_eqO GE O.sE O.iE O.bE pass0 hr1) (pv 8) (pv 2) (nomark _)) (pa_cons (pe_cmpR (op_eqO GE O.sE O.iE O.bE pass0 hr1) (pv 2) (pv 8) (nomark _)) (pa_cons (pe_cmpR (op_neO GE O.sE O.iE O.nE O.mO O.bE pass0 hr2) (pv 8) (pv 2) (nomark _)) pa_nil))))
            (pe_lst (pa_cons (pe_cmpR (op_eqDd (hu64 hr)) (pv 5) (pv 1) (nomark _)) (pa_cons (pe_cmpR (op_eqDd (hu64 hr)) (pv 5) (pv 1) (nomark _)) (pa_cons (pe_cmpR (op_neDd (hu64 hr)) (pv 5) (pv 1) (nomark _)) pa_nil)))) (nomark _))
          (pss_one (ps_ret pe_bl)) pss_nil)
        (pss_one (ps_if (pt_not (pt_val (pe_call GS hr2 (by rfl) mS FS.kp bS .nil pass0 (pa_cons
            (pe_lst (pa_cons (pe_callB (call_lenO GL O.sL O.iL O.bL pass0 hr2) (by rfl) ml PySem.boot_len (pa_cons (pv 8) pa_nil)) (pa_cons (pe_callTy (call_boolO GL O.sL O.iL O.nB O.bL pass0 hr5) (by rfl) mbl (by decide +kernel) (pa_cons (pv 8) pa_nil))
              (pa_cons (pe_callB (call_reprO GR O.sR O.iR O.bR pass0 hr2) (by rfl) mrp (by decide +kernel) (pa_cons (pv 8) pa_nil)) pa_nil))))
            (pa_cons (pe_lst (pa_cons (pe_callB call_len_seq (by rfl) ml PySem.boot_len (pa_cons (pe_dget hu (pv 5) pe_str (fun _ _ => rfl)) pa_nil)) (pa_cons pe_bl (pa_cons (pv 3) pa_nil)))) pa_nil)))))
          (pss_one (ps_ret pe_bl)) pss_nil)))))))
      (pss_one (ps_ret (pe_not (pe_callB (cr_any rfl) (by rfl) man (by decide +kernel) (pa_cons
        (pe_lc (own := [("_law_some", 11)]) (g := gName 11) (tt := tYes) rfl scAlike.nd (pi_tup (pe_tup (pa_cons pe_non (pa_cons (pe_tup pa_nil) (pa_cons (pe_fld (pv 2) rfl) (pa_cons (pe_callTy call_list_of (by rfl) mli (by decide +kernel) (pa_cons (pe_fld (pv 2) rfl) pa_nil))
            (pa_cons (pv 3) (pa_cons pe_int (pa_cons (pe_lst (pa_cons (pv 2) pa_nil)) pa_nil)))))))))
          (blkOk_by (own := [("_law_some", 11)]) (N := nAlike) (sc := defScope sAlike) (by decide +kernel)) (fun _ _ _ _ _ => pg_name (i := 11) scAlike.nd rfl (.inl rfl)) (fun _ _ _ _ _ => pts_nil)
          (fun _ _ _ _ _ => pe_cmpR (op_eqOK K GE O.sE O.iE O.bE pass0 hr1) (pv 2) (pv 11) (nomark _))) pa_nil)))))), ?_⟩
    have n8 := ok.n8
    have n1 := ok.n1
    have nmT : ts.map (·.1) = t.nodes := by
      rw [← ok.ts, ← B.mG, List.map_map]
      rfl
    have ndT : (ts.map (·.1)).Nodup := by rw [nmT]; exact ok.nu.nodup
    have a24 : as.length ≤ 24 := by
      have z := ok.a24
      rw [← B.mA, List.length_map] at z
      exact z
    refine ⟨_, rfl, D, t, aN, aA, aF, aG, as, ts, rfl, ok, B, fun p aS aM aB aW sw H1 hp0 s1 o1 e1 => ?_⟩
    have B1 := B.same s1
    have ll : ((t.nodes.map V.str).length : Int) = (t.nodes.length : Int) := by rw [List.length_map]
    refine ⟨_, rfl, D, _, rfl, getN B1.hT, aN, _, rfl, .inl (SqL.of B1.hN), _, rfl, by rw [ll]; exact small_log (by omega), ?_⟩
    rw [ll]
    refine ⟨_, _, rfl, rfl, tabTxt_l1 n8, _, _, rfl, rfl, tabTxt_l2 n8, ?_⟩
    rw [tabTxt_eq n8]
    refine ⟨(by show 2 ≤ sizeLine; decide), fun tp htp => ⟨tp, [.ref p, .str (tabTxt t.nodes.length)], rfl, .inl (.inl upd_same), rfl, .ref p, [.str (tabTxt t.nodes.length)], rfl, .str (tabTxt t.nodes.length), [], rfl, rfl, ?_⟩⟩
    have s2 := s1.trans (same_upd (o := .tup [V.ref p, .str (tabTxt t.nodes.length)]) htp)
    have o2 := o1.same (same_upd (o := .tup [V.ref p, .str (tabTxt t.nodes.length)]) htp)
    generalize upd H1 tp (.tup [V.ref p, .str (tabTxt t.nodes.length)]) = H2 at s2 o2 ⊢
    refine ⟨(by show 4 ≤ sizeLine; decide), fun wt hwt => ⟨wt, rfl, ⟨_, SqT.of upd_same⟩, ?_⟩⟩
    have s3 := s2.trans (same_upd (o := .tup [V.str (Str.ofString "arcs"), .str (Str.ofString "firsts"), .str (Str.ofString "tags"), .str (Str.ofString "")]) hwt)
    have o3 := o2.same (same_upd (o := .tup [V.str (Str.ofString "arcs"), .str (Str.ofString "firsts"), .str (Str.ofString "tags"), .str (Str.ofString "")]) hwt)
    have e3 : (upd H2 wt (.tup [V.str (Str.ofString "arcs"), .str (Str.ofString "firsts"), .str (Str.ofString "tags"), .str (Str.ofString "")])) wt = some (.tup [V.str (Str.ofString "arcs"), .str (Str.ofString "firsts"), .str (Str.ofString "tags"), .str (Str.ofString "")]) := upd_same
    have xsStr : ∀ {i : Nat} {v : V}, [V.str (Str.ofString "arcs"), .str (Str.ofString "firsts"), .str (Str.ofString "tags"), .str (Str.ofString "")][i]? = some v → ∃ x : Str, v = .str x ∧ i < 4 := fun {i v} h => by
      match i, h with
      | 0, h => exact ⟨_, (Option.some.inj h).symm, by decide⟩
      | 1, h => exact ⟨_, (Option.some.inj h).symm, by decide⟩
      | 2, h => exact ⟨_, (Option.some.inj h).symm, by decide⟩
      | 3, h => exact ⟨_, (Option.some.inj h).symm, by decide⟩
      | i + 4, h => cases h
    generalize upd H2 wt (.tup [V.str (Str.ofString "arcs"), .str (Str.ofString "firsts"), .str (Str.ofString "tags"), .str (Str.ofString "")]) = H3 at s3 o3 e3 ⊢
    have hb3 : Bx H3 b c := by
      obtain ⟨x1, y1, q1, r1⟩ := hb
      exact ⟨x1, y1, s3 _ _ q1, r1⟩
    have B3 := B.same s3
    refine for_tup (K := K) (a := wt) (xs := [V.str (Str.ofString "arcs"), .str (Str.ofString "firsts"), .str (Str.ofString "tags"), .str (Str.ofString "")])
      (fun i σ H7 => ∃ (y4 y5 y6 y7 y8 : Option V) (c7 : Int), σ = [some (.ref b), some (.ref D), some (.ref p), some (.str (tabTxt t.nodes.length)), y4, y5, y6, y7, y8, none, none, none] ∧ Kp b H3 H7 ∧ Bx H7 b c7 ∧ c ≤ c7 ∧ c7 ≤ c + 2 * i)
      ⟨none, none, none, none, none, c, rfl, Kp.refl, hb3, Int.le_refl _, by omega⟩ (fun i σ H7 _ ⟨_, _, _, _, _, _, _, k7, _⟩ => SqT.of (k7 _ _ (ho_ne hb3 e3 fun xs e => nomatch e) e3)) ?_ ?_
    · rintro i v σ H7 hi ⟨y4, y5, y6, y7, y8, c7, rfl, k7, hb7, c7a, c7b⟩
      obtain ⟨x, rfl, i4⟩ := xsStr hi
      have B7 := B3.keep hb3 k7
      refine ⟨_, rfl, D, _, rfl, .inl B7.hT, fun Oa hO => ?_⟩
      have k8 := k7.trans (Kp.new (b := b) (o := .dK (tabD aN aA aF aG)) hO)
      have hb8 := hb7.new (o := .dK (tabD aN aA aF aG)) hO
      have eO8 : (upd H7 Oa (.dK (tabD aN aA aF aG))) Oa = some (.dK (tabD aN aA aF aG)) := upd_same
      have zO3 : H3 Oa = none := k7.free hb7 hO
      have nOb : Oa ≠ b := fun z => hb7.ne hO z.symm
      generalize upd H7 Oa (.dK (tabD aN aA aF aG)) = H8 at k8 hb8 eO8 ⊢
      have B8 := B3.keep hb3 k8
      refine ⟨fun σ' H' => ∃ (y6 y7 : Option V) (u : TD) (bN bA bF bG : Addr) (bs : Arcs) (us : Tg) (c9 : Int), σ' = [some (.ref b), some (.ref D), some (.ref p), some (.str (tabTxt t.nodes.length)), some (.str x), some (.ref Oa), y6, y7, y8, none, none, none] ∧
        TabAt H' Oa u bN bA bF bG bs us ∧ TOk u ∧ u.nodes = t.nodes ∧ us.map (·.1) = ts.map (·.1) ∧ (bG = aG → us = ts) ∧ Kp b H3 H' ∧ Bx H' b c9 ∧ c7 ≤ c9 ∧ c9 ≤ c7 + 2, ?_, ?_⟩
      · -- what is changed
        refine ⟨_, rfl, rfl, _, rfl, ite2 (fun _ => ?_) (fun _ => ?_)⟩
        · -- without one arc
          have nA8 := refs_ne hb8 B8.hA
          have as0 : as ≠ [] := fun z => by
            obtain ⟨x0, hx0⟩ := List.exists_mem_of_length_pos (show 0 < t.nodes.length by omega)
            obtain ⟨p0, hp0', _⟩ := ok.aout x0 hx0
            rw [← B.mA, z] at hp0'
            cases hp0'
          have lA : (refs as).length = as.length := List.length_map _
          refine ⟨_, rfl, _, rfl, D, _, rfl, getA B8.hT, b, aA, refs as, c7, rfl, hb8, .inl ⟨SqL.of B8.hA, nA8⟩, (fun z => as0 (List.map_eq_nil_iff.mp z)), by rw [lA]; omega, by omega, by omega, fun v c9 H9 hv c9a c9b hb9 k9 ke9 => ?_⟩
          obtain ⟨g, hg, rfl⟩ : ∃ g ∈ as, v = .ref g.1 := by
            obtain ⟨x0, hx0, e⟩ := List.mem_map.mp hv
            exact ⟨x0, hx0, e.symm⟩
          have k39 := k8.trans k9
          have B9 := B3.keep hb3 k39
          have eO9 := k9 _ _ nOb eO8
          refine ⟨_, rfl, D, _, rfl, getA B9.hT, aA, rfl, ⟨_, SqL.of B9.hA⟩, fun R hR => lc_list (K := K) (a := aA) (xs := refs as) (fun i H4 => Same H9 H4 ∧ H4 R = some (.lst (refs (butL (as.take i) g.2)))) ⟨same_upd hR, upd_same⟩ (fun i H4 _ ⟨s4, _⟩ => SqL.of (s4 _ _ B9.hA)) ?_ ?_⟩
          · rintro j v H4 hj ⟨s4, e4⟩
            obtain ⟨y, hy, rfl⟩ := at_refs hj
            have il : j < as.length := (List.getElem?_eq_some_iff.mp hy).1
            have sm : (butL (as.take j) g.2).length ≤ 1000 := Nat.le_trans (butL_le _ _) (by rw [List.length_take]; omega)
            refine ⟨rfl, _, rfl, _, rfl, pd y.2, pd g.2, pd_dp (s4 _ _ (B9.eA y (List.mem_of_getElem? hy))), pd_dp (s4 _ _ (B9.eA g hg)), pd_plain _, pd_plain _, by rw [depth_pd]; decide, _, rfl, ?_⟩
            rw [if_pos rfl, pd_eqv, take_next hy, butL_app]
            by_cases e : y.2 = g.2
            · rw [decide_eq_true e]
              refine iteF ⟨s4, ?_⟩
              rw [if_pos e, List.append_nil]
              exact e4
            · rw [decide_eq_false e]
              refine iteT ⟨_, rfl, _, e4, by rw [show (refs (butL (as.take j) g.2)).length = (butL (as.take j) g.2).length from List.length_map _]; exact lt_line sm, same_put s4 hR, ?_⟩
              rw [upd_same, if_neg e, refs_app]
              rfl
          · rintro H4 ⟨s4, e4⟩
            rw [lA, List.take_length] at e4
            have sub := butL_sub as g.2
            have lb := butL_le as g.2
            have P4 : PairsAt H4 (butL as g.2) := fun y hy => s4 _ _ (B9.eA y (sub.subset hy))
            generalize butL as g.2 = a2 at e4 sub lb P4
            have l2 : (refs a2).length = a2.length := List.length_map _
            refine ⟨_, rfl, D, _, rfl, getN (s4 _ _ B9.hT), aN, rfl, ⟨_, SqL.of (s4 _ _ B9.hN)⟩, fun R2 hR2 => lc_list (K := K) (a := aN) (xs := t.nodes.map V.str) (fun i H5 => Same H4 H5 ∧ H5 R2 = some (.lst (((t.nodes.take i).map fun n => decide (n ∈ fsts a2)).map V.bl)))
              ⟨same_upd hR2, upd_same⟩ (fun i H5 _ ⟨s5, _⟩ => SqL.of (s5 _ _ (s4 _ _ B9.hN))) ?_ ?_⟩
            · rintro j v H5 hj ⟨s5, e5⟩
              obtain ⟨n, hn, rfl⟩ := str_at hj
              have il : j < t.nodes.length := (List.getElem?_eq_some_iff.mp hn).1
              refine ⟨rfl, lcYes ?_⟩
              refine ⟨_, rfl, _, rfl, R, rfl, ⟨_, SqL.of (s5 _ _ e4)⟩, fun R3 hR3 => lc_list (K := K) (a := R) (xs := refs a2) (fun i H6 => Same H5 H6 ∧ H6 R3 = some (.lst ((fsts (a2.take i)).map V.str))) ⟨same_upd hR3, upd_same⟩ (fun i H6 _ ⟨s6, _⟩ => SqL.of (s6 _ _ (s5 _ _ e4))) ?_ ?_⟩
              · rintro i2 v H6 hi2 ⟨s6, e6⟩
                obtain ⟨y, hy, rfl⟩ := at_refs hi2
                have il2 : i2 < a2.length := (List.getElem?_eq_some_iff.mp hy).1
                refine ⟨rfl, lcYes ⟨_, rfl, y.1, _, 0, .str y.2.1, rfl, rfl, SqT.of (s6 _ _ (s5 _ _ (P4 y (List.mem_of_getElem? hy)))), rfl, _, e6, by rw [List.length_map, List.length_map, List.length_take]; exact lt_line (by omega), same_put s6 hR3, ?_⟩⟩
                rw [upd_same, take_next hy]
                unfold fsts
                rw [List.map_append, List.map_append]
                rfl
              · rintro H6 ⟨s6, e6⟩
                rw [l2, List.take_length] at e6
                refine ⟨R3, _, rfl, .inl (SqL.of e6), rfl, flat_strs _, ?_⟩
                rw [if_neg (by decide), in_strs]
                refine ⟨_, s6 _ _ e5, by rw [List.length_map, List.length_map, List.length_take]; exact lt_line (by omega), same_put (s5.trans s6) hR2, ?_⟩
                rw [upd_same, take_next hn, List.map_append, List.map_append]
                rfl
            · rintro H5 ⟨s5, e5⟩
              rw [List.length_map, List.take_length] at e5
              have s45 := s4.trans s5
              have k35 : Kp b H3 H5 := k39.trans (Kp.same s45)
              have hb5 : Bx H5 b c9 := by
                obtain ⟨x1, y1, q1, r1⟩ := hb9
                exact ⟨x1, y1, s45 _ _ q1, r1⟩
              have B5 := B3.keep hb3 k35
              have eO5 := s45 _ _ eO9
              have oth : ∀ {a : Addr} {u : HO} {w : HO}, H3 a = some u → H5 a = some w → ∀ o, (upd H5 Oa o) a = some w := fun {a u w} h3 h5 o => by
                rw [upd_ne (ne_of_none h3 zO3)]
                exact h5
              refine ⟨R2, _, rfl, SqL.of e5, _, rfl, ite2 (fun al => ?_) (fun _ => ?_)⟩
              · have nR : R ≠ Oa := fun z => by
                  rw [z, eO9] at hR
                  cases hR
                refine ⟨_, rfl, _, rfl, Oa, _, rfl, DPut.k (k := kA) eO5 (by show 4 < sizeLine; decide), ?_⟩
                rw [putA]
                have out : ∀ n ∈ t.nodes, n ∈ fsts a2 := fun n hn => by
                  have z := List.all_eq_true.mp al (decide (n ∈ fsts a2)) (List.mem_map.mpr ⟨n, hn, rfl⟩)
                  exact of_decide_eq_true z
                refine ⟨_, _, { t with arcs := a2.map (·.2) }, aN, R, aF, aG, a2, ts, c9, rfl, ⟨upd_same, oth B3.hN B5.hN _, ?_, fun y hy => oth (B3.eA y (sub.subset hy)) (B5.eA y (sub.subset hy)) _, rfl, oth B3.hF B5.hF _, oth B3.hG B5.hG _, fun y hy => oth (B3.eG y hy) (B5.eG y hy) _, B.mG⟩,
                  tok_arcs ok (by rw [← B.mA]; exact sub.map _) (fun n hn => ?_), rfl, rfl, fun _ => rfl, k35.up zO3, hb5.up nOb.symm, by omega, by omega⟩
                · rw [upd_ne nR]
                  exact s5 _ _ e4
                · obtain ⟨y, hy, e⟩ := List.mem_map.mp (out n hn)
                  exact ⟨y.2, List.mem_map.mpr ⟨y, hy, rfl⟩, e⟩
              · refine ⟨_, rfl, D, _, rfl, getA B5.hT, _, rfl, Oa, _, rfl, DPut.k (k := kA) eO5 (by show 4 < sizeLine; decide), ?_⟩
                rw [putA]
                exact ⟨_, _, t, aN, aA, aF, aG, as, ts, c9, rfl, ⟨upd_same, oth B3.hN B5.hN _, oth B3.hA B5.hA _, fun y hy => oth (B3.eA y hy) (B5.eA y hy) _, B.mA, oth B3.hF B5.hF _, oth B3.hG B5.hG _, fun y hy => oth (B3.eG y hy) (B5.eG y hy) _, B.mG⟩,
                  ok, rfl, rfl, fun _ => rfl, k35.up zO3, hb5.up nOb.symm, by omega, by omega⟩
        · refine ⟨_, rfl, rfl, _, rfl, ite2 (fun _ => ?_) (fun _ => ?_)⟩
          · -- one first
            refine ⟨_, rfl, _, rfl, D, _, rfl, getN B8.hT, b, aN, t.nodes.map V.str, c7, rfl, hb8, .inl ⟨SqL.of B8.hN, txt_ne hb8 B8.hN⟩, (fun z => by
              rw [List.map_eq_nil_iff] at z
              rw [z] at n1
              simp at n1), by rw [List.length_map]; omega, by omega, by omega, fun v c9 H9 hv c9a c9b hb9 k9 ke9 => ⟨(by show 1 ≤ sizeLine; decide), fun L hL => ?_⟩⟩
            obtain ⟨nd, hnd, rfl⟩ := of_str hv
            have k39 := k8.trans k9
            have B9 := B3.keep hb3 k39
            have eO9 := k9 _ _ nOb eO8
            have k3a := k39.trans (Kp.new (b := b) (o := .lst [V.str nd]) hL)
            have hba := hb9.new (o := .lst [V.str nd]) hL
            have eOa : (upd H9 L (.lst [V.str nd])) Oa = some (.dK (tabD aN aA aF aG)) := by rw [upd_ne (ne_of_none eO9 hL)]; exact eO9
            have eLa : (upd H9 L (.lst [V.str nd])) L = some (.lst [V.str nd]) := upd_same
            have nL : L ≠ Oa := fun z => by
              rw [z, eO9] at hL
              cases hL
            generalize upd H9 L (.lst [V.str nd]) = Ha at k3a hba eOa eLa ⊢
            have Ba := B3.keep hb3 k3a
            refine ⟨_, rfl, Oa, _, rfl, DPut.k (k := kF) eOa (by show 4 < sizeLine; decide), ?_⟩
            rw [putFi]
            have oth : ∀ {a : Addr} {u : HO} {w : HO}, H3 a = some u → Ha a = some w → ∀ o, (upd Ha Oa o) a = some w := fun {a u w} h3 h5 o => by
              rw [upd_ne (ne_of_none h3 zO3)]
              exact h5
            refine ⟨_, _, { t with firsts := [nd] }, aN, aA, L, aG, as, ts, c9, rfl, ⟨upd_same, oth B3.hN Ba.hN _, oth B3.hA Ba.hA _, fun y hy => oth (B3.eA y hy) (Ba.eA y hy) _, B.mA, ?_, oth B3.hG Ba.hG _, fun y hy => oth (B3.eG y hy) (Ba.eG y hy) _, B.mG⟩,
              tok_firsts ok hnd, rfl, rfl, fun _ => rfl, k3a.up zO3, hba.up nOb.symm, by omega, by omega⟩
            rw [upd_ne nL]
            exact eLa
          · refine ⟨_, rfl, rfl, _, rfl, ite2 (fun _ => ?_) (fun _ => ?_)⟩
            · -- one tag
              refine ⟨_, rfl, D, _, rfl, getG B8.hT, aG, _, rfl, .inl B8.hG, fun G2 hG2 => ?_⟩
              have k9 := k8.trans (Kp.new (b := b) (o := .dK (ts.map tagE)) hG2)
              have hb9 := hb8.new (o := .dK (ts.map tagE)) hG2
              have eO9 : (upd H8 G2 (.dK (ts.map tagE))) Oa = some (.dK (tabD aN aA aF aG)) := by rw [upd_ne (ne_of_none eO8 hG2)]; exact eO8
              have eG9 : (upd H8 G2 (.dK (ts.map tagE))) G2 = some (.dK (ts.map tagE)) := upd_same
              have zG3 : H3 G2 = none := k8.free hb8 hG2
              have nGO : G2 ≠ Oa := fun z => by
                rw [z, eO8] at hG2
                cases hG2
              have nGb : G2 ≠ b := fun z => hb8.ne hG2 z.symm
              generalize upd H8 G2 (.dK (ts.map tagE)) = H9 at k9 hb9 eO9 eG9 ⊢
              refine ⟨_, rfl, Oa, _, rfl, DPut.k (k := kG) eO9 (by show 4 < sizeLine; decide), ?_⟩
              rw [putG]
              have kA' := k9.up (o := .dK (tabD aN aA aF G2)) zO3
              have hbA := hb9.up (o := .dK (tabD aN aA aF G2)) nOb.symm
              have eOA : (upd H9 Oa (.dK (tabD aN aA aF G2))) Oa = some (.dK (tabD aN aA aF G2)) := upd_same
              have eGA : (upd H9 Oa (.dK (tabD aN aA aF G2))) G2 = some (.dK (ts.map tagE)) := by rw [upd_ne nGO]; exact eG9
              generalize upd H9 Oa (.dK (tabD aN aA aF G2)) = HA at kA' hbA eOA eGA ⊢
              have BA := B3.keep hb3 kA'
              refine ⟨_, rfl, Oa, _, rfl, getG eOA, .inr (.inr (.inl ⟨rfl, .inl ⟨_, eGA⟩⟩)), fun U hU => ?_⟩
              have kB := kA'.trans (Kp.new (b := b) (o := .dK []) hU)
              have hbB := hbA.new (o := .dK []) hU
              have eUB : (upd HA U (.dK [])) U = some (.dK []) := upd_same
              have zU3 : H3 U = none := kA'.free hbA hU
              have nUb : U ≠ b := fun z => hbA.ne hU z.symm
              have nUO : U ≠ Oa := fun z => by
                rw [z, eOA] at hU
                cases hU
              have nUG : U ≠ G2 := fun z => by
                rw [z, eGA] at hU
                cases hU
              have eOB : (upd HA U (.dK [])) Oa = some (.dK (tabD aN aA aF G2)) := by rw [upd_ne nUO.symm]; exact eOA
              have eGB : (upd HA U (.dK [])) G2 = some (.dK (ts.map tagE)) := by rw [upd_ne nUG.symm]; exact eGA
              generalize upd HA U (.dK []) = HB at kB hbB eUB eOB eGB ⊢
              have BB := B3.keep hb3 kB
              refine ⟨_, rfl, _, rfl, D, _, rfl, getN BB.hT, b, aN, t.nodes.map V.str, c7, rfl, hbB, .inl ⟨SqL.of BB.hN, txt_ne hbB BB.hN⟩, (fun z => by
                rw [List.map_eq_nil_iff] at z
                rw [z] at n1
                simp at n1), by rw [List.length_map]; omega, by omega, by omega, fun v c9 HC hv c9a c9b hbC kC keC => ?_⟩
              obtain ⟨nd, hnd, rfl⟩ := of_str hv
              have kC3 := kB.trans kC
              have eUC := kC _ _ nUb eUB
              have eOC := kC _ _ nOb eOB
              have eGC := kC _ _ nGb eGB
              refine ⟨_, rfl, (by show 1 ≤ sizeLine; decide), fun t1 ht1 => ⟨Nat.zero_le _, fun t2 ht2 => ⟨(by show 2 ≤ sizeLine; decide), fun L hL => ?_⟩⟩⟩
              have sA := same_put (o := .tup []) (same_upd (o := .tup [.str qq]) ht1) ((same_upd (o := .tup [.str qq]) ht1).free ht2)
              have hL0 : HC L = none := sA.free hL
              have sD := same_put (o := .lst [.ref t1, .ref t2]) sA hL0
              have t1D : (upd (upd (upd HC t1 (.tup [.str qq])) t2 (.tup [])) L (.lst [.ref t1, .ref t2])) t1 = some (.tup [.str qq]) := same_upd hL _ _ (same_upd ht2 _ _ upd_same)
              have t2D : (upd (upd (upd HC t1 (.tup [.str qq])) t2 (.tup [])) L (.lst [.ref t1, .ref t2])) t2 = some (.tup []) := same_upd hL _ _ upd_same
              have eLD : (upd (upd (upd HC t1 (.tup [.str qq])) t2 (.tup [])) L (.lst [.ref t1, .ref t2])) L = some (.lst [.ref t1, .ref t2]) := upd_same
              have hbD : Bx (upd (upd (upd HC t1 (.tup [.str qq])) t2 (.tup [])) L (.lst [.ref t1, .ref t2])) b c9 := by
                obtain ⟨x1, y1, q1, r1⟩ := hbC
                exact ⟨x1, y1, sD _ _ q1, r1⟩
              refine ⟨b, L, [.ref t1, .ref t2], c9, rfl, hbD, .inl ⟨SqL.of eLD, fun z => hbC.ne hL0 z.symm⟩, (by intro z; cases z), (by show 2 ≤ 1000; decide), by omega, by omega, fun v cD HD hv cDa cDb hbE kE keE => ?_⟩
              have kD3 := (kC3.trans (Kp.same sD)).trans kE
              have eUD := kE _ _ nUb (sD _ _ eUC)
              have eOD := kE _ _ nOb (sD _ _ eOC)
              have eGD := kE _ _ nGb (sD _ _ eGC)
              have BD := B3.keep hb3 kD3
              obtain ⟨tt, mk, rfl, ett, um, lm, im⟩ : ∃ (tt : Addr) (mk : List Str), v = .ref tt ∧ HD tt = some (.tup (mk.map V.str)) ∧ Up sd mk ∧ mk.length ≤ 4 ∧ ∀ x ∈ mk, isNm x := by
                rcases List.mem_cons.mp hv with z | z
                · refine ⟨t1, [qq], z, kE _ _ (ho_ne hbD t1D fun xs e => nomatch e) t1D, List.pairwise_singleton _ _, by decide, fun y hy => ?_⟩
                  rw [List.mem_singleton.mp hy]
                  exact qq_is
                · refine ⟨t2, [], List.mem_singleton.mp z, kE _ _ (ho_ne hbD t2D fun xs e => nomatch e) t2D, List.Pairwise.nil, by decide, fun y hy => by cases hy⟩
              have nGU : G2 ≠ U := nUG.symm
              have ltg : (ts.map tagE).length ≤ 8 := by
                have z := congrArg List.length nmT
                rw [List.length_map] at z
                rw [List.length_map, z]
                exact n8
              refine ⟨eUD, [(.inr nd, .ref tt)], rfl, (by show 1 ≤ 15; decide), G2, U, ts.map tagE, [(.inr nd, .ref tt)], rfl, rfl, nGU, by rw [upd_ne nGU]; exact eGD, upd_same, Nat.le_of_lt (small1000 (by show _ + 1 ≤ 1000; omega)), ?_⟩
              rw [setTag_put (mk := mk) (by rw [nmT]; exact hnd)]
              have oth : ∀ {a : Addr} {u : HO} {w : HO}, H3 a = some u → HD a = some w → ∀ o o2, (upd (upd HD U o) G2 o2) a = some w := fun {a u w} h3 h5 o o2 => by
                rw [upd_ne (ne_of_none h3 zG3), upd_ne (ne_of_none h3 zU3)]
                exact h5
              have ntU : tt ≠ U := fun z => by
                rw [z, eUD] at ett
                cases ett
              have ntG : tt ≠ G2 := fun z => by
                rw [z, eGD] at ett
                cases ett
              refine ⟨_, _, { t with tags := tgD (setTag ts nd tt mk) }, aN, aA, aF, G2, as, setTag ts nd tt mk, cD, rfl, ⟨?_, oth B3.hN BD.hN _ _, oth B3.hA BD.hA _ _, fun y hy => oth (B3.eA y hy) (BD.eA y hy) _ _, B.mA, oth B3.hF BD.hF _ _, upd_same, fun y hy => ?_, rfl⟩,
                tok_tags ok B.mG um lm im, rfl, setTag_names ts nd tt mk, fun z => absurd z.symm (ne_of_none B3.hG zG3), (kD3.up zU3).up zG3, (hbE.up nUb.symm).up nGb.symm, by omega, by omega⟩
              · rw [upd_ne nGO.symm, upd_ne nUO.symm]
                exact eOD
              · rcases setTag_mem hy with z | z
                · rw [z]
                  show (upd (upd HD U _) G2 _) tt = some (.tup (mk.map V.str))
                  rw [upd_ne ntG, upd_ne ntU]
                  exact ett
                · exact oth (B3.eG y z) (BD.eG y z) _ _
            · exact ⟨y6, y7, t, aN, aA, aF, aG, as, ts, c7, rfl, ⟨eO8, B8.hN, B8.hA, B8.eA, B8.mA, B8.hF, B8.hG, B8.eG, B8.mG⟩, ok, rfl, rfl, fun _ => rfl, k8, hb8, Int.le_refl _, by omega⟩
      · rintro σ8 H9 ⟨y6, y7, u, bN, bA, bF, bG, bs, us, c9, rfl, DU, okU, eN, eM, hg, k9, hb9, c9a, c9b⟩
        refine ⟨_, rfl, Oa, u, bN, bA, bF, bG, bs, us, rfl, okU, DU, fun p2 aS2 aM2 aB2 aW2 sv Ha hp2 sa oa ea => ?_⟩
        have ka := k9.trans (Kp.same (b := b) sa)
        have hba : Bx Ha b c9 := by
          obtain ⟨x1, y1, q1, r1⟩ := hb9
          exact ⟨x1, y1, sa _ _ q1, r1⟩
        have opa := o3.keep hb3 ka
        have Ba := B3.keep hb3 ka
        have Da := DU.same sa
        obtain ⟨dx2, i2⟩ := oa.ob
        obtain ⟨dx1, i1⟩ := opa.ob
        have nfC : notFirst K C (.ref C) = true := by
          unfold notFirst
          simp
        have ty1 : TyX K Ha (.ref p) (.ref C) := .base (.ins i1 T.cl O.ca O.cn O.ct O.mO)
        have ty2 : TyX K Ha (.ref p2) (.ref C) := .base (.ins i2 T.cl O.ca O.cn O.ct O.mO)
        have eqB : tabEq u.nodes bs u.firsts sv t.nodes as t.firsts sw = dictB u t := alike_tabs ok B.mA DU.mA B.mG DU.mG eM e1 ea
        refine ⟨_, rfl, _, rfl, p2, dx2, _, .ref C, rfl, i2, ty1, nfC, p2, aS2, aM2, aB2, aW2, u.nodes, bs, u.firsts, sv, .ref p, rfl, oa, .inl ⟨p, aS, aM, aB, aW, t.nodes, as, t.firsts, sw, rfl, opa, ty1, _, rfl, ?_⟩⟩
        refine ⟨_, rfl, _, rfl, p, dx1, _, .ref C, rfl, i1, ty2, nfC, p, aS, aM, aB, aW, t.nodes, as, t.firsts, sw, .ref p2, rfl, opa, .inl ⟨p2, aS2, aM2, aB2, aW2, u.nodes, bs, u.firsts, sv, rfl, oa, ty2, _, rfl, ?_⟩⟩
        refine ⟨_, rfl, _, rfl, p2, dx2, _, .ref C, rfl, i2, ty1, nfC, p2, aS2, aM2, aB2, aW2, u.nodes, bs, u.firsts, sv, .ref p, rfl, oa, .inl ⟨p, aS, aM, aB, aW, t.nodes, as, t.firsts, sw, rfl, opa, ty1, _, rfl, ?_⟩⟩
        rw [tabEq_symm t.nodes as t.firsts sw u.nodes bs u.firsts sv, eqB, if_neg (show ¬ (false = true) by decide), if_pos (show true = true from rfl)]
        generalize hB : dictB u t = B0
        refine ⟨(by show 3 ≤ sizeLine; decide), fun L1 hL1 => ?_⟩
        have sb := same_upd (o := .lst [V.bl B0, .bl B0, .bl (!B0)]) hL1
        have eL1 : (upd Ha L1 (.lst [V.bl B0, .bl B0, .bl (!B0)])) L1 = some (.lst [V.bl B0, .bl B0, .bl (!B0)]) := upd_same
        generalize upd Ha L1 (.lst [V.bl B0, .bl B0, .bl (!B0)]) = Hb at sb eL1 ⊢
        have hits : HitsW (EqW K Hb 2) (tabD aN aA aF aG) (tabD bN bA bF bG) B0 := by
          rw [← hB]
          exact hits_tab (Ba.same sb) (Da.same sb) ok eM hg
        have eOb := sb _ _ Da.hT
        have eDb := sb _ _ Ba.hT
        refine ⟨_, rfl, _, rfl, Oa, D, _, _, B0, rfl, rfl, eOb, eDb, rfl, hits, ?_⟩
        refine ⟨_, rfl, _, rfl, Oa, D, _, _, B0, rfl, rfl, eOb, eDb, rfl, hits, ?_⟩
        refine ⟨_, rfl, _, rfl, Oa, D, _, _, B0, rfl, rfl, eOb, eDb, rfl, hits, ?_⟩
        rw [if_neg (show ¬ (false = true) by decide), if_pos (show true = true from rfl)]
        refine ⟨(by show 3 ≤ sizeLine; decide), fun L2 hL2 => ?_⟩
        have sc := same_upd (o := .lst [V.bl B0, .bl B0, .bl (!B0)]) hL2
        have eL2 : (upd Hb L2 (.lst [V.bl B0, .bl B0, .bl (!B0)])) L2 = some (.lst [V.bl B0, .bl B0, .bl (!B0)]) := upd_same
        have eL1c := sc _ _ eL1
        generalize upd Hb L2 (.lst [V.bl B0, .bl B0, .bl (!B0)]) = Hc at sc eL2 eL1c ⊢
        have bls : DpAll K Hc [V.bl B0, .bl B0, .bl (!B0)] [.bool B0, .bool B0, .bool (!B0)] := .cons (.bl _) (.cons (.bl _) (.cons (.bl _) .nil))
        refine ⟨_, _, .lst (SqL.of eL1c) bls, .lst (SqL.of eL2) bls, by simp [PyData.plain, PyData.plainAll], by simp [PyData.plain, PyData.plainAll], by simp [PyData.depth, PyData.depthAll], _, rfl, ?_⟩
        rw [if_pos (show true = true from rfl), show PyData.eqv (.list [.bool B0, .bool B0, .bool (!B0)]) (.list [.bool B0, .bool B0, .bool (!B0)]) = true by simp [PyData.eqv, PyData.eqvAll]]
        refine iteF ?_
        -- len, bool, repr
        have sac := sb.trans sc
        have oc := oa.same sac
        have i2c := sac _ _ i2
        have Dc := Da.same sac
        have lbs : bs.length ≤ 24 := by
          have z := okU.a24
          rw [← DU.mA, List.length_map] at z
          exact z
        have bs0 : bs.length ≠ 0 := fun z => by
          have n1u := okU.n1
          obtain ⟨x0, hx0⟩ := List.exists_mem_of_length_pos (show 0 < u.nodes.length by omega)
          obtain ⟨p0, hp0', _⟩ := okU.aout x0 hx0
          rw [← DU.mA, List.eq_nil_of_length_eq_zero z] at hp0'
          cases hp0'
        refine ⟨_, rfl, p2, dx2, _, rfl, i2c, p2, aS2, aM2, aB2, aW2, u.nodes, bs, u.firsts, sv, rfl, oc, bs.length, rfl, Nat.lt_of_le_of_lt lbs (by decide), ?_⟩
        refine ⟨_, rfl, p2, dx2, _, rfl, i2c, p2, aS2, aM2, aB2, aW2, u.nodes, bs, u.firsts, sv, rfl, oc, bs.length, rfl, Nat.lt_of_le_of_lt lbs (by decide), ?_⟩
        rw [decide_eq_true bs0]
        refine ⟨_, rfl, p2, dx2, _, rfl, i2c, p2, aS2, aM2, aB2, aW2, u.nodes, bs, u.firsts, sv, rfl, oc, okU.n8, _, rfl, ?_⟩
        rw [eN]
        refine ⟨(by show 3 ≤ sizeLine; decide), fun L3 hL3 => ?_⟩
        have sd' := same_upd (o := .lst [V.int bs.length, .bl true, .str (tabTxt t.nodes.length)]) hL3
        have eL3 : (upd Hc L3 (.lst [V.int bs.length, .bl true, .str (tabTxt t.nodes.length)])) L3 = some (.lst [V.int bs.length, .bl true, .str (tabTxt t.nodes.length)]) := upd_same
        generalize upd Hc L3 (.lst [V.int bs.length, .bl true, .str (tabTxt t.nodes.length)]) = Hd at sd' eL3 ⊢
        have Dd := Dc.same sd'
        refine ⟨_, rfl, Oa, _, rfl, getA Dd.hT, bA, _, rfl, .inl (SqL.of Dd.hA), _, rfl, ?_⟩
        rw [show (refs bs).length = bs.length from List.length_map _]
        refine ⟨(by show 3 ≤ sizeLine; decide), fun L4 hL4 => ?_⟩
        have se := same_upd (o := .lst [V.int bs.length, .bl true, .str (tabTxt t.nodes.length)]) hL4
        have eL4 : (upd Hd L4 (.lst [V.int bs.length, .bl true, .str (tabTxt t.nodes.length)])) L4 = some (.lst [V.int bs.length, .bl true, .str (tabTxt t.nodes.length)]) := upd_same
        have eL3e := se _ _ eL3
        generalize upd Hd L4 (.lst [V.int bs.length, .bl true, .str (tabTxt t.nodes.length)]) = He at se eL4 eL3e ⊢
        have prs : DpAll K He [V.int bs.length, .bl true, .str (tabTxt t.nodes.length)] [.int bs.length, .bool true, .str (tabTxt t.nodes.length)] := .cons (.int _) (.cons (.bl _) (.cons (.str _) .nil))
        refine ⟨.ref L3, .ref L4, _, rfl, .lst (SqL.of eL3e) prs, .lst (SqL.of eL4) prs, rfl, fun Hf sf => ⟨_, rfl, iteF ?_⟩⟩
        have sae := ((sac.trans sd').trans se).trans sf
        exact ⟨_, _, _, _, _, c9, rfl, ka.trans (Kp.same sae), (by
          obtain ⟨x1, y1, q1, r1⟩ := hba
          exact ⟨x1, y1, sae _ _ q1, r1⟩), by omega, by omega⟩
    · rintro σ H7 ⟨y4, y5, y6, y7, y8, c7, rfl, k7, hb7, c7a, c7b⟩
      have op7 := o3.keep hb3 k7
      obtain ⟨dx1, i1⟩ := op7.ob
      refine ⟨Nat.zero_le _, fun t0 ht0 => ?_⟩
      have sa := same_upd (o := .tup []) ht0
      have et0 : (upd H7 t0 (.tup [])) t0 = some (.tup []) := upd_same
      generalize upd H7 t0 (.tup []) = Ha at sa et0 ⊢
      have oa := op7.same sa
      have ia := sa _ _ i1
      refine ⟨_, rfl, p, C, dx1, _, _, rfl, ia, T.cl, T.nS, lkS, ?_⟩
      refine ⟨_, rfl, p, C, dx1, _, _, rfl, ia, T.cl, T.nM, lkM, aM, _, rfl, .inr (SqT.of oa.pt.hM), fun l0 hl0 => ?_⟩
      have sb := same_upd (o := .lst (refs as)) hl0
      have el0 : (upd Ha l0 (.lst (refs as))) l0 = some (.lst (refs as)) := upd_same
      have et1 := sb _ _ et0
      generalize upd Ha l0 (.lst (refs as)) = Hb at sb el0 et1 ⊢
      have ob := oa.same sb
      refine ⟨_, rfl, _, rfl, (by show 1 ≤ sizeLine; decide), fun L0 hL0 => ?_⟩
      have sc := same_upd (o := .lst [V.ref p]) hL0
      have eL0 : (upd Hb L0 (.lst [V.ref p])) L0 = some (.lst [V.ref p]) := upd_same
      have et2 := sc _ _ et1
      have el1 := sc _ _ el0
      generalize upd Hb L0 (.lst [V.ref p]) = Hc at sc eL0 et2 el1 ⊢
      have oc := ob.same sc
      refine ⟨(by show 7 ≤ sizeLine; decide), fun W0 hW0 => ⟨W0, rfl, ⟨_, SqT.of upd_same⟩, ?_⟩⟩
      have sd' := same_upd (o := .tup [V.non, .ref t0, .ref aS, .ref l0, .str (tabTxt t.nodes.length), .int 0, .ref L0]) hW0
      have eW : (upd Hc W0 (.tup [V.non, .ref t0, .ref aS, .ref l0, .str (tabTxt t.nodes.length), .int 0, .ref L0])) W0 = some (.tup [V.non, .ref t0, .ref aS, .ref l0, .str (tabTxt t.nodes.length), .int 0, .ref L0]) := upd_same
      have et3 := sd' _ _ et2
      have el2 := sd' _ _ el1
      have eL1 := sd' _ _ eL0
      generalize upd Hc W0 (.tup [V.non, .ref t0, .ref aS, .ref l0, .str (tabTxt t.nodes.length), .int 0, .ref L0]) = Hd at sd' eW et3 el2 eL1 ⊢
      have od := oc.same sd'
      obtain ⟨dxd, ide⟩ := od.ob
      have kind : ∀ {H' : Hp}, Same Hd H' → ∀ {i : Nat} {v : V}, [V.non, .ref t0, .ref aS, .ref l0, .str (tabTxt t.nodes.length), .int 0, .ref L0][i]? = some v →
          ∃ z : Value, TyX K H' v z ∧ notFirst K C z = true ∧ kitOne K z (.ref C) = some false ∧ i < 7 := fun {H'} s' {i v} h => by
        match i, h with
        | 0, h => cases h; exact ⟨_, .base .non, O.f1, O.k1, by decide⟩
        | 1, h => cases h; exact ⟨_, .base (.tup (s' _ _ et3)), O.f2, O.k2, by decide⟩
        | 2, h => cases h; exact ⟨_, .base (.tup (s' _ _ od.pt.hS)), O.f2, O.k2, by decide⟩
        | 3, h => cases h; exact ⟨_, .base (.lst (s' _ _ el2)), O.f3, O.k3, by decide⟩
        | 4, h => cases h; exact ⟨_, .base (.str _), O.f4, O.k4, by decide⟩
        | 5, h => cases h; exact ⟨_, .base (.int _), O.f5, O.k5, by decide⟩
        | 6, h => cases h; exact ⟨_, .base (.lst (s' _ _ eL1)), O.f3, O.k3, by decide⟩
        | i + 7, h => cases h
      refine fun R hR => lc_tup (K := K) (a := W0) (xs := [V.non, .ref t0, .ref aS, .ref l0, .str (tabTxt t.nodes.length), .int 0, .ref L0]) (fun i H4 => Same Hd H4 ∧ H4 R = some (.lst (List.replicate i (.bl false)))) ⟨same_upd hR, upd_same⟩ (fun i H4 _ ⟨s4, _⟩ => SqT.of (s4 _ _ eW)) ?_ ?_
      · rintro i v H4 hi ⟨s4, e4⟩
        obtain ⟨z, ty, nf, ki, i7⟩ := kind s4 hi
        refine ⟨rfl, lcYes ⟨_, rfl, _, rfl, p, dxd, _, z, rfl, s4 _ _ ide, ty, nf, p, aS, aM, aB, aW, t.nodes, as, t.firsts, sw, v, rfl, od.same s4, .inr ⟨z, ty, ki, _, rfl, ?_⟩⟩⟩
        exact ⟨_, e4, by rw [List.length_replicate]; exact lt_line (by omega), same_put s4 hR, by rw [upd_same, List.replicate_succ']; rfl⟩
      · rintro H4 ⟨s4, e4⟩
        refine ⟨R, List.replicate 7 false, rfl, SqL.of (by rw [List.map_replicate]; exact e4), _, rfl, ?_⟩
        have sall := (((sa.trans sb).trans sc).trans sd').trans s4
        refine q c7 H4 c7a (by
          have z : ([V.str (Str.ofString "arcs"), .str (Str.ofString "firsts"), .str (Str.ofString "tags"), .str (Str.ofString "")].length : Int) = 4 := rfl
          rw [z] at c7b
          omega) (by
          obtain ⟨x1, y1, q1, r1⟩ := hb7
          exact ⟨x1, y1, sall _ _ q1, r1⟩) (((Kp.same s3).trans k7).trans (Kp.same sall))
end
end Mr

/-! AG -/
set_option Elab.async false
set_option linter.all false
set_option maxRecDepth 100000
set_option maxHeartbeats 2000000
namespace Mr
open PySem PySem.Spec PyProof.Rows L2 TL MrS RZ PySem.W
theorem fine_str (n : Nat) (x : Str) : fine n (.str x) = true := by cases n <;> rfl
theorem fine_strs (n : Nat) {l : List Str} (h : l.length ≤ 1000) : fine (n + 1) (.tuple (l.map sd)) = true ∧ fine (n + 1) (.list (l.map sd)) = true := by
  have e : (decide ((l.map sd).length ≤ 1000) && (l.map sd).all (fine n)) = true := by
    rw [Bool.and_eq_true, decide_eq_true_eq, List.length_map]
    refine ⟨h, List.all_eq_true.mpr fun d hd => ?_⟩
    obtain ⟨x, _, rfl⟩ := List.mem_map.mp hd
    exact fine_str n x
  exact ⟨e, e⟩
theorem fine_pairs (n : Nat) {l : List (Str × Str)} (h : l.length ≤ 1000) : fine (n + 2) (.tuple (l.map pd)) = true := by
  show (decide ((l.map pd).length ≤ 1000) && (l.map pd).all (fine (n + 1))) = true
  rw [Bool.and_eq_true, decide_eq_true_eq, List.length_map]
  refine ⟨h, List.all_eq_true.mpr fun d hd => ?_⟩
  obtain ⟨x, _, rfl⟩ := List.mem_map.mp hd
  show (decide (2 ≤ 1000) && (fine n (.str x.1) && (fine n (.str x.2) && true))) = true
  rw [fine_str, fine_str]
  rfl
theorem fine_shows (n : Nat) {l : List (Str × List Str)} (h : l.length ≤ 1000) (k : ∀ x ∈ l, x.2.length ≤ 1000) : fine (n + 3) (.tuple (l.map wd)) = true := by
  show (decide ((l.map wd).length ≤ 1000) && (l.map wd).all (fine (n + 2))) = true
  rw [Bool.and_eq_true, decide_eq_true_eq, List.length_map]
  refine ⟨h, List.all_eq_true.mpr fun d hd => ?_⟩
  obtain ⟨x, hx, rfl⟩ := List.mem_map.mp hd
  show (decide (2 ≤ 1000) && (fine (n + 1) (.str x.1) && (fine (n + 1) (.tuple (x.2.map sd)) && true))) = true
  rw [fine_str, (fine_strs n (k x hx)).1]
  rfl
/-- the four parts of a table as data -/
abbrev d4 (nodes : List Str) (as : Arcs) (firsts : List Str) (sw : Sw) : PyData := .tuple [.tuple (nodes.map sd), .tuple ((as.map (·.2)).map pd), .tuple (firsts.map sd), .tuple ((swD sw).map wd)]
theorem d4_fine (n : Nat) {nodes firsts : List Str} {as : Arcs} {sw : Sw} (h1 : nodes.length ≤ 100) (h2 : as.length ≤ 100) (h3 : firsts.length ≤ 100) (h4 : ShOk nodes sw) : fine (n + 4) (d4 nodes as firsts sw) = true := by
  show (decide (4 ≤ 1000) && (fine (n + 3) (.tuple (nodes.map sd)) && (fine (n + 3) (.tuple ((as.map (·.2)).map pd)) && (fine (n + 3) (.tuple (firsts.map sd)) && (fine (n + 3) (.tuple ((swD sw).map wd)) && true))))) = true
  rw [(fine_strs (n + 2) (show nodes.length ≤ 1000 by omega)).1, fine_pairs (n + 1) (by rw [List.length_map]; omega), (fine_strs (n + 2) (show firsts.length ≤ 1000 by omega)).1, fine_shows n (by rw [List.length_map]; have := h4.few; omega) (fun x hx => ?_)]
  · rfl
  · obtain ⟨y, hy, rfl⟩ := List.mem_map.mp hx
    have := (h4.mo y hy).l4
    show y.2.2.2.length ≤ 1000
    omega
theorem fine_two {n : Nat} {d : PyData} (h : fine n d = true) : fine (n + 1) (.list [d, d]) = true := by
  show (decide (2 ≤ 1000) && (fine n d && (fine n d && true))) = true
  rw [h]
  rfl
theorem dp_four {K : PySem.W.Frag} {H : Hp} {t aS aM aB aW : Addr} {nodes firsts : List Str} {as : Arcs} {sw : Sw} (D : PartAt H aS aM aB aW nodes as firsts sw) (e : H t = some (.tup [.ref aS, .ref aM, .ref aB, .ref aW])) : Dp K H (.ref t) (d4 nodes as firsts sw) :=
  .tup (SqT.of e) (.cons (dp_tstr D.hS) (.cons (.tup (SqT.of D.hM) (dpa_pairs D.hP)) (.cons (dp_tstr D.hB) (.cons (.tup (SqT.of D.hW) (dpa_shows D.hH)) .nil))))
theorem mark_tag {sw : Sw} {ts : Tg} (e : sw.map (·.2) = shown ts) (nd : (ts.map (·.1)).Nodup) {x : Str × Addr × List Str} (hx : x ∈ ts) : markOf sw x.1 = x.2.2 := by
  have uniq : ∀ {y : Str × Addr × List Str}, y ∈ ts → y.1 = x.1 → y = x := fun {y} hy q => by
    obtain ⟨i, hi, ei⟩ := List.getElem_of_mem hy
    obtain ⟨j, hj, ej⟩ := List.getElem_of_mem hx
    have z : (ts.map (·.1))[i]'(by rw [List.length_map]; exact hi) = (ts.map (·.1))[j]'(by rw [List.length_map]; exact hj) := by
      rw [List.getElem_map, List.getElem_map, ei, ej]
      exact q
    have ij := (List.getElem_inj nd).mp z
    subst ij
    rw [← ei, ← ej]
  by_cases h : ∃ y ∈ sw, y.2.1 = x.1
  · obtain ⟨y, hy, ey⟩ := h
    unfold markOf
    cases hf : sw.find? (fun y => decide (y.2.1 = x.1)) with
    | none =>
      rw [List.find?_eq_none] at hf
      have := hf y hy
      simp [ey] at this
    | some z =>
      have z1 : z.2.1 = x.1 := of_decide_eq_true (List.find?_some (p := fun y : Addr × (Str × (Addr × List Str)) => decide (y.2.1 = x.1)) hf)
      have z2 : z ∈ sw := List.mem_of_find?_eq_some hf
      have z3 : z.2 ∈ shown ts := by rw [← e]; exact List.mem_map.mpr ⟨z, z2, rfl⟩
      have z4 := uniq (List.mem_filter.mp z3).1 z1
      show z.2.2.2 = x.2.2
      rw [z4]
  · rw [mark_none fun y hy q => h ⟨y, hy, q⟩]
    cases hm : x.2.2 with
    | nil => rfl
    | cons m ms =>
      exfalso
      have z : x ∈ shown ts := List.mem_filter.mpr ⟨hx, by rw [hm]; rfl⟩
      rw [← e] at z
      obtain ⟨y, hy, ey⟩ := List.mem_map.mp z
      exact h ⟨y, hy, by rw [ey]⟩
/-- the states that would have no move -/
def lostL (fs ns : List Str) : List Str := ns.filter fun n => !decide (n ∈ fs)
theorem lostL_app (fs ns : List Str) (x : Str) : lostL fs (ns ++ [x]) = lostL fs ns ++ (if x ∈ fs then [] else [x]) := by
  unfold lostL
  rw [List.filter_append]
  by_cases h : x ∈ fs
  · simp [h]
  · simp [h]
theorem lostL_le (fs ns : List Str) : (lostL fs ns).length ≤ ns.length := List.length_filter_le _ _
theorem lost_still (fs ns : List Str) : stillOf fs ns = (lostL fs ns).head? := by
  unfold stillOf lostL
  exact (List.head?_filter ..).symm
theorem lst_nil (l : List Str) : PyData.eqv (.list (l.map sd)) (.list []) = l.isEmpty := by
  cases l with
  | nil => simp [PyData.eqv, PyData.eqvAll]
  | cons x l => simp [PyData.eqv, PyData.eqvAll]
theorem cutV_one (xs : List V) : cutV xs none (some 1) = xs.take 1 := by
  unfold cutV
  rw [HT.sIx_none, show HT.sIx xs.length xs.length (some 1) = min 1 xs.length from HT.sIx_nat xs.length xs.length 1, List.drop_zero, Nat.sub_zero]
  by_cases h : 1 ≤ xs.length
  · rw [Nat.min_eq_left h]
  · rw [Nat.min_eq_right (by omega), List.take_length, List.take_of_length_le (by omega)]
end Mr

/-! AH -/
set_option Elab.async false
set_option linter.all false
set_option maxRecDepth 100000
set_option maxHeartbeats 2000000
namespace Mr
open PySem PySem.Spec PyProof.Rows L2 TL MrS RZ PySem.W
abbrev sLaw : Stmt := topS 38
abbrev nLaw : List Str := ["_law_script", "_law_k", "_law_box_here", "_law_t", "_law_table_here", "_law_fields", "_law_node", "_law_told_here", "_law_turn", "_law_some", "_law_arcs", "_law_before", "_law_lost", "_law_due", "_law_arc"]
theorem scLaw : FnScope nLaw ["_law_script"] (defScope sLaw) := ⟨rfl, rfl, rfl, by decide +kernel, rfl, by decide +kernel, by decide +kernel⟩
theorem kb_state {K : PySem.W.Frag} {nm qual : Str} {st : Stmt} {f : Addr} {fd : FuncData} (F : Fun K nm qual st f fd)
    (h : ∀ (kV doc pm : Value) (an : Option Addr) (cdv ct : Value) (u v : Value), bindArgs (PySem.W.fnOf nm qual (defArgs st) (defBody st) (defScope st) .none kV doc pm an cdv ct) ⟨[u], [("state" : Str)].zip [v]⟩ = pure ([("self" : Str), ("state" : Str)].zip [u, v])) :
    KBn K fd ["self", "state"] 1 ["state"] (fun us ws => us ++ ws) (fun vs zs => vs ++ zs) := by
  obtain ⟨oc, od, kV, doc, pm, an, cdv, ct, osl, rfl, lk, hcd⟩ := F.ex
  refine ⟨fun s us ws _ l1 l2 => BindsTo.of_eq ?_, fun r1 r2 => r1.append r2⟩
  match us, l1, ws, l2 with
  | [u], _, [v], _ => exact h kV doc pm an cdv ct u v
section
variable {P : Program} {w : World} {K : PySem.W.Frag} {mg : Str → Option Value} {base : Heap}
def spLaw (K : PySem.W.Frag) : Sp := fun vs H Q _ => ∃ (a : Addr) (ns : List Int), vs = [.ref a] ∧ SqL K H a (ns.map V.int) ∧ ns.length ≤ 63 ∧ ∀ H', Q (.bl true) H'
/-- the law's own helpers, by name -/
structure Lws (K : PySem.W.Frag) (mg : Str → Option Value) (C g1 g2 g3 g4 g5 g6 g7 g8 g9 g10 g11 g12 m1 m2 m3 : Addr) (e1 e2 e3 e4 e5 e6 e7 e8 e9 e10 e11 e12 n1 n2 n3 : FuncData) : Prop where
  F1 : Fun K "_law_cell_at" "_law_cell_at" sCell g1 e1
  b1 : Binds K e1 ["_law_script", "_law_k"] []
  q1 : mg "_law_cell_at" = some (.ref g1)
  F2 : Fun K "_law_box" "_law_box" sBox g2 e2
  b2 : Binds K e2 ["_law_script", "_law_k"] []
  q2 : mg "_law_box" = some (.ref g2)
  F3 : Fun K "_law_take" "_law_take" sTake g3 e3
  b3 : Binds K e3 ["_law_box_here", "_law_size"] []
  q3 : mg "_law_take" = some (.ref g3)
  F4 : Fun K "_law_same" "_law_same" sSame g4 e4
  b4 : Binds K e4 ["_law_found", "_law_due"] []
  q4 : mg "_law_same" = some (.ref g4)
  F5 : Fun K "_law_of" "_law_of" sOf g5 e5
  b5 : Binds K e5 ["_law_box_here", "_law_some"] []
  q5 : mg "_law_of" = some (.ref g5)
  F6 : Fun K "_law_names" "_law_names" sNames g6 e6
  b6 : Binds K e6 ["_law_box_here", "_law_size"] []
  q6 : mg "_law_names" = some (.ref g6)
  F7 : Fun K "_law_table" "_law_table" sTable g7 e7
  b7 : Binds K e7 ["_law_box_here", "_law_nodes", "_law_marks"] []
  q7 : mg "_law_table" = some (.ref g7)
  F8 : Fun K "_law_made" "_law_made" sMade g8 e8
  b8 : Binds K e8 ["_law_t"] []
  q8 : mg "_law_made" = some (.ref g8)
  F9 : Fun K "_law_nexts" "_law_nexts" sNexts g9 e9
  b9 : Binds K e9 ["_law_t", "_law_node"] []
  q9 : mg "_law_nexts" = some (.ref g9)
  F10 : Fun K "_law_told" "_law_told" sTold g10 e10
  b10 : Binds K e10 ["_law_table_here", "_law_some", "_law_named"] []
  q10 : mg "_law_told" = some (.ref g10)
  F11 : Fun K "_law_some_moves" "_law_some_moves" sSome g11 e11
  b11 : Binds K e11 ["_law_box_here", "_law_t"] []
  q11 : mg "_law_some_moves" = some (.ref g11)
  F12 : Fun K "_law_alike_right" "_law_alike_right" sAlike g12 e12
  b12 : Binds K e12 ["_law_box_here", "_law_t"] []
  q12 : mg "_law_alike_right" = some (.ref g12)
  M1 : Fun K "marks_of" "Table.marks_of" sMarks m1 n1
  c1 : Binds K n1 ["self", "state"] []
  r1 : Meth K C "marks_of" m1
  M2 : Fun K "next_of" "Table.next_of" sNext m2 n2
  c2 : Binds K n2 ["self", "state"] []
  r2 : Meth K C "next_of" m2
  M3 : Fun K "without" "Table.without" sWithout m3 n3
  c3 : Binds K n3 ["self", "moves"] []
  r3 : Meth K C "without" m3
  zabs : mg "abs" = none
  zint : mg "int" = none
  zran : mg "range" = none
  zsor : mg "sorted" = none
  zset : mg "set" = none
  zmin : mg "min" = none
  zlis : mg "list" = none
  zboo : mg "bool" = none
  zdic : mg "dict" = none
  zrep : mg "repr" = none
  zany : mg "any" = none
theorem ok_law {fP fR fI fN fS fM fV fB fW fX f fIn fE fL fRp C L lI c1 c2 c3 c4 c5 c6 g1 g2 g3 g4 g5 g6 g7 g8 g9 g10 g11 g12 m1 m2 m3 : Addr} {dP dR dI dN dS dM dV dB dW dX fd dIn dE dL dRp e1 e2 e3 e4 e5 e6 e7 e8 e9 e10 e11 e12 n1 n2 n3 : FuncData} (F : Fun K "law" "law" sLaw f fd)
    (W : Lws K mg C g1 g2 g3 g4 g5 g6 g7 g8 g9 g10 g11 g12 m1 m2 m3 e1 e2 e3 e4 e5 e6 e7 e8 e9 e10 e11 e12 n1 n2 n3) (FI : Fun K "__init__" "Table.__init__" sInit fIn dIn) (M : Mk K C fIn) (T : Txt K mg C)
    (Z : Hlp K mg fP fR fI fN fS fM fV fB fW fX dP dR dI dN dS dM dV dB dW dX) (O : Own K mg C fE fL fRp dE dL dRp) (R : Erx K mg L lI c1 c2 c3 c4 c5 c6) : FnOk P w K mg base CX0 9 f fd ["_law_script"] (spLaw K) := by
  have ml := Z.ml
  have mt := Z.mt
  have mr := W.zran
  have GB : FnOk P w K mg base CX0 2 g2 e2 ["_law_script", "_law_k"] (spBox K) := ok_box (k := 0) W.F2 W.F1 W.b1 W.q1 ml W.zabs W.zint
  have GT : FnOk P w K mg base CX0 1 g3 e3 ["_law_box_here", "_law_size"] spTake := ok_take W.F3
  have GS : FnOk P w K mg base CX0 6 g4 e4 ["_law_found", "_law_due"] (spSame K 6) := ok_same W.F4 W.b4 W.q4 Z.mi ml Z.ma Z.mz W.zlis mt W.zboo W.zint 6
  have GN : FnOk P w K mg base CX0 2 g6 e6 ["_law_box_here", "_law_size"] spNames := ok_names W.F6 W.F3 W.b3 W.q3 ml mr
  have GTb : FnOk P w K mg base CX0 3 g7 e7 ["_law_box_here", "_law_nodes", "_law_marks"] (spTable K) := ok_table W.F7 W.F3 W.b3 W.q3 W.F5 W.b5 W.q5 ml mr W.zsor W.zset mt
  have GM : FnOk P w K mg base CX0 7 g8 e8 ["_law_t"] (spMade C) := ok_made W.F8 FI M T Z
  have GX : FnOk P w K mg base CX0 1 g9 e9 ["_law_t", "_law_node"] spNexts := ok_nexts W.F9
  have GTo : FnOk P w K mg base CX0 8 g10 e10 ["_law_table_here", "_law_some", "_law_named"] (spTold K C) := ok_told W.F10 W.M3 W.c3 W.r3 FI M T Z R
  have GSo : FnOk P w K mg base CX0 3 g11 e11 ["_law_box_here", "_law_t"] spSome := ok_some W.F11 W.F3 W.b3 W.q3 W.F5 W.b5 W.q5 ml mr W.zmin W.zlis
  have GA : FnOk P w K mg base CX0 8 g12 e12 ["_law_box_here", "_law_t"] spAlike := ok_alike W.F12 W.F3 W.b3 W.q3 W.F5 W.b5 W.q5 W.F8 W.b8 W.q8 FI M T W.F4 W.b4 W.q4 Z O W.zdic W.zboo W.zrep W.zany W.zlis W.zint
  have G1 : FnOk P w K mg base CX0 1 m1 n1 ["self", "state"] (spMarks C) := ok_marks W.M1 T
  have G2 : FnOk P w K mg base CX0 1 m2 n2 ["self", "state"] (spNext C) := ok_next W.M2 T
  have K1 := kb_state (K := K) W.M1 fun _ _ _ _ _ _ _ _ => rfl
  have K2 := kb_state (K := K) W.M2 fun _ _ _ _ _ _ _ _ => rfl
  refine F.ok scLaw (fun vs H Q E h => ?_) (fun cdv A outer s H vs Q E hr h => ?_)
  · obtain ⟨a, ns, rfl, _⟩ := h
    rfl
  · obtain ⟨a, ns, rfl, hS, hlen, q⟩ := h
    have hu := hu_of hr
    have hr1 : Room 1 _ := hr.mono (by decide)
    have hr2 : Room 2 _ := hr.mono (by decide)
    have hr3 : Room 3 _ := hr.mono (by decide)
    have hr6 : Room 6 _ := hr.mono (by decide)
    have hr7 : Room 7 _ := hr.mono (by decide)
    refine ⟨_, pss_cons (ps_for PassesOwn.never rfl (pi_range1 rfl mr (pa_cons (pe_op op_add pe_int (pe_callB (call_min2 rfl) (by rfl) W.zmin (by decide +kernel) (pa_cons pe_int (pa_cons (pe_callB call_len_seq (by rfl) ml PySem.boot_len (pa_cons (pv 0) pa_nil)) pa_nil)))) pa_nil))
        (pg_name (i := 1) scLaw.nd rfl (.inl rfl))
      (pss_cons (ps_set (i := 2) scLaw.nd rfl (.inl rfl) (pe_call GB hr2 (by rfl) W.q2 W.F2.kp W.b2 .nil pass0 (pa_cons (pv 0) (pa_cons (pv 1) pa_nil))))
      (pss_cons (ps_set (i := 3) scLaw.nd rfl (.inl rfl) (pe_call GTb hr3 (by rfl) W.q7 W.F7.kp W.b7 .nil pass0 (pa_cons (pv 2)
          (pa_cons (pe_call GN hr2 (by rfl) W.q6 W.F6.kp W.b6 .nil pass0 (pa_cons (pv 2) (pa_cons (pe_op op_add pe_int (pe_call GT hr1 (by rfl) W.q3 W.F3.kp W.b3 .nil pass0 (pa_cons (pv 2) (pa_cons pe_int pa_nil)))) pa_nil)))
          (pa_cons (pe_call GN hr2 (by rfl) W.q6 W.F6.kp W.b6 .nil pass0 (pa_cons (pv 2) (pa_cons (pe_op op_add pe_int (pe_call GT hr1 (by rfl) W.q3 W.F3.kp W.b3 .nil pass0 (pa_cons (pv 2) (pa_cons pe_int pa_nil)))) pa_nil))) pa_nil)))))
      (pss_cons (ps_set (i := 4) scLaw.nd rfl (.inl rfl) (pe_call GM hr7 (by rfl) W.q8 W.F8.kp W.b8 .nil pass0 (pa_cons (pv 3) pa_nil)))
      (pss_cons (ps_set (i := 5) scLaw.nd rfl (.inl rfl) (pe_tup (pa_cons (pe_fld (pv 4) rfl) (pa_cons (pe_fld (pv 4) rfl) (pa_cons (pe_fld (pv 4) rfl) (pa_cons (pe_fld (pv 4) rfl) pa_nil))))))
      (pss_cons (ps_if (pt_not (pt_val (pe_call GA hr (by rfl) W.q12 W.F12.kp W.b12 .nil pass0 (pa_cons (pv 2) (pa_cons (pv 3) pa_nil))))) (pss_one (ps_ret pe_bl)) pss_nil)
      (pss_cons (ps_cut (ps_for PassesOwn.never rfl (pi_list (pe_dget hu (pv 3) pe_str (fun _ _ => rfl))) (pg_name (i := 6) scLaw.nd rfl (.inl rfl))
        (pss_cons (ps_set (i := 7) scLaw.nd rfl (.inl rfl) (pe_lst (pa_cons (pe_meth (pv 4) T.cl W.r1 G1 hr1 W.c1 .nil pass0 (pa_cons (pv 6) pa_nil)) (pa_cons (pe_meth (pv 4) T.cl W.r2 G2 hr1 W.c2 .nil pass0 (pa_cons (pv 6) pa_nil))
            (pa_cons (pe_methK (pv 4) T.cl W.r2 G2 hr1 K2 at0 (pk_cons (pv 6) pk_nil)) (pa_cons (pe_methK (pv 4) T.cl W.r1 G1 hr1 K1 at0 (pk_cons (pv 6) pk_nil)) pa_nil))))))
        (pss_cons (ps_if (pt_not (pt_val (pe_call GS hr6 (by rfl) W.q4 W.F4.kp W.b4 .nil pass0 (pa_cons (pv 7) (pa_cons (pe_lst (pa_cons (pe_dget hu (pe_dget hu (pv 3) pe_str (fun _ _ => rfl)) (pv 6) (fun _ _ => rfl))
            (pa_cons (pe_call GX hr1 (by rfl) W.q9 W.F9.kp W.b9 .nil pass0 (pa_cons (pv 3) (pa_cons (pv 6) pa_nil))) (pa_cons (pe_call GX hr1 (by rfl) W.q9 W.F9.kp W.b9 .nil pass0 (pa_cons (pv 3) (pa_cons (pv 6) pa_nil)))
            (pa_cons (pe_dget hu (pe_dget hu (pv 3) pe_str (fun _ _ => rfl)) (pv 6) (fun _ _ => rfl)) pa_nil))))) pa_nil))))) (pss_one (ps_ret pe_bl)) pss_nil)
        (pss_cons (ps_expr (pe_bm PySem.F.plainAttrs_list PySem.F.slot_list_append PySem.F.type_list_append mt_append (pe_ix ix_list (pv 7) pe_int (fun _ _ => rfl)) (pa_cons pe_str pa_nil)))
        (pss_cons (ps_expr (pe_bm0 PySem.F.plainAttrs_list PySem.F.slot_list_reverse PySem.F.type_list_reverse mt_reverse (pe_ix ix_list (pv 7) pe_int (fun _ _ => rfl))))
        (pss_one (ps_if (pt_not (pt_val (pe_call GS hr6 (by rfl) W.q4 W.F4.kp W.b4 .nil pass0 (pa_cons (pe_meth (pv 4) T.cl W.r2 G2 hr1 W.c2 .nil pass0 (pa_cons (pv 6) pa_nil))
            (pa_cons (pe_call GX hr1 (by rfl) W.q9 W.F9.kp W.b9 .nil pass0 (pa_cons (pv 3) (pa_cons (pv 6) pa_nil))) pa_nil))))) (pss_one (ps_ret pe_bl)) pss_nil))))))))
      (pss_one (ps_for PassesOwn.never rfl (pi_range1 rfl mr (pa_cons pe_int pa_nil)) (pg_name (i := 8) scLaw.nd rfl (.inl rfl))
        (pss_cons (ps_set (i := 9) scLaw.nd rfl (.inr rfl) (pe_call GSo hr3 (by rfl) W.q11 W.F11.kp W.b11 .nil pass0 (pa_cons (pv 2) (pa_cons (pv 3) pa_nil))))
        (pss_cons (ps_asg (pe_tup (pa_cons (pe_lc (own := [("_law_arc", 14)]) (g := gName 14) rfl scLaw.nd (pi_list (pe_dget hu (pv 3) pe_str (fun _ _ => rfl))) (blkOk_by (own := [("_law_arc", 14)]) (N := nLaw) (sc := defScope sLaw) (by decide +kernel))
              (fun _ _ _ _ _ => pg_name (i := 14) scLaw.nd rfl (.inl rfl)) (fun _ _ _ _ _ => pts_one (pt_cmpR (op_notInP K (hu64 hr)) (pv 14) (pv 9) (by rfl))) (fun _ _ _ _ _ => pv 14))
            (pa_cons (pe_callTy call_list_of (by rfl) W.zlis (by decide +kernel) (pa_cons (pv 9) pa_nil)) pa_nil)))
          (pg_tup rfl (pgs_cons (pg_name (i := 10) scLaw.nd rfl (.inr rfl)) (pgs_cons (pg_name (i := 11) scLaw.nd rfl (.inl rfl)) pgs_nil))))
        (pss_cons (ps_setLc (i := 12) (own := [("_law_node", 6)]) (g := gName 6) rfl scLaw.nd rfl rfl (sw_true rfl rfl rfl (by decide +kernel)) (pi_list (pe_dget hu (pv 3) pe_str (fun _ _ => rfl)))
            (blkOk_by (own := [("_law_node", 6)]) (N := nLaw) (sc := defScope sLaw) (by decide +kernel)) (fun _ _ _ _ _ => pg_name (i := 6) scLaw.nd rfl (.inl rfl))
            (fun _ _ _ _ _ => pts_one (pt_cmpR (op_ninK K) (pv 6) (pe_lc (own := [("_law_arc", 14)]) (g := gName 14) (tt := tYes) rfl scLaw.nd (pi_listK K (pv 10))
              (blkOk_by (own := [("_law_arc", 14)]) (by kernel_rfl)) (fun _ _ _ _ _ => pg_name (i := 14) scLaw.nd rfl (.inl rfl)) (fun _ _ _ _ _ => pts_nil)
              (fun _ _ _ _ _ => pe_ix (ix_tupK K) (pv 14) pe_int (fun _ _ => rfl))) (by rfl))) (fun _ _ _ _ _ => pv 6))
        (pss_cons (ps_cut (ps_set (i := 13) scLaw.nd rfl (.inl rfl) (pe_ifExp (pt_cmpR (op_eqP K (hu64 hr)) (pv 12) (pe_lst pa_nil) (nomark _))
            (pe_op op_catA (pe_tup (pa_cons (pe_ix ix_tup (pv 5) pe_int (fun _ _ => rfl)) (pa_cons (pe_callTy call_tuple_of (by rfl) mt (by decide +kernel) (pa_cons (pv 10) pa_nil)) pa_nil))) (pe_slice sl_tupA (pv 5) (po_some pe_int) po_none))
            (pe_slice sl_list (pv 12) po_none (po_some pe_int)))))
        (pss_cons (ps_set (i := 7) scLaw.nd rfl (.inl rfl) (pe_lst (pa_cons (pe_call GTo hr (by rfl) W.q10 W.F10.kp W.b10 .nil pass0 (pa_cons (pv 4) (pa_cons (pv 9) (pa_cons pe_bl pa_nil))))
            (pa_cons (pe_call GTo hr (by rfl) W.q10 W.F10.kp W.b10 .nil pass0 (pa_cons (pv 4) (pa_cons (pe_callTy call_tuple_of (by rfl) mt (by decide +kernel) (pa_cons (pv 9) pa_nil)) (pa_cons pe_bl pa_nil)))) pa_nil))))
        (pss_cons (ps_if (PW.pt (pw_or (pt_not (pt_val (pe_call GS hr6 (by rfl) W.q4 W.F4.kp W.b4 .nil pass0 (pa_cons (pv 7) (pa_cons (pe_lst (pa_cons (pv 13) (pa_cons (pv 13) pa_nil))) pa_nil)))))
            (pw_or1 (pt_cmpR (op_neP K (hu64 hr)) (pv 9) (pv 11) (nomark _))))) (pss_one (ps_ret pe_bl)) pss_nil)
        (pss_one (ps_if (pt_not (pt_val (pe_call GS hr6 (by rfl) W.q4 W.F4.kp W.b4 .nil pass0 (pa_cons (pe_tup (pa_cons (pe_fld (pv 4) rfl) (pa_cons (pe_fld (pv 4) rfl) (pa_cons (pe_fld (pv 4) rfl) (pa_cons (pe_fld (pv 4) rfl) pa_nil)))))
            (pa_cons (pv 5) pa_nil))))) (pss_one (ps_ret pe_bl)) pss_nil)))))))))))))))))
      (pss_one (ps_ret pe_bl)), ?_⟩
    refine ⟨_, rfl, a, _, rfl, .inl hS, _, _, rfl, _, _, rfl, rfl, ?_⟩
    rw [List.length_map]
    obtain ⟨m, hm⟩ : ∃ m : Int, 1 + (if ((ns.length : Nat) : Int) < 7 then ((ns.length : Nat) : Int) else 7) = m := ⟨_, rfl⟩
    have m1 : 1 ≤ m := by rw [← hm]; split <;> omega
    have m8 : m ≤ 8 := by rw [← hm]; split <;> omega
    refine ⟨m, by rw [← hm], by omega, by omega, for_range (lo := 0) (n := m.toNat) (fun i σ H7 => ∃ y1 y2 y3 y4 y5 y6 y7 y8 y9 y10 y11 y12 y13 y14 : Option V, σ = [some (.ref a), y1, y2, y3, y4, y5, y6, y7, y8, y9, y10, y11, y12, y13, y14] ∧ SqL K H7 a (ns.map V.int))
      ⟨_, _, _, _, _, _, _, _, _, _, _, _, _, _, rfl, hS⟩ ?_ (fun σ H7 _ => q H7)⟩
    rintro i σ H7 hi ⟨y1, y2, y3, y4, y5, y6, y7, y8, y9, y10, y11, y12, y13, y14, rfl, hS7⟩
    refine ⟨_, rfl, _, rfl, a, ns, i, by rw [Int.zero_add]; rfl, hS7, by omega, fun b H8 hbn keep hb => ?_⟩
    have s8 : Same H7 H8 := keep
    -- the names, the table
    refine ⟨_, rfl, _, rfl, _, rfl, b, 8, 0, rfl, hb, by decide, by decide, by decide, by decide, fun r1 c1 H9 r10 r11 c1a c1b hb1 k1 ke1 => ⟨_, _, rfl, rfl, ?_⟩⟩
    obtain ⟨j1, rfl⟩ := Int.eq_ofNat_of_zero_le r10
    refine ⟨b, 1 + j1, c1, (by show [V.ref b, V.int (1 + (j1 : Int))] = [V.ref b, V.int ((1 + j1 : Nat) : Int)]; rw [show (1 : Int) + (j1 : Int) = ((1 + j1 : Nat) : Int) by omega]), hb1, by omega, by omega, by omega, fun p1 xs1 c2 H10 hp1 len1 nd1 is1 ex1 c2a c2b hb2 k2 => ?_⟩
    refine ⟨_, rfl, _, rfl, b, 5, c2, rfl, hb2, by omega, by omega, by decide, by decide, fun r2 c3 H11 r20 r21 c3a c3b hb3 k3 ke3 => ⟨_, _, rfl, rfl, ?_⟩⟩
    obtain ⟨j2, rfl⟩ := Int.eq_ofNat_of_zero_le r20
    refine ⟨b, 1 + j2, c3, (by show [V.ref b, V.int (1 + (j2 : Int))] = [V.ref b, V.int ((1 + j2 : Nat) : Int)]; rw [show (1 : Int) + (j2 : Int) = ((1 + j2 : Nat) : Int) by omega]), hb3, by omega, by omega, by omega, fun p2 xs2 c4 H12 hp2 len2 nd2 is2 ex2 c4a c4b hb4 k4 => ?_⟩
    have ex1' : H12 p1 = some (.lst (xs1.map V.str)) := (k3.trans k4) _ _ (txt_ne hb2 ex1) ex1
    refine ⟨b, p1, p2, c4, xs1, xs2, rfl, hb4, by omega, by omega, ex1', ex2, by omega, by omega, nd1, is1, by omega, nd2, is2, fun D t aN aA aF aG as ts c5 H13 hD ok B c5a c5b hb5 k5 => ?_⟩
    have k13 : Kp b H8 H13 := (((k1.trans k2).trans k3).trans k4).trans k5
    refine ⟨_, rfl, D, t, aN, aA, aF, aG, as, ts, rfl, ok, B, fun p aS aM aB aW sw H14 hp14 s14 o14 e14 => ?_⟩
    obtain ⟨dx, i14⟩ := o14.ob
    refine ⟨_, rfl, p, C, dx, _, _, rfl, i14, T.cl, T.nS, lkS, _, rfl, p, C, dx, _, _, rfl, i14, T.cl, T.nM, lkM, _, rfl, p, C, dx, _, _, rfl, i14, T.cl, T.nB, lkB, _, rfl, p, C, dx, _, _, rfl, i14, T.cl, T.nW, lkW, (by show 4 ≤ sizeLine; decide), fun Fl hFl => ?_⟩
    have s15 := s14.trans (same_upd (o := .tup [.ref aS, .ref aM, .ref aB, .ref aW]) hFl)
    have o15 := o14.same (same_upd (o := .tup [.ref aS, .ref aM, .ref aB, .ref aW]) hFl)
    have eF15 : (upd H14 Fl (.tup [.ref aS, .ref aM, .ref aB, .ref aW])) Fl = some (.tup [.ref aS, .ref aM, .ref aB, .ref aW]) := upd_same
    have B15 := B.same s15
    have hb15 : Bx (upd H14 Fl (.tup [.ref aS, .ref aM, .ref aB, .ref aW])) b c5 := by
      obtain ⟨x1, z1, q1, w1⟩ := hb5
      exact ⟨x1, z1, s15 _ _ q1, w1⟩
    have k15 := k13.trans (Kp.same (b := b) s15)
    generalize upd H14 Fl (.tup [.ref aS, .ref aM, .ref aB, .ref aW]) = H15 at s15 o15 eF15 B15 hb15 k15 ⊢
    refine ⟨_, rfl, _, rfl, b, D, t, aN, aA, aF, aG, as, ts, c5, rfl, hb15, by omega, by omega, ok, B15, fun c6 H16 c6a c6b hb6 k16 => ⟨_, rfl, iteF ?_⟩⟩
    have o16 := o15.keep hb15 k16
    have B16 := B15.keep hb15 k16
    have eF16 := k16 _ _ (ho_ne hb15 eF15 fun xs e => nomatch e) eF15
    have k816 := k15.trans k16
    have hS16 : SqL K H16 a (ns.map V.int) := by
      rcases hS7 with h | h
      · have nab : a ≠ b := by
          rcases h with h | ⟨o, h⟩
          · exact ne_of_none h hbn
          · exact ne_of_none h hbn
        refine .inl (k816.rd nab ?_)
        rcases h with h | ⟨o, h⟩
        · exact .inl (s8 _ _ h)
        · exact .inr ⟨o, s8 _ _ h⟩
      · exact .inr h
    have n8 := ok.n8
    have n1' := ok.n1
    have nmT : ts.map (·.1) = t.nodes := by
      rw [← ok.ts, ← B.mG, List.map_map]
      rfl
    have ndT : (ts.map (·.1)).Nodup := by rw [nmT]; exact ok.nu.nodup
    have a24 : as.length ≤ 24 := by
      have z := ok.a24
      rw [← B.mA, List.length_map] at z
      exact z
    have pok : PartOk t.nodes as t.firsts sw := ob_ok ok B.mA B.mG e14
    -- each state
    refine ⟨fun σ' H' => ∃ y6 y7 : Option V, σ' = [some (.ref a), some (.int (0 + i)), some (.ref b), some (.ref D), some (.ref p), some (.ref Fl), y6, y7, y8, y9, y10, y11, y12, y13, y14] ∧ Kp b H16 H' ∧ Bx H' b c6, ?_, ?_⟩
    · refine ⟨_, rfl, D, _, rfl, getN B16.hT, aN, rfl, ⟨_, SqL.of B16.hN⟩, for_list (K := K) (a := aN) (xs := t.nodes.map V.str) (fun j σ H17 => ∃ z6 z7 : Option V, σ = [some (.ref a), some (.int (0 + i)), some (.ref b), some (.ref D), some (.ref p), some (.ref Fl), z6, z7, y8, y9, y10, y11, y12, y13, y14] ∧ Kp b H16 H17 ∧ Bx H17 b c6)
        ⟨y6, y7, rfl, Kp.refl, hb6⟩ (fun j σ H17 _ ⟨_, _, _, k17, _⟩ => SqL.of (k17 _ _ (txt_ne hb6 B16.hN) B16.hN)) ?_ (fun σ H17 h => h)⟩
      rintro j v σ H17 hj ⟨z6, z7, rfl, k17, hb17⟩
      obtain ⟨nd, hnd, rfl⟩ := str_at hj
      have mnd := List.mem_of_getElem? hnd
      have B17 := B16.keep hb6 k17
      have o17 := o16.keep hb6 k17
      obtain ⟨dy, i17⟩ := o17.ob
      obtain ⟨x, hx, ex⟩ : ∃ x ∈ ts, x.1 = nd := by
        rw [← nmT] at mnd
        obtain ⟨x, h1, h2⟩ := List.mem_map.mp mnd
        exact ⟨x, h1, h2⟩
      have vx : valV (ts.map tagE) (.inr nd) = some (.ref x.2.1) := by rw [← ex]; exact val_tag ndT hx
      have mk : markOf sw nd = x.2.2 := by rw [← ex]; exact mark_tag e14 ndT hx
      have lm : x.2.2.length ≤ 1000 := by
        have := (ok.tm (x.1, x.2.2) (by rw [← B.mG]; exact List.mem_map.mpr ⟨x, hx, rfl⟩)).2.1
        exact Nat.le_trans this (by decide)
      have ln : (nextL as nd).length ≤ 1000 := Nat.le_trans (nextL_le as nd) (by omega)
      have noM : (fldsT aS aM aB aW).lookup ("marks_of" : Str) = none := lkNo (by decide +kernel) (by decide +kernel) (by decide +kernel) (by decide +kernel)
      have noN : (fldsT aS aM aB aW).lookup ("next_of" : Str) = none := lkNo (by decide +kernel) (by decide +kernel) (by decide +kernel) (by decide +kernel)
      refine ⟨_, rfl, p, dy, _, rfl, i17, noM, _, rfl, p, aS, aM, aB, aW, t.nodes, as, t.firsts, sw, nd, rfl, o17, fun v1 Ha sa ea => ?_⟩
      refine ⟨_, rfl, p, dy, _, rfl, sa _ _ i17, noN, _, rfl, p, aS, aM, aB, aW, t.nodes, as, t.firsts, sw, nd, rfl, o17.same sa, by omega, fun v2 Hb hv2 sb eb => ?_⟩
      have sab := sa.trans sb
      refine ⟨_, rfl, p, dy, _, rfl, sab _ _ i17, noN, _, rfl, rfl, p, aS, aM, aB, aW, t.nodes, as, t.firsts, sw, nd, rfl, o17.same sab, by omega, fun v3 Hc hv3 sc ec => ?_⟩
      have sac := sab.trans sc
      refine ⟨_, rfl, p, dy, _, rfl, sac _ _ i17, noM, _, rfl, rfl, p, aS, aM, aB, aW, t.nodes, as, t.firsts, sw, nd, rfl, o17.same sac, fun v4 Hd sd' ed => ⟨(by show 4 ≤ sizeLine; decide), fun Lt hLt => ?_⟩⟩
      have se := same_upd (o := .lst [.ref v1, .ref v2, .ref v3, .ref v4]) hLt
      have eLt : (upd Hd Lt (.lst [.ref v1, .ref v2, .ref v3, .ref v4])) Lt = some (.lst [.ref v1, .ref v2, .ref v3, .ref v4]) := upd_same
      rw [mk] at ea ed
      have sde := sd'.trans se
      have ea' := (sb.trans (sc.trans sde)) _ _ ea
      have eb' := (sc.trans sde) _ _ eb
      have ec' := sde _ _ ec
      have ed' := se _ _ ed
      have sae := sac.trans sde
      have nvL : v2 ≠ Lt := ne_of_none ((sc.trans sd') _ _ eb) hLt
      generalize upd Hd Lt (.lst [.ref v1, .ref v2, .ref v3, .ref v4]) = He at se eLt sde ea' eb' ec' ed' sae ⊢
      have Be := B17.same sae
      have dg : ∀ H', Same H17 H' → DGet H' aG (.str nd) (some (.ref x.2.1)) := fun H' s => by
        rw [← vx]
        exact DGet.k (k := .inr nd) (s _ _ B17.hG)
      refine ⟨_, rfl, _, rfl, D, _, rfl, getG Be.hT, _, rfl, aG, _, rfl, dg _ sae, ?_⟩
      refine ⟨_, rfl, _, rfl, D, aA, nd, as, rfl, getA Be.hT, Be.hA, Be.eA, by omega, fun H' s => getA (s _ _ Be.hT), fun w2 Hf hw2 sf ef => ?_⟩
      have saf := sae.trans sf
      have Bf := B17.same saf
      refine ⟨_, rfl, _, rfl, D, aA, nd, as, rfl, getA Bf.hT, Bf.hA, Bf.eA, by omega, fun H' s => getA (s _ _ Bf.hT), fun w3 Hg hw3 sg eg => ?_⟩
      have sag := saf.trans sg
      have Bg := B17.same sag
      refine ⟨_, rfl, D, _, rfl, getG Bg.hT, _, rfl, aG, _, rfl, dg _ sag, (by show 4 ≤ sizeLine; decide), fun Ld hLd => ?_⟩
      have sh := same_upd (o := .lst [.ref x.2.1, .ref w2, .ref w3, .ref x.2.1]) hLd
      have eLd : (upd Hg Ld (.lst [.ref x.2.1, .ref w2, .ref w3, .ref x.2.1])) Ld = some (.lst [.ref x.2.1, .ref w2, .ref w3, .ref x.2.1]) := upd_same
      have sfh := (sf.trans sg).trans sh
      have ef' := (sg.trans sh) _ _ ef
      have eg' := sh _ _ eg
      have sah := sae.trans sfh
      generalize upd Hg Ld (.lst [.ref x.2.1, .ref w2, .ref w3, .ref x.2.1]) = Hh at sh eLd sfh ef' eg' sah ⊢
      have ex' := sah _ _ (B17.eG x hx)
      refine ⟨.ref Lt, .ref Ld, .list [.tuple (x.2.2.map sd), .list ((nextL as nd).map sd), .list ((nextL as nd).map sd), .tuple (x.2.2.map sd)], rfl,
        .lst (SqL.of (sfh _ _ eLt)) (.cons (dp_tstr (sfh _ _ ea')) (.cons (.lst (SqL.of (sfh _ _ eb')) (dpa_strs _)) (.cons (.lst (SqL.of (sfh _ _ ec')) (dpa_strs _)) (.cons (dp_tstr (sfh _ _ ed')) .nil)))),
        .lst (SqL.of eLd) (.cons (dp_tstr ex') (.cons (.lst (SqL.of ef') (dpa_strs _)) (.cons (.lst (SqL.of eg') (dpa_strs _)) (.cons (dp_tstr ex') .nil)))), ?_, fun Hz sz => ⟨_, rfl, iteF ?_⟩⟩
      · show (decide (4 ≤ 1000) && (fine 4 (.tuple (x.2.2.map sd)) && (fine 4 (.list ((nextL as nd).map sd)) && (fine 4 (.list ((nextL as nd).map sd)) && (fine 4 (.tuple (x.2.2.map sd)) && true))))) = true
        rw [(fine_strs 3 lm).1, (fine_strs 3 ln).2]
        rfl
      -- the list told is the asker's own
      have sfz := sfh.trans sz
      have eLz := sfz _ _ eLt
      have ebz := sfz _ _ eb'
      have saz := sah.trans sz
      have zv2 : H16 v2 = none := k17.free hb17 (sa.free hv2)
      have nvb : v2 ≠ b := fun z => hb17.ne (sa.free hv2) z.symm
      have kz : Kp b H16 Hz := k17.trans (Kp.same saz)
      have hbz : Bx Hz b c6 := by
        obtain ⟨x1, w1, q1, r1⟩ := hb17
        exact ⟨x1, w1, saz _ _ q1, r1⟩
      refine ⟨_, rfl, Lt, _, 1, .ref v2, rfl, rfl, SqL.of eLz, rfl, .inl ⟨rfl, _, SqL.of ebz⟩, v2, _, _, rfl, rfl, ebz, by rw [List.length_map]; exact lt_line ln, ?_⟩
      refine ⟨_, rfl, Lt, _, 1, .ref v2, rfl, rfl, SqL.of (by rw [upd_ne nvL.symm]; exact eLz), rfl, .inl ⟨rfl, _, SqL.of upd_same⟩, v2, _, rfl, rfl, upd_same, ?_⟩
      have km := (kz.up (o := .lst ((nextL as nd).map V.str ++ [V.str (Str.ofString "more")])) zv2).up (o := .lst ((nextL as nd).map V.str ++ [V.str (Str.ofString "more")]).reverse) zv2
      have hbm := (hbz.up (o := .lst ((nextL as nd).map V.str ++ [V.str (Str.ofString "more")])) nvb.symm).up (o := .lst ((nextL as nd).map V.str ++ [V.str (Str.ofString "more")]).reverse) nvb.symm
      generalize upd (upd Hz v2 (.lst ((nextL as nd).map V.str ++ [V.str (Str.ofString "more")]))) v2 (.lst ((nextL as nd).map V.str ++ [V.str (Str.ofString "more")]).reverse) = Hm at km hbm ⊢
      have Bm := B16.keep hb6 km
      have om := o16.keep hb6 km
      obtain ⟨dm, im⟩ := om.ob
      refine ⟨_, rfl, p, dm, _, rfl, im, noN, _, rfl, p, aS, aM, aB, aW, t.nodes, as, t.firsts, sw, nd, rfl, om, by omega, fun v5 Hn hv5 sn en => ?_⟩
      have Bn := Bm.same sn
      refine ⟨_, rfl, _, rfl, D, aA, nd, as, rfl, getA Bn.hT, Bn.hA, Bn.eA, by omega, fun H' s => getA (s _ _ Bn.hT), fun w5 Ho hw5 so eo => ?_⟩
      refine ⟨.ref v5, .ref w5, .list ((nextL as nd).map sd), rfl, .lst (SqL.of (so _ _ en)) (dpa_strs _), .lst (SqL.of eo) (dpa_strs _), (fine_strs 4 ln).2, fun Hq sq => ⟨_, rfl, iteF ⟨_, _, rfl, km.trans (Kp.same ((sn.trans so).trans sq)), ?_⟩⟩⟩
      obtain ⟨x1, w1, q1, r1⟩ := hbm
      exact ⟨x1, w1, ((sn.trans so).trans sq) _ _ q1, r1⟩
    · rintro σ H17 ⟨y6, y7, rfl, k17, hb17⟩
      have hSk : ∀ {H' : Hp}, Kp b H8 H' → SqL K H' a (ns.map V.int) := fun {H'} kk => by
        rcases hS7 with h | h
        · have nab : a ≠ b := by
            rcases h with h | ⟨o, h⟩
            · exact ne_of_none h hbn
            · exact ne_of_none h hbn
          refine .inl (kk.rd nab ?_)
          rcases h with h | ⟨o, h⟩
          · exact .inl (s8 _ _ h)
          · exact .inr ⟨o, s8 _ _ h⟩
        · exact .inr h
      refine ⟨8, rfl, by decide, by decide, for_range (lo := 0) (n := 8) (fun j σ H18 => ∃ (z6 z7 z8 z9 z10 z11 z12 z13 z14 : Option V) (c7 : Int), σ = [some (.ref a), some (.int (0 + i)), some (.ref b), some (.ref D), some (.ref p), some (.ref Fl), z6, z7, z8, z9, z10, z11, z12, z13, z14] ∧ Kp b H16 H18 ∧ Bx H18 b c7 ∧ c6 ≤ c7 ∧ c7 ≤ c6 + 20 * j)
        ⟨_, _, _, _, _, _, _, _, _, c6, rfl, k17, hb17, Int.le_refl _, by omega⟩ ?_ (fun σ H18 ⟨z6, z7, z8, z9, z10, z11, z12, z13, z14, c7, e, k18, _⟩ => ⟨_, _, _, _, _, _, _, _, _, _, _, _, _, _, e, hSk (k816.trans k18)⟩)⟩
      rintro j σ H18 hj ⟨z6, z7, z8, z9, z10, z11, z12, z13, z14, c7, rfl, k18, hb18, c7a, c7b⟩
      have B18 := B16.keep hb6 k18
      refine ⟨_, rfl, _, rfl, b, D, t, aN, aA, aF, aG, as, ts, c7, rfl, hb18, by omega, by omega, ok, B18, fun l bs c8 H19 hl lin l48 el c8a c8b hb19 k19 => ?_⟩
      have k1619 := k18.trans k19
      have B19 := B16.keep hb6 k1619
      have o19 := o16.keep hb6 k1619
      have P19 : PairsAt H19 as := B19.eA
      have Pb19 : PairsAt H19 bs := fun y hy => B19.eA y (lin y hy)
      have eF19 := k1619 _ _ (ho_ne hb6 eF16 fun xs e => nomatch e) eF16
      -- the arcs that stay, the moves as they were
      refine ⟨_, rfl, D, _, rfl, getA B19.hT, aA, rfl, ⟨_, SqL.of B19.hA⟩, fun R hR => lc_list (K := K) (a := aA) (xs := refs as) (fun i H4 => Same H19 H4 ∧ H4 R = some (.lst (refs (keptOf (as.take i) bs)))) ⟨same_upd hR, upd_same⟩ (fun i H4 _ ⟨s4, _⟩ => SqL.of (s4 _ _ B19.hA)) ?_ ?_⟩
      · rintro i2 v H4 hi ⟨s4, e4⟩
        obtain ⟨y, hy, rfl⟩ := at_refs hi
        have il : i2 < as.length := (List.getElem?_eq_some_iff.mp hy).1
        have sm : (keptOf (as.take i2) bs).length ≤ 1000 := Nat.le_trans (kept_le _ _) (by rw [List.length_take]; omega)
        refine ⟨rfl, _, rfl, _, rfl, y.1, l, y.2, bs, rfl, rfl, s4 _ _ (P19 y (List.mem_of_getElem? hy)), .inl (SqL.of (s4 _ _ el)), Pb19.same s4, _, rfl, ?_⟩
        rw [take_next hy, kept_app, if_pos rfl]
        by_cases e : y.2 ∈ bs.map (·.2)
        · rw [decide_eq_true e]
          refine iteF ⟨s4, ?_⟩
          rw [if_pos e, List.append_nil]
          exact e4
        · rw [decide_eq_false e]
          refine iteT ⟨_, rfl, _, e4, by rw [show (refs (keptOf (as.take i2) bs)).length = (keptOf (as.take i2) bs).length from List.length_map _]; exact lt_line sm, same_put s4 hR, ?_⟩
          rw [upd_same, if_neg e, refs_app]
          rfl
      rintro H4 ⟨s4, e4⟩
      rw [show (refs as).length = as.length from List.length_map _, List.take_length] at e4
      refine ⟨_, rfl, l, _, rfl, .inl (SqL.of (s4 _ _ el)), fun Bf hBf => ?_⟩
      have s5a := same_upd (o := .lst (refs bs)) hBf
      have s5 := s4.trans s5a
      have eB5 : (upd H4 Bf (.lst (refs bs))) Bf = some (.lst (refs bs)) := upd_same
      have eR5 := s5a _ _ e4
      generalize upd H4 Bf (.lst (refs bs)) = H5 at s5 eB5 eR5 ⊢
      clear s5a
      refine ⟨(by show 2 ≤ sizeLine; decide), fun tp htp => ⟨tp, [.ref R, .ref Bf], rfl, .inl (.inl upd_same), rfl, .ref R, [.ref Bf], rfl, .ref Bf, [], rfl, rfl, ?_⟩⟩
      have s6a := same_upd (o := .tup [V.ref R, .ref Bf]) htp
      have s6 := s5.trans s6a
      have eB6 := s6a _ _ eB5
      have eR6 := s6a _ _ eR5
      generalize upd H5 tp (.tup [V.ref R, .ref Bf]) = H6 at s6 eB6 eR6 ⊢
      clear s6a s5 eB5 eR5 htp hBf s4 e4 hR
      have B6 := B19.same s6
      have lk := kept_le as bs
      have P6 : PairsAt H6 (keptOf as bs) := fun y hy => B6.eA y ((kept_sub as bs).subset hy)
      have lkr : (refs (keptOf as bs)).length = (keptOf as bs).length := List.length_map _
      -- the states that would have no move
      refine ⟨_, rfl, D, _, rfl, getN B6.hT, aN, rfl, ⟨_, SqL.of B6.hN⟩, fun R2 hR2 => lc_list (K := K) (a := aN) (xs := t.nodes.map V.str) (fun i H7 => Same H6 H7 ∧ H7 R2 = some (.lst ((lostL (fsts (keptOf as bs)) (t.nodes.take i)).map V.str)))
        ⟨same_upd hR2, upd_same⟩ (fun i H7 _ ⟨s7, _⟩ => SqL.of (s7 _ _ B6.hN)) ?_ ?_⟩
      · rintro i2 v H7 hi ⟨s7, e7⟩
        obtain ⟨n, hn, rfl⟩ := str_at hi
        have il : i2 < t.nodes.length := (List.getElem?_eq_some_iff.mp hn).1
        refine ⟨rfl, _, rfl, _, rfl, R, rfl, ⟨_, SqL.of (s7 _ _ eR6)⟩, fun R3 hR3 => lc_list (K := K) (a := R) (xs := refs (keptOf as bs)) (fun i H6' => Same H7 H6' ∧ H6' R3 = some (.lst ((fsts ((keptOf as bs).take i)).map V.str))) ⟨same_upd hR3, upd_same⟩ (fun i H6' _ ⟨s6', _⟩ => SqL.of (s6' _ _ (s7 _ _ eR6))) ?_ ?_⟩
        · rintro i3 v H6' hi3 ⟨s6', e6'⟩
          obtain ⟨y, hy, rfl⟩ := at_refs hi3
          have il3 : i3 < (keptOf as bs).length := (List.getElem?_eq_some_iff.mp hy).1
          refine ⟨rfl, lcYes ⟨_, rfl, y.1, _, 0, .str y.2.1, rfl, rfl, SqT.of (s6' _ _ (s7 _ _ (P6 y (List.mem_of_getElem? hy)))), rfl, _, e6', by rw [List.length_map, List.length_map, List.length_take]; exact lt_line (by omega), same_put s6' hR3, ?_⟩⟩
          rw [upd_same, take_next hy]
          unfold fsts
          rw [List.map_append, List.map_append]
          rfl
        · rintro H6' ⟨s6', e6'⟩
          rw [lkr, List.take_length] at e6'
          have sm : (lostL (fsts (keptOf as bs)) (t.nodes.take i2)).length ≤ 1000 := Nat.le_trans (lostL_le _ _) (by rw [List.length_take]; omega)
          refine ⟨R3, _, rfl, .inl (SqL.of e6'), rfl, flat_strs _, ?_⟩
          rw [if_pos rfl, in_strs, take_next hn, lostL_app]
          by_cases e : n ∈ fsts (keptOf as bs)
          · rw [decide_eq_true e]
            refine ⟨_, rfl, iteF ⟨s7.trans s6', ?_⟩⟩
            rw [if_pos e, List.append_nil]
            exact s6' _ _ e7
          · rw [decide_eq_false e]
            refine ⟨_, rfl, iteT ⟨_, rfl, _, s6' _ _ e7, by rw [List.length_map]; exact lt_line sm, same_put (s7.trans s6') hR2, ?_⟩⟩
            rw [upd_same, if_neg e, List.map_append]
            rfl
      rintro H7 ⟨s7, e7⟩
      rw [List.length_map, List.take_length] at e7
      have s197 := s6.trans s7
      have eR7 := s7 _ _ eR6
      have pokK : stillOf (fsts (keptOf as bs)) t.nodes = .none → PartOk t.nodes (keptOf as bs) t.firsts sw := kept_ok pok
      have still := lost_still (fsts (keptOf as bs)) t.nodes
      -- what is due
      refine ⟨fun σ' H' => ∃ (du : Addr) (dd : PyData), σ' = [some (.ref a), some (.int (0 + i)), some (.ref b), some (.ref D), some (.ref p), some (.ref Fl), z6, z7, some (.int (0 + j)), some (.ref l), some (.ref R), some (.ref Bf), some (.ref R2), some (.ref du), z14] ∧ Same H7 H' ∧ Dp K H' (.ref du) dd ∧ fine 4 dd = true ∧
        ((stillOf (fsts (keptOf as bs)) t.nodes = .none ∧ dd = d4 t.nodes (keptOf as bs) t.firsts sw) ∨ ∃ x, stillOf (fsts (keptOf as bs)) t.nodes = .some x ∧ dd = .list [sd x]), ?_, ?_⟩
      · refine ⟨_, rfl, Nat.zero_le _, fun E0 hE0 => ?_⟩
        have s8a := same_upd (o := .lst []) hE0
        have eE : (upd H7 E0 (.lst [])) E0 = some (.lst []) := upd_same
        generalize upd H7 E0 (.lst []) = Ha at s8a eE ⊢
        refine ⟨_, _, .lst (SqL.of (s8a _ _ e7)) (dpa_strs _), .lst (SqL.of eE) .nil, by rw [PyData.plain]; exact sds_plain _, by simp [PyData.plain, PyData.plainAll], by rw [PyData.depth, sds_depth]; decide, _, rfl, ?_⟩
        rw [if_neg (show ¬ (false = true) by decide), lst_nil]
        cases hL : lostL (fsts (keptOf as bs)) t.nodes with
        | nil =>
          rw [hL] at still
          refine iteT ?_
          refine ⟨_, rfl, Fl, _, 0, .ref aS, rfl, rfl, SqT.of (s8a _ _ (s197 _ _ eF19)), rfl, _, rfl, R, _, rfl, .inl ⟨SqL.of (s8a _ _ eR7), fun aK haK => ?_⟩⟩
          have s9a := same_upd (o := .tup (refs (keptOf as bs))) haK
          have s9 := s8a.trans s9a
          have eK : (upd Ha aK (.tup (refs (keptOf as bs)))) aK = some (.tup (refs (keptOf as bs))) := upd_same
          generalize upd Ha aK (.tup (refs (keptOf as bs))) = Hb at s9 eK ⊢
          clear s9a
          refine ⟨(by show 2 ≤ sizeLine; decide), fun t1 ht1 => ?_⟩
          have s10a := same_upd (o := .tup [V.ref aS, .ref aK]) ht1
          have s10 := s9.trans s10a
          have eK2 := s10a _ _ eK
          have e1 : (upd Hb t1 (.tup [V.ref aS, .ref aK])) t1 = some (.tup [V.ref aS, .ref aK]) := upd_same
          generalize upd Hb t1 (.tup [V.ref aS, .ref aK]) = Hc at s10 eK2 e1 ⊢
          clear s10a
          refine ⟨_, rfl, 2, rfl, Fl, _, rfl, SqT.of (s10 _ _ (s197 _ _ eF19)), (fun wh => absurd (show HT.sIx 4 0 (some 2) = 0 from wh.1) (by decide)), fun _ t2 ht2 => ?_⟩
          rw [show cutV [V.ref aS, .ref aM, .ref aB, .ref aW] (some 2) none = [V.ref aB, .ref aW] from rfl]
          have s11a := same_upd (o := .tup [V.ref aB, .ref aW]) ht2
          have s11 := s10.trans s11a
          have eK3 := s11a _ _ eK2
          have e12 := s11a _ _ e1
          have e2 : (upd Hc t2 (.tup [V.ref aB, .ref aW])) t2 = some (.tup [V.ref aB, .ref aW]) := upd_same
          generalize upd Hc t2 (.tup [V.ref aB, .ref aW]) = Hd at s11 eK3 e12 e2 ⊢
          clear s11a
          refine ⟨t1, t2, _, _, rfl, rfl, SqT.of e12, SqT.of e2, (by show 4 ≤ sizeLine; decide), (fun z => by cases z), (fun _ z => by cases z), fun _ _ du hdu => ?_⟩
          have s12a := same_upd (o := .tup ([V.ref aS, .ref aK] ++ [V.ref aB, .ref aW])) hdu
          have s12 := s11.trans s12a
          have oz := (o19.same s197).same s12
          have eK4 := s12a _ _ eK3
          refine ⟨du, _, rfl, s12, dp_four ⟨oz.pt.hS, eK4, fun y hy => s12 _ _ (s7 _ _ (P6 y hy)), oz.pt.hB, oz.pt.hW, oz.pt.hH⟩ upd_same, d4_fine 0 (Nat.le_trans pok.n8 (by decide)) (by omega) pok.f2 pok.sh, .inl ⟨still, rfl⟩⟩
        | cons x rest =>
          rw [hL] at still
          refine iteF ?_
          refine ⟨_, rfl, 1, rfl, R2, _, rfl, SqL.of (s8a _ _ e7), fun du hdu => ?_⟩
          rw [cutV_one, hL]
          refine ⟨du, _, rfl, s8a.trans (same_upd hdu), .lst (SqL.of upd_same) (.cons (.str x) .nil), (fine_strs 3 (l := [x]) (show 1 ≤ 1000 by decide)).2, .inr ⟨x, still, rfl⟩⟩
      rintro σ8 H8' ⟨du, dd, rfl, s78, hdu, fdd, hd⟩
      have s198 := s197.trans s78
      have tell : ∀ (nm : Bool) (m : Addr) (Hc : Hp) (Q : VK) (E : XK), Same H19 Hc → (SqL K Hc m (refs bs) ∨ SqT K Hc m (refs bs)) → (∀ r H', Same Hc H' → Dp K H' (.ref r) dd → Q (.ref r) H') → spTold K C [.ref p, .ref m, .bl nm] Hc Q E := fun nm m Hc Q E sc hm kq => by
        refine ⟨p, m, aS, aM, aB, aW, nm, t.nodes, as, bs, t.firsts, sw, rfl, o19.same sc, pok, hm, Pb19.same sc, fun hn tt aK H' s' D' et => kq tt H' s' ?_, fun x hx l' H' s' el' => kq l' H' s' ?_⟩
        · rcases hd with ⟨_, rfl⟩ | ⟨x, hx, _⟩
          · exact dp_four D' et
          · rw [hn] at hx; cases hx
        · rcases hd with ⟨hn, _⟩ | ⟨x', hx', rfl⟩
          · rw [hn] at hx; cases hx
          · rw [hx] at hx'
            cases hx'
            exact .lst (SqL.of el') (.cons (.str x) .nil)
      refine ⟨_, rfl, _, rfl, ?_⟩
      dsimp only [tCons, tC, tNil, List.append_nil]
      refine tell false l H8' _ _ s198 (.inl (SqL.of (s198 _ _ el))) fun r1 Ha sa hr1' => ?_
      have s19a := s198.trans sa
      refine ⟨_, rfl, _, rfl, l, _, rfl, .inl ⟨SqL.of (s19a _ _ el), fun tm htm => ?_⟩⟩
      have sba := same_upd (o := .tup (refs bs)) htm
      have sb := sa.trans sba
      have etm : (upd Ha tm (.tup (refs bs))) tm = some (.tup (refs bs)) := upd_same
      have hr1b := dp_same sba hr1'
      generalize upd Ha tm (.tup (refs bs)) = Hb at sb etm hr1b sba ⊢
      have s19b := s198.trans sb
      dsimp only [tCons, tC, tNil, List.append_nil]
      refine tell true tm Hb _ _ s19b (.inr (SqT.of etm)) fun r2 Hc sc hr2' => ?_
      have hr1c := dp_same sc hr1b
      refine ⟨(by show 2 ≤ sizeLine; decide), fun Lt hLt => ?_⟩
      have sda := same_upd (o := .lst [V.ref r1, .ref r2]) hLt
      have s8d := (sb.trans sc).trans sda
      have eLt : (upd Hc Lt (.lst [V.ref r1, .ref r2])) Lt = some (.lst [V.ref r1, .ref r2]) := upd_same
      have q1 := dp_same sda hr1c
      have q2 := dp_same sda hr2'
      generalize upd Hc Lt (.lst [V.ref r1, .ref r2]) = Hd at s8d eLt q1 q2 ⊢
      clear sda
      have qd := dp_same s8d hdu
      refine ⟨_, rfl, _, rfl, _, rfl, (by show 2 ≤ sizeLine; decide), fun Ld hLd => ?_⟩
      have sea := same_upd (o := .lst [V.ref du, .ref du]) hLd
      have s8e := s8d.trans sea
      have eLd : (upd Hd Ld (.lst [V.ref du, .ref du])) Ld = some (.lst [V.ref du, .ref du]) := upd_same
      have eLt2 := sea _ _ eLt
      have q1e := dp_same sea q1
      have q2e := dp_same sea q2
      have qde := dp_same sea qd
      generalize upd Hd Ld (.lst [V.ref du, .ref du]) = He at s8e eLd eLt2 q1e q2e qde ⊢
      clear sea
      refine ⟨.ref Lt, .ref Ld, .list [dd, dd], rfl, .lst (SqL.of eLt2) (.cons q1e (.cons q2e .nil)), .lst (SqL.of eLd) (.cons qde (.cons qde .nil)), fine_two fdd, fun Hf sf => ⟨_, rfl, ?_⟩⟩
      have s8f := s8e.trans sf
      have s19f := s198.trans s8f
      have bDp : ∀ {x : Addr}, Hf x = some (.lst (refs bs)) → Dp K Hf (.ref x) (.list ((bs.map (·.2)).map pd)) := fun {x} e => .lst (SqL.of e) (dpa_pairs (Pb19.same s19f))
      refine iteF ⟨_, rfl, _, rfl, _, _, bDp (s19f _ _ el), bDp (s8f _ _ (s78 _ _ (s7 _ _ eB6))), by rw [PyData.plain]; exact pds_plain _, by rw [PyData.plain]; exact pds_plain _, by have := pds_depth (bs.map (·.2)); rw [PyData.depth]; omega, _, rfl, ?_⟩
      rw [if_pos rfl, eqv_lst pd_eqv, decide_eq_true rfl]
      refine iteF ?_
      -- the table stays
      have of := o19.same s19f
      obtain ⟨df, ie⟩ := of.ob
      refine ⟨_, rfl, p, C, df, _, _, rfl, ie, T.cl, T.nS, lkS, _, rfl, p, C, df, _, _, rfl, ie, T.cl, T.nM, lkM, _, rfl, p, C, df, _, _, rfl, ie, T.cl, T.nB, lkB, _, rfl, p, C, df, _, _, rfl, ie, T.cl, T.nW, lkW, (by show 4 ≤ sizeLine; decide), fun t4 ht4 => ?_⟩
      have sga := same_upd (o := .tup [V.ref aS, .ref aM, .ref aB, .ref aW]) ht4
      have s19g := s19f.trans sga
      have e4 : (upd Hf t4 (.tup [V.ref aS, .ref aM, .ref aB, .ref aW])) t4 = some (.tup [V.ref aS, .ref aM, .ref aB, .ref aW]) := upd_same
      generalize upd Hf t4 (.tup [V.ref aS, .ref aM, .ref aB, .ref aW]) = Hg at s19g e4 ⊢
      have og := o19.same s19g
      refine ⟨_, rfl, .ref t4, .ref Fl, d4 t.nodes as t.firsts sw, rfl, dp_four og.pt e4, dp_four og.pt (s19g _ _ eF19), d4_fine 1 (Nat.le_trans pok.n8 (by decide)) (by omega) pok.f2 pok.sh, fun Hz sz => ⟨_, rfl, iteF ?_⟩⟩
      refine ⟨_, _, _, _, _, _, _, _, _, c8, rfl, k1619.trans (Kp.same (s19g.trans sz)), ?_, by omega, by omega⟩
      obtain ⟨x1, w1, q1, r1⟩ := hb19
      exact ⟨x1, w1, (s19g.trans sz) _ _ q1, r1⟩
end
end Mr

/-! AJ -/
set_option Elab.async false
set_option linter.all false
set_option maxRecDepth 100000
set_option maxHeartbeats 2000000
namespace Mr
open PySem PySem.Spec PyProof.Rows L2 TL MrS RZ PySem.W
theorem kit_ref {K : PySem.W.Frag} {t : Value} {C : Addr} {b : Bool} (h0 : (t == Value.ref C) = false) (h1 : PySem.W.isClsIn K C = true) (h2 : PySem.W.typeIn K (.ref C) = some (.type "type")) (h3 : PySem.W.subIn K t (.ref C) = some b) : PySem.W.kitOne K t (.ref C) = some b := by
  unfold PySem.W.kitOne
  rw [if_neg (by rw [h0]; decide)]
  unfold PySem.W.kitCls
  have e : ((PySem.W.clsIn K C).isSome && PySem.W.typeIn K (.ref C) == some (.type "type")) = true := by
    have h1' : (PySem.W.clsIn K C).isSome = true := h1
    rw [h1', h2]; rfl
  show (if ((PySem.W.clsIn K C).isSome && PySem.W.typeIn K (.ref C) == some (.type "type")) = true then PySem.W.subIn K t (.ref C) else none) = some b
  rw [if_pos e]
  exact h3
theorem kit_typ {K : PySem.W.Frag} {D : Addr} {T : String} {b : Bool} (h1 : PySem.W.kitMeta T = true) (h3 : PySem.W.subIn K (.ref D) (.type T) = some b) : PySem.W.kitOne K (.ref D) (.type T) = some b := by
  unfold PySem.W.kitOne
  rw [if_neg (by intro z; cases z)]
  show (if PySem.W.kitMeta T = true then PySem.W.subIn K (.ref D) (.type T) else none) = some b
  rw [if_pos h1]
  exact h3
theorem exm_own {K : PySem.W.Frag} {S : Addr} (h1 : PySem.W.subIn K (.ref S) (.type "BaseException") = some true) (h2 : PySem.W.isClsIn K S = true) (h3 : PySem.W.typeIn K (.ref S) = some (.type "type")) (h4 : PySem.W.subIn K (.ref S) (.ref S) = some true) :
    PySem.W.exmOne K (.ref S) (.ref S) = some true := by
  have e1 : (PySem.W.subIn K (.ref S) (.type "BaseException") == some true) = true := by rw [h1] <;> rfl
  have e2 : ((PySem.W.clsIn K S).isSome && PySem.W.typeIn K (.ref S) == some (.type "type")) = true := by
    have h2' : (PySem.W.clsIn K S).isSome = true := h2
    rw [h2', h3] <;> rfl
  show (if (PySem.W.subIn K (.ref S) (.type "BaseException") == some true) = true then (if ((PySem.W.clsIn K S).isSome && PySem.W.typeIn K (.ref S) == some (.type "type")) = true then PySem.W.subIn K (.ref S) (.ref S) else none) else none) = some true
  rw [if_pos e1, if_pos e2]
  exact h4
theorem all_mk {l : PySem.W.OpenLaw} {w : World} {K : PySem.W.Frag} {h : Heap} {mg : Str → Option Value} {fa C D fE e1 e2 e3 e4 e5 e6 f1 f2 f3 f4 f5 f6 f7 f8 f9 f10 f11 f12 fP fR fI fN fS fM fV fB fW fX fL fi fm fn fw fe fl fr : Addr} (X : K.In h) (G : h.Ns mainGlobals mg) (hfa : mg "law" = some (.ref fa))
    {tmLe tmMk tmMv tmSt : Tok} {nmE qE : Str} {NE : Addr} {bsE : List Value} {snE : List Str} {subE : List Value} {abE : Bool} {colE : Option Bool} {ddE : Option Addr} {m0 m1 m2 m3 m5 : Option Value}
    {ocE dcE pmE cdE ctE : Value} {odE anE : Option Addr} {slE : Array (Option Value)}
    {od1 an1 od2 an2 od3 an3 od4 an4 od5 an5 od6 an6 od7 an7 od8 an8 od9 an9 od10 an10 od11 an11 od12 an12 odP anP odR anR odI anI odN anN odS anS odM anM odV anV odB anB odW anW odX anX odL anL odi ani odm anm odn ann odw anw ode ane odl anl odr anr : Option Addr} {sl1 sl2 sl3 sl4 sl5 sl6 sl7 sl8 sl9 sl10 sl11 sl12 slP slR slI slN slS slM slV slB slW slX slL sli slm sln slw sle sll slr : Array (Option Value)} {oc1 kV1 dc1 pm1 cd1 ct1 oc2 kV2 dc2 pm2 cd2 ct2 oc3 kV3 dc3 pm3 cd3 ct3 oc4 kV4 dc4 pm4 cd4 ct4 oc5 kV5 dc5 pm5 cd5 ct5 oc6 kV6 dc6 pm6 cd6 ct6 oc7 kV7 dc7 pm7 cd7 ct7 oc8 kV8 dc8 pm8 cd8 ct8 oc9 kV9 dc9 pm9 cd9 ct9 oc10 kV10 dc10 pm10 cd10 ct10 oc11 kV11 dc11 pm11 cd11 ct11 oc12 kV12 dc12 pm12 cd12 ct12 ocP kVP dcP pmP cdP ctP ocR kVR dcR pmR cdR ctR ocI kVI dcI pmI cdI ctI ocN kVN dcN pmN cdN ctN ocS kVS dcS pmS cdS ctS ocM kVM dcM pmM cdM ctM ocV kVV dcV pmV cdV ctV ocB kVB dcB pmB cdB ctB ocW kVW dcW pmW cdW ctW ocX kVX dcX pmX cdX ctX ocL kVL dcL pmL cdL ctL oci kVi dci pmi cdi cti ocm kVm dcm pmm cdm ctm ocn kVn dcn pmn cdn ctn ocw kVw dcw pmw cdw ctw oce kVe dce pme cde cte ocl kVl dcl pml cdl ctl ocr kVr dcr pmr cdr ctr : Value}
    (a1 : PySem.W.nsIn K mainGlobals "_law_cell_at" = some (some (.ref f1)))
    (l1 : K.lookup f1 = some ⟨oc1, od1, .func (PySem.W.fnOf "_law_cell_at" "_law_cell_at" (defArgs sCell) (defBody sCell) (defScope sCell) .none kV1 dc1 pm1 an1 cd1 ct1), sl1⟩)
    (c1 : PySem.W.codeIn K cd1 "_law_cell_at" = true) (k1 : PySem.W.keepIn K (.ref f1) = true)
    (a2 : PySem.W.nsIn K mainGlobals "_law_box" = some (some (.ref f2)))
    (l2 : K.lookup f2 = some ⟨oc2, od2, .func (PySem.W.fnOf "_law_box" "_law_box" (defArgs sBox) (defBody sBox) (defScope sBox) .none kV2 dc2 pm2 an2 cd2 ct2), sl2⟩)
    (c2 : PySem.W.codeIn K cd2 "_law_box" = true) (k2 : PySem.W.keepIn K (.ref f2) = true)
    (a3 : PySem.W.nsIn K mainGlobals "_law_take" = some (some (.ref f3)))
    (l3 : K.lookup f3 = some ⟨oc3, od3, .func (PySem.W.fnOf "_law_take" "_law_take" (defArgs sTake) (defBody sTake) (defScope sTake) .none kV3 dc3 pm3 an3 cd3 ct3), sl3⟩)
    (c3 : PySem.W.codeIn K cd3 "_law_take" = true) (k3 : PySem.W.keepIn K (.ref f3) = true)
    (a4 : PySem.W.nsIn K mainGlobals "_law_same" = some (some (.ref f4)))
    (l4 : K.lookup f4 = some ⟨oc4, od4, .func (PySem.W.fnOf "_law_same" "_law_same" (defArgs sSame) (defBody sSame) (defScope sSame) .none kV4 dc4 pm4 an4 cd4 ct4), sl4⟩)
    (c4 : PySem.W.codeIn K cd4 "_law_same" = true) (k4 : PySem.W.keepIn K (.ref f4) = true)
    (a5 : PySem.W.nsIn K mainGlobals "_law_of" = some (some (.ref f5)))
    (l5 : K.lookup f5 = some ⟨oc5, od5, .func (PySem.W.fnOf "_law_of" "_law_of" (defArgs sOf) (defBody sOf) (defScope sOf) .none kV5 dc5 pm5 an5 cd5 ct5), sl5⟩)
    (c5 : PySem.W.codeIn K cd5 "_law_of" = true) (k5 : PySem.W.keepIn K (.ref f5) = true)
    (a6 : PySem.W.nsIn K mainGlobals "_law_names" = some (some (.ref f6)))
    (l6 : K.lookup f6 = some ⟨oc6, od6, .func (PySem.W.fnOf "_law_names" "_law_names" (defArgs sNames) (defBody sNames) (defScope sNames) .none kV6 dc6 pm6 an6 cd6 ct6), sl6⟩)
    (c6 : PySem.W.codeIn K cd6 "_law_names" = true) (k6 : PySem.W.keepIn K (.ref f6) = true)
    (a7 : PySem.W.nsIn K mainGlobals "_law_table" = some (some (.ref f7)))
    (l7 : K.lookup f7 = some ⟨oc7, od7, .func (PySem.W.fnOf "_law_table" "_law_table" (defArgs sTable) (defBody sTable) (defScope sTable) .none kV7 dc7 pm7 an7 cd7 ct7), sl7⟩)
    (c7 : PySem.W.codeIn K cd7 "_law_table" = true) (k7 : PySem.W.keepIn K (.ref f7) = true)
    (a8 : PySem.W.nsIn K mainGlobals "_law_made" = some (some (.ref f8)))
    (l8 : K.lookup f8 = some ⟨oc8, od8, .func (PySem.W.fnOf "_law_made" "_law_made" (defArgs sMade) (defBody sMade) (defScope sMade) .none kV8 dc8 pm8 an8 cd8 ct8), sl8⟩)
    (c8 : PySem.W.codeIn K cd8 "_law_made" = true) (k8 : PySem.W.keepIn K (.ref f8) = true)
    (a9 : PySem.W.nsIn K mainGlobals "_law_nexts" = some (some (.ref f9)))
    (l9 : K.lookup f9 = some ⟨oc9, od9, .func (PySem.W.fnOf "_law_nexts" "_law_nexts" (defArgs sNexts) (defBody sNexts) (defScope sNexts) .none kV9 dc9 pm9 an9 cd9 ct9), sl9⟩)
    (c9 : PySem.W.codeIn K cd9 "_law_nexts" = true) (k9 : PySem.W.keepIn K (.ref f9) = true)
    (a10 : PySem.W.nsIn K mainGlobals "_law_told" = some (some (.ref f10)))
    (l10 : K.lookup f10 = some ⟨oc10, od10, .func (PySem.W.fnOf "_law_told" "_law_told" (defArgs sTold) (defBody sTold) (defScope sTold) .none kV10 dc10 pm10 an10 cd10 ct10), sl10⟩)
    (c10 : PySem.W.codeIn K cd10 "_law_told" = true) (k10 : PySem.W.keepIn K (.ref f10) = true)
    (a11 : PySem.W.nsIn K mainGlobals "_law_some_moves" = some (some (.ref f11)))
    (l11 : K.lookup f11 = some ⟨oc11, od11, .func (PySem.W.fnOf "_law_some_moves" "_law_some_moves" (defArgs sSome) (defBody sSome) (defScope sSome) .none kV11 dc11 pm11 an11 cd11 ct11), sl11⟩)
    (c11 : PySem.W.codeIn K cd11 "_law_some_moves" = true) (k11 : PySem.W.keepIn K (.ref f11) = true)
    (a12 : PySem.W.nsIn K mainGlobals "_law_alike_right" = some (some (.ref f12)))
    (l12 : K.lookup f12 = some ⟨oc12, od12, .func (PySem.W.fnOf "_law_alike_right" "_law_alike_right" (defArgs sAlike) (defBody sAlike) (defScope sAlike) .none kV12 dc12 pm12 an12 cd12 ct12), sl12⟩)
    (c12 : PySem.W.codeIn K cd12 "_law_alike_right" = true) (k12 : PySem.W.keepIn K (.ref f12) = true)
    (aP : PySem.W.nsIn K mainGlobals "is_pair" = some (some (.ref fP)))
    (lP : K.lookup fP = some ⟨ocP, odP, .func (PySem.W.fnOf "is_pair" "is_pair" (defArgs sIsPair) (defBody sIsPair) (defScope sIsPair) .none kVP dcP pmP anP cdP ctP), slP⟩)
    (cP : PySem.W.codeIn K cdP "is_pair" = true) (kP : PySem.W.keepIn K (.ref fP) = true)
    (aR : PySem.W.nsIn K mainGlobals "is_rising" = some (some (.ref fR)))
    (lR : K.lookup fR = some ⟨ocR, odR, .func (PySem.W.fnOf "is_rising" "is_rising" (defArgs sIsRising) (defBody sIsRising) (defScope sIsRising) .none kVR dcR pmR anR cdR ctR), slR⟩)
    (cR : PySem.W.codeIn K cdR "is_rising" = true) (kR : PySem.W.keepIn K (.ref fR) = true)
    (aI : PySem.W.nsIn K mainGlobals "is_name" = some (some (.ref fI)))
    (lI : K.lookup fI = some ⟨ocI, odI, .func (PySem.W.fnOf "is_name" "is_name" (defArgs sIsName) (defBody sIsName) (defScope sIsName) .none kVI dcI pmI anI cdI ctI), slI⟩)
    (cI : PySem.W.codeIn K cdI "is_name" = true) (kI : PySem.W.keepIn K (.ref fI) = true)
    (aN : PySem.W.nsIn K mainGlobals "is_names" = some (some (.ref fN)))
    (lN : K.lookup fN = some ⟨ocN, odN, .func (PySem.W.fnOf "is_names" "is_names" (defArgs sIsNames) (defBody sIsNames) (defScope sIsNames) .none kVN dcN pmN anN cdN ctN), slN⟩)
    (cN : PySem.W.codeIn K cdN "is_names" = true) (kN : PySem.W.keepIn K (.ref fN) = true)
    (aS : PySem.W.nsIn K mainGlobals "first_still" = some (some (.ref fS)))
    (lS : K.lookup fS = some ⟨ocS, odS, .func (PySem.W.fnOf "first_still" "first_still" (defArgs sStill) (defBody sStill) (defScope sStill) .none kVS dcS pmS anS cdS ctS), slS⟩)
    (cS : PySem.W.codeIn K cdS "first_still" = true) (kS : PySem.W.keepIn K (.ref fS) = true)
    (aM : PySem.W.nsIn K mainGlobals "_is_move" = some (some (.ref fM)))
    (lM : K.lookup fM = some ⟨ocM, odM, .func (PySem.W.fnOf "_is_move" "_is_move" (defArgs sIsMove) (defBody sIsMove) (defScope sIsMove) .none kVM dcM pmM anM cdM ctM), slM⟩)
    (cM : PySem.W.codeIn K cdM "_is_move" = true) (kM : PySem.W.keepIn K (.ref fM) = true)
    (aV : PySem.W.nsIn K mainGlobals "_are_moves" = some (some (.ref fV)))
    (lV : K.lookup fV = some ⟨ocV, odV, .func (PySem.W.fnOf "_are_moves" "_are_moves" (defArgs sAreMoves) (defBody sAreMoves) (defScope sAreMoves) .none kVV dcV pmV anV cdV ctV), slV⟩)
    (cV : PySem.W.codeIn K cdV "_are_moves" = true) (kV : PySem.W.keepIn K (.ref fV) = true)
    (aB : PySem.W.nsIn K mainGlobals "_are_begins" = some (some (.ref fB)))
    (lB : K.lookup fB = some ⟨ocB, odB, .func (PySem.W.fnOf "_are_begins" "_are_begins" (defArgs sAreBegins) (defBody sAreBegins) (defScope sAreBegins) .none kVB dcB pmB anB cdB ctB), slB⟩)
    (cB : PySem.W.codeIn K cdB "_are_begins" = true) (kB : PySem.W.keepIn K (.ref fB) = true)
    (aW : PySem.W.nsIn K mainGlobals "_is_show" = some (some (.ref fW)))
    (lW : K.lookup fW = some ⟨ocW, odW, .func (PySem.W.fnOf "_is_show" "_is_show" (defArgs sIsShow) (defBody sIsShow) (defScope sIsShow) .none kVW dcW pmW anW cdW ctW), slW⟩)
    (cW : PySem.W.codeIn K cdW "_is_show" = true) (kW : PySem.W.keepIn K (.ref fW) = true)
    (aX : PySem.W.nsIn K mainGlobals "_are_shows" = some (some (.ref fX)))
    (lX : K.lookup fX = some ⟨ocX, odX, .func (PySem.W.fnOf "_are_shows" "_are_shows" (defArgs sAreShows) (defBody sAreShows) (defScope sAreShows) .none kVX dcX pmX anX cdX ctX), slX⟩)
    (cX : PySem.W.codeIn K cdX "_are_shows" = true) (kX : PySem.W.keepIn K (.ref fX) = true)
    (aL : PySem.W.nsIn K mainGlobals "law" = some (some (.ref fL)))
    (lL : K.lookup fL = some ⟨ocL, odL, .func (PySem.W.fnOf "law" "law" (defArgs sLaw) (defBody sLaw) (defScope sLaw) .none kVL dcL pmL anL cdL ctL), slL⟩)
    (cL : PySem.W.codeIn K cdL "law" = true) (kL : PySem.W.keepIn K (.ref fL) = true)
    (aC : PySem.W.nsIn K mainGlobals "Table" = some (some (.ref C)))
    (ai : PySem.W.findIn K (.ref C) "__init__" = some (some (.ref fi))) (gi : PySem.W.isFn K (.ref fi) = true)
    (li : K.lookup fi = some ⟨oci, odi, .func (PySem.W.fnOf "__init__" "Table.__init__" (defArgs sInit) (defBody sInit) (defScope sInit) .none kVi dci pmi ani cdi cti), sli⟩)
    (ci : PySem.W.codeIn K cdi "Table.__init__" = true) (ki : PySem.W.keepIn K (.ref fi) = true)
    (am : PySem.W.findIn K (.ref C) "marks_of" = some (some (.ref fm))) (gm : PySem.W.isFn K (.ref fm) = true)
    (lm : K.lookup fm = some ⟨ocm, odm, .func (PySem.W.fnOf "marks_of" "Table.marks_of" (defArgs sMarks) (defBody sMarks) (defScope sMarks) .none kVm dcm pmm anm cdm ctm), slm⟩)
    (cm : PySem.W.codeIn K cdm "Table.marks_of" = true) (km : PySem.W.keepIn K (.ref fm) = true)
    (an : PySem.W.findIn K (.ref C) "next_of" = some (some (.ref fn))) (gn : PySem.W.isFn K (.ref fn) = true)
    (ln : K.lookup fn = some ⟨ocn, odn, .func (PySem.W.fnOf "next_of" "Table.next_of" (defArgs sNext) (defBody sNext) (defScope sNext) .none kVn dcn pmn ann cdn ctn), sln⟩)
    (cn : PySem.W.codeIn K cdn "Table.next_of" = true) (kn : PySem.W.keepIn K (.ref fn) = true)
    (aw : PySem.W.findIn K (.ref C) "without" = some (some (.ref fw))) (gw : PySem.W.isFn K (.ref fw) = true)
    (lw : K.lookup fw = some ⟨ocw, odw, .func (PySem.W.fnOf "without" "Table.without" (defArgs sWithout) (defBody sWithout) (defScope sWithout) .none kVw dcw pmw anw cdw ctw), slw⟩)
    (cw : PySem.W.codeIn K cdw "Table.without" = true) (kw : PySem.W.keepIn K (.ref fw) = true)
    (ae : PySem.W.findIn K (.ref C) "__eq__" = some (some (.ref fe))) (ge : PySem.W.isFn K (.ref fe) = true)
    (le : K.lookup fe = some ⟨oce, ode, .func (PySem.W.fnOf "__eq__" "Table.__eq__" (defArgs sEq) (defBody sEq) (defScope sEq) .none kVe dce pme ane cde cte), sle⟩)
    (ce : PySem.W.codeIn K cde "Table.__eq__" = true) (ke : PySem.W.keepIn K (.ref fe) = true)
    (al : PySem.W.findIn K (.ref C) "__len__" = some (some (.ref fl))) (gl : PySem.W.isFn K (.ref fl) = true)
    (ll : K.lookup fl = some ⟨ocl, odl, .func (PySem.W.fnOf "__len__" "Table.__len__" (defArgs sLen) (defBody sLen) (defScope sLen) .none kVl dcl pml anl cdl ctl), sll⟩)
    (cl : PySem.W.codeIn K cdl "Table.__len__" = true) (kl : PySem.W.keepIn K (.ref fl) = true)
    (ar : PySem.W.findIn K (.ref C) "__repr__" = some (some (.ref fr))) (gr : PySem.W.isFn K (.ref fr) = true)
    (lr : K.lookup fr = some ⟨ocr, odr, .func (PySem.W.fnOf "__repr__" "Table.__repr__" (defArgs sRepr) (defBody sRepr) (defScope sRepr) .none kVr dcr pmr anr cdr ctr), slr⟩)
    (cr : PySem.W.codeIn K cdr "Table.__repr__" = true) (kr : PySem.W.keepIn K (.ref fr) = true)
    (pg : PySem.W.plainGet K C Str.empty = true)
    (hd : PySem.W.hasDictIn K C = true)
    (po : PySem.W.plainOver K C = true)
    (sa : PySem.W.findIn K (.ref C) "__setattr__" = some (some (.builtin "object.__setattr__")))
    (mk : PySem.W.makesIn K C = true)
    (kc : PySem.W.keepIn K (.ref C) = true)
    (nS : PySem.W.findIn K (.ref C) "states" = some none)
    (nM : PySem.W.findIn K (.ref C) "moves" = some none)
    (nB : PySem.W.findIn K (.ref C) "begins" = some none)
    (nW : PySem.W.findIn K (.ref C) "shows" = some none)
    (z_abs : PySem.W.nsIn K mainGlobals "abs" = some none)
    (z_int : PySem.W.nsIn K mainGlobals "int" = some none)
    (z_range : PySem.W.nsIn K mainGlobals "range" = some none)
    (z_sorted : PySem.W.nsIn K mainGlobals "sorted" = some none)
    (z_set : PySem.W.nsIn K mainGlobals "set" = some none)
    (z_min : PySem.W.nsIn K mainGlobals "min" = some none)
    (z_list : PySem.W.nsIn K mainGlobals "list" = some none)
    (z_bool : PySem.W.nsIn K mainGlobals "bool" = some none)
    (z_dict : PySem.W.nsIn K mainGlobals "dict" = some none)
    (z_repr : PySem.W.nsIn K mainGlobals "repr" = some none)
    (z_any : PySem.W.nsIn K mainGlobals "any" = some none)
    (z_isinstance : PySem.W.nsIn K mainGlobals "isinstance" = some none)
    (z_len : PySem.W.nsIn K mainGlobals "len" = some none)
    (z_all : PySem.W.nsIn K mainGlobals "all" = some none)
    (z_str : PySem.W.nsIn K mainGlobals "str" = some none)
    (z_tuple : PySem.W.nsIn K mainGlobals "tuple" = some none)
    (z_zip : PySem.W.nsIn K mainGlobals "zip" = some none)
    (z_RuntimeError : PySem.W.nsIn K mainGlobals "RuntimeError" = some none)
    (mLe : PySem.W.nsIn K mainGlobals "LETTERS" = some (some (.int 8 tmLe)))
    (mMk : PySem.W.nsIn K mainGlobals "MARKS" = some (some (.int 4 tmMk)))
    (mMv : PySem.W.nsIn K mainGlobals "MOVES" = some (some (.int 24 tmMv)))
    (mSt : PySem.W.nsIn K mainGlobals "STATES" = some (some (.int 8 tmSt)))
    (nE : PySem.W.findIn K (.ref C) "__ne__" = some (some (.builtin "object.__ne__")))
    (nO : PySem.W.findIn K (.ref C) "__bool__" = some none)
    (mO : PySem.W.mroIn K C (.type "object") = some true)
    (ca : PySem.W.findIn K (.ref C) "__class__" = some (some (.builtin "object.__class__")))
    (cgt : PySem.W.specialIn K (.builtin "object.__class__") "__get__" = some (some (.builtin "getset_descriptor.__get__")))
    (ctk : PySem.W.takesIn K (.builtin "object.__class__") = some true)
    (icC : PySem.W.isClsIn K C = true)
    (tyC : PySem.W.typeIn K (.ref C) = some (.type "type"))
    (n1 : PySem.W.notFirst K C (.type "NoneType") = true)
    (s1 : PySem.W.subIn K (.type "NoneType") (.ref C) = some false)
    (n2 : PySem.W.notFirst K C (.type "tuple") = true)
    (s2 : PySem.W.subIn K (.type "tuple") (.ref C) = some false)
    (n3 : PySem.W.notFirst K C (.type "list") = true)
    (s3 : PySem.W.subIn K (.type "list") (.ref C) = some false)
    (n4 : PySem.W.notFirst K C (.type "str") = true)
    (s4 : PySem.W.subIn K (.type "str") (.ref C) = some false)
    (n5 : PySem.W.notFirst K C (.type "int") = true)
    (s5 : PySem.W.subIn K (.type "int") (.ref C) = some false)
    (aE : PySem.W.nsIn K mainGlobals "LastMove" = some (some (.ref D)))
    (xL : K.lookup D = some (excClassObj nmE qE D NE bsE [.type "RuntimeError", .type "Exception", .type "BaseException", .type "object"] true snE subE abE colE ddE m0 m1 m2 m3 m5 "RuntimeError.__new__"))
    (saE : PySem.W.findIn K (.ref D) "__setattr__" = some (some (.builtin "object.__setattr__")))
    (gaE : PySem.W.findIn K (.ref D) "__getattribute__" = some (some (.builtin "BaseException.__getattribute__")))
    (ggE : PySem.W.findIn K (.ref D) "__getattr__" = some none)
    (noE : PySem.W.findIn K (.ref D) "state" = some none)
    (aEi : PySem.W.findIn K (.ref D) "__init__" = some (some (.ref fE)))
    (tEi : PySem.W.typeIn K (.ref fE) = some (.type "function"))
    (lEi : K.lookup fE = some ⟨ocE, odE, .func (PySem.W.fnOf "__init__" "LastMove.__init__" (PySem.LmX.iA ⟨20, 17, 20, 21⟩ ⟨20, 23, 20, 28⟩) (PySem.LmX.iB ⟨21, 8, 21, 12⟩ ⟨21, 8, 21, 18⟩ ⟨21, 21, 21, 26⟩ ⟨21, 8, 21, 26⟩) PySem.LmX.iS .none .none dcE pmE anE cdE ctE), slE⟩) (cEi : PySem.W.codeIn K cdE "LastMove.__init__" = true)
    (kE : PySem.W.keepIn K (.ref D) = true)
    (eE : PySem.W.subIn K (.ref D) (.type "BaseException") = some true)
    (tE : PySem.W.typeIn K (.ref D) = some (.type "type"))
    (hE : PySem.W.hasDictIn K D = true)
    (iE : PySem.W.isClsIn K D = true)
    (sE : PySem.W.subIn K (.ref D) (.ref D) = some true)
    (rE : PySem.W.subIn K (.ref D) (.type "RuntimeError") = some true)
    (caE : PySem.W.findIn K (.ref D) "__class__" = some (some (.builtin "object.__class__")))
    (mE : PySem.W.mroIn K D (.type "object") = some true)
    (x1 : PySem.W.nsIn K mainGlobals "BadTable" = some (some (.ref e1)))
    (xi1 : PySem.W.isClsIn K e1 = true)
    (xt1 : PySem.W.typeIn K (.ref e1) = some (.type "type"))
    (xs1 : PySem.W.subIn K (.ref D) (.ref e1) = some false)
    (xd1 : (Value.ref D == Value.ref e1) = false)
    (x2 : PySem.W.nsIn K mainGlobals "Known" = some (some (.ref e2)))
    (xi2 : PySem.W.isClsIn K e2 = true)
    (xt2 : PySem.W.typeIn K (.ref e2) = some (.type "type"))
    (xs2 : PySem.W.subIn K (.ref D) (.ref e2) = some false)
    (xd2 : (Value.ref D == Value.ref e2) = false)
    (x3 : PySem.W.nsIn K mainGlobals "LastBegin" = some (some (.ref e3)))
    (xi3 : PySem.W.isClsIn K e3 = true)
    (xt3 : PySem.W.typeIn K (.ref e3) = some (.type "type"))
    (xs3 : PySem.W.subIn K (.ref D) (.ref e3) = some false)
    (xd3 : (Value.ref D == Value.ref e3) = false)
    (x4 : PySem.W.nsIn K mainGlobals "NoMove" = some (some (.ref e4)))
    (xi4 : PySem.W.isClsIn K e4 = true)
    (xt4 : PySem.W.typeIn K (.ref e4) = some (.type "type"))
    (xs4 : PySem.W.subIn K (.ref D) (.ref e4) = some false)
    (xd4 : (Value.ref D == Value.ref e4) = false)
    (x5 : PySem.W.nsIn K mainGlobals "NoState" = some (some (.ref e5)))
    (xi5 : PySem.W.isClsIn K e5 = true)
    (xt5 : PySem.W.typeIn K (.ref e5) = some (.type "type"))
    (xs5 : PySem.W.subIn K (.ref D) (.ref e5) = some false)
    (xd5 : (Value.ref D == Value.ref e5) = false)
    (x6 : PySem.W.nsIn K mainGlobals "TooGreat" = some (some (.ref e6)))
    (xi6 : PySem.W.isClsIn K e6 = true)
    (xt6 : PySem.W.typeIn K (.ref e6) = some (.type "type"))
    (xs6 : PySem.W.subIn K (.ref D) (.ref e6) = some false)
    (xd6 : (Value.ref D == Value.ref e6) = false) :
    ∃ fd : FuncData, (∀ (s : Shared) (v : Value), BindsTo s fd ⟨[v], []⟩ [("_law_script", v)]) ∧ ∀ base : Heap, K.In base → base.Ns mainGlobals mg → FnOk l.prog w K mg base CX0 9 fa fd ["_law_script"] (spLaw K) := by
  have e := hfa.symm.trans (PySem.W.mg_of X G aL)
  cases e
  have F1 := fun_mk (st := sCell) l1 c1 k1
  have F2 := fun_mk (st := sBox) l2 c2 k2
  have F3 := fun_mk (st := sTake) l3 c3 k3
  have F4 := fun_mk (st := sSame) l4 c4 k4
  have F5 := fun_mk (st := sOf) l5 c5 k5
  have F6 := fun_mk (st := sNames) l6 c6 k6
  have F7 := fun_mk (st := sTable) l7 c7 k7
  have F8 := fun_mk (st := sMade) l8 c8 k8
  have F9 := fun_mk (st := sNexts) l9 c9 k9
  have F10 := fun_mk (st := sTold) l10 c10 k10
  have F11 := fun_mk (st := sSome) l11 c11 k11
  have F12 := fun_mk (st := sAlike) l12 c12 k12
  have FP := fun_mk (st := sIsPair) lP cP kP
  have FR := fun_mk (st := sIsRising) lR cR kR
  have FI := fun_mk (st := sIsName) lI cI kI
  have FN := fun_mk (st := sIsNames) lN cN kN
  have FS := fun_mk (st := sStill) lS cS kS
  have FM := fun_mk (st := sIsMove) lM cM kM
  have FV := fun_mk (st := sAreMoves) lV cV kV
  have FB := fun_mk (st := sAreBegins) lB cB kB
  have FW := fun_mk (st := sIsShow) lW cW kW
  have FX := fun_mk (st := sAreShows) lX cX kX
  have FL := fun_mk (st := sLaw) lL cL kL
  have Fi := fun_mk (st := sInit) li ci ki
  have Fm := fun_mk (st := sMarks) lm cm km
  have Fn := fun_mk (st := sNext) ln cn kn
  have Fw := fun_mk (st := sWithout) lw cw kw
  have Fe := fun_mk (st := sEq) le ce ke
  have Fl := fun_mk (st := sLen) ll cl kl
  have Fr := fun_mk (st := sRepr) lr cr kr
  have b1 := F1.binds (ps := ["_law_script", "_law_k"]) fun _ _ _ _ _ _ us hl => match us, hl with | [_, _], _ => rfl
  have b2 := F2.binds (ps := ["_law_script", "_law_k"]) fun _ _ _ _ _ _ us hl => match us, hl with | [_, _], _ => rfl
  have b3 := F3.binds (ps := ["_law_box_here", "_law_size"]) fun _ _ _ _ _ _ us hl => match us, hl with | [_, _], _ => rfl
  have b4 := F4.binds (ps := ["_law_found", "_law_due"]) fun _ _ _ _ _ _ us hl => match us, hl with | [_, _], _ => rfl
  have b5 := F5.binds (ps := ["_law_box_here", "_law_some"]) fun _ _ _ _ _ _ us hl => match us, hl with | [_, _], _ => rfl
  have b6 := F6.binds (ps := ["_law_box_here", "_law_size"]) fun _ _ _ _ _ _ us hl => match us, hl with | [_, _], _ => rfl
  have b7 := F7.binds (ps := ["_law_box_here", "_law_nodes", "_law_marks"]) fun _ _ _ _ _ _ us hl => match us, hl with | [_, _, _], _ => rfl
  have b8 := F8.binds (ps := ["_law_t"]) fun _ _ _ _ _ _ us hl => match us, hl with | [_], _ => rfl
  have b9 := F9.binds (ps := ["_law_t", "_law_node"]) fun _ _ _ _ _ _ us hl => match us, hl with | [_, _], _ => rfl
  have b10 := F10.binds (ps := ["_law_table_here", "_law_some", "_law_named"]) fun _ _ _ _ _ _ us hl => match us, hl with | [_, _, _], _ => rfl
  have b11 := F11.binds (ps := ["_law_box_here", "_law_t"]) fun _ _ _ _ _ _ us hl => match us, hl with | [_, _], _ => rfl
  have b12 := F12.binds (ps := ["_law_box_here", "_law_t"]) fun _ _ _ _ _ _ us hl => match us, hl with | [_, _], _ => rfl
  have bP := FP.binds (ps := ["thing"]) fun _ _ _ _ _ _ us hl => match us, hl with | [_], _ => rfl
  have bR := FR.binds (ps := ["things"]) fun _ _ _ _ _ _ us hl => match us, hl with | [_], _ => rfl
  have bI := FI.binds (ps := ["thing"]) fun _ _ _ _ _ _ us hl => match us, hl with | [_], _ => rfl
  have bN := FN.binds (ps := ["thing", "most"]) fun _ _ _ _ _ _ us hl => match us, hl with | [_, _], _ => rfl
  have bS := FS.binds (ps := ["moves", "states"]) fun _ _ _ _ _ _ us hl => match us, hl with | [_, _], _ => rfl
  have bM := FM.binds (ps := ["thing", "states"]) fun _ _ _ _ _ _ us hl => match us, hl with | [_, _], _ => rfl
  have bV := FV.binds (ps := ["thing", "states"]) fun _ _ _ _ _ _ us hl => match us, hl with | [_, _], _ => rfl
  have bB := FB.binds (ps := ["thing", "states"]) fun _ _ _ _ _ _ us hl => match us, hl with | [_, _], _ => rfl
  have bW := FW.binds (ps := ["thing", "states"]) fun _ _ _ _ _ _ us hl => match us, hl with | [_, _], _ => rfl
  have bX := FX.binds (ps := ["thing", "states"]) fun _ _ _ _ _ _ us hl => match us, hl with | [_, _], _ => rfl
  have bm := Fm.binds (ps := ["self", "state"]) fun _ _ _ _ _ _ us hl => match us, hl with | [_, _], _ => rfl
  have bn := Fn.binds (ps := ["self", "state"]) fun _ _ _ _ _ _ us hl => match us, hl with | [_, _], _ => rfl
  have bw := Fw.binds (ps := ["self", "moves"]) fun _ _ _ _ _ _ us hl => match us, hl with | [_, _], _ => rfl
  have be := Fe.binds (ps := ["self", "other"]) fun _ _ _ _ _ _ us hl => match us, hl with | [_, _], _ => rfl
  have bl := Fl.binds (ps := ["self"]) fun _ _ _ _ _ _ us hl => match us, hl with | [_], _ => rfl
  have br := Fr.binds (ps := ["self"]) fun _ _ _ _ _ _ us hl => match us, hl with | [_], _ => rfl
  have T : Txt K mg C := ⟨⟨pg, hd, po, sa⟩, nS, nM, nB, nW, PySem.W.mg_of X G aC⟩
  have M : Mk K C fi := ⟨mk, ai, gi, kc⟩
  have Z := Hlp.mk (K := K) (mg := mg) FP bP (PySem.W.mg_of X G aP) FR bR (PySem.W.mg_of X G aR) FI bI (PySem.W.mg_of X G aI) FN bN (PySem.W.mg_of X G aN) FS bS (PySem.W.mg_of X G aS) FM bM (PySem.W.mg_of X G aM) FV bV (PySem.W.mg_of X G aV) FB bB (PySem.W.mg_of X G aB) FW bW (PySem.W.mg_of X G aW) FX bX (PySem.W.mg_of X G aX) (PySem.W.mg_none_of X G z_isinstance) (PySem.W.mg_none_of X G z_len) (PySem.W.mg_none_of X G z_all) (PySem.W.mg_none_of X G z_str) (PySem.W.mg_none_of X G z_tuple) (PySem.W.mg_none_of X G z_zip) ⟨_, PySem.W.mg_of X G mLe⟩ ⟨_, PySem.W.mg_of X G mMk⟩ ⟨_, PySem.W.mg_of X G mMv⟩ ⟨_, PySem.W.mg_of X G mSt⟩
  have O := Own.mk (K := K) (mg := mg) (C := C) Fe be ae ge Fl bl al gl Fr br ar gr nE nO mO ca cgt ctk n1 n2 n3 n4 n5 (kit_ref (by rfl) icC tyC s1) (kit_ref (by rfl) icC tyC s2) (kit_ref (by rfl) icC tyC s3) (kit_ref (by rfl) icC tyC s4) (kit_ref (by rfl) icC tyC s5)
  have low : PySem.LmX.LmTxt K mg D fE :=
    { gC := PySem.W.mg_of X G aE, cls := ⟨nmE, qE, NE, bsE, _, snE, subE, abE, colE, ddE, m0, m1, m2, m3, m5, xL, rfl⟩, sa := saE, ga := gaE, gg := ggE, noN := noE, iC := aEi, tC := tEi, kC := kE, exC := eE, tyC := tE, hdC := hE, te := exm_own eE iE tE sE,
      fn := ⟨_, _, _, _, _, _, _, _, _, _, _, _, _, _, lEi, cEi⟩ }
  have xc : XcC K D := ⟨iE, gaE, ggE, eE, caE, cgt, ctk, mE⟩
  have ka : PySem.W.kitAny K (.ref D) [.ref e1, .ref e2, .ref e3, .ref e4, .ref e5, .ref e6] = some false := by
    simp only [PySem.W.kitAny, kit_ref xd1 xi1 xt1 xs1, kit_ref xd2 xi2 xt2 xs2, kit_ref xd3 xi3 xt3 xs3, kit_ref xd4 xi4 xt4 xs4, kit_ref xd5 xi5 xt5 xs5, kit_ref xd6 xi6 xt6 xs6]
  have R : Erx K mg D fE e1 e2 e3 e4 e5 e6 := ⟨low, xc, PySem.W.mg_of X G x1, PySem.W.mg_of X G x2, PySem.W.mg_of X G x3, PySem.W.mg_of X G x4, PySem.W.mg_of X G x5, PySem.W.mg_of X G x6, PySem.W.mg_none_of X G z_RuntimeError, ka, kit_typ (by decide +kernel) rE⟩
  have W := Lws.mk (K := K) (mg := mg) (C := C) F1 b1 (PySem.W.mg_of X G a1) F2 b2 (PySem.W.mg_of X G a2) F3 b3 (PySem.W.mg_of X G a3) F4 b4 (PySem.W.mg_of X G a4) F5 b5 (PySem.W.mg_of X G a5) F6 b6 (PySem.W.mg_of X G a6) F7 b7 (PySem.W.mg_of X G a7) F8 b8 (PySem.W.mg_of X G a8) F9 b9 (PySem.W.mg_of X G a9) F10 b10 (PySem.W.mg_of X G a10) F11 b11 (PySem.W.mg_of X G a11) F12 b12 (PySem.W.mg_of X G a12) Fm bm ⟨am, gm, km⟩ Fn bn ⟨an, gn, kn⟩ Fw bw ⟨aw, gw, kw⟩ (PySem.W.mg_none_of X G z_abs) (PySem.W.mg_none_of X G z_int) (PySem.W.mg_none_of X G z_range) (PySem.W.mg_none_of X G z_sorted) (PySem.W.mg_none_of X G z_set) (PySem.W.mg_none_of X G z_min) (PySem.W.mg_none_of X G z_list) (PySem.W.mg_none_of X G z_bool) (PySem.W.mg_none_of X G z_dict) (PySem.W.mg_none_of X G z_repr) (PySem.W.mg_none_of X G z_any)
  exact ⟨PySem.W.fnOf "law" "law" (defArgs sLaw) (defBody sLaw) (defScope sLaw) .none kVL dcL pmL anL cdL ctL, fun s v => .of_eq rfl, fun base _ _ => ok_law FL W Fi M T Z O R⟩
theorem walk {l : PySem.W.OpenLaw} {q : Program} {loose : List Str} {XP : (Str → Option Value) → Heap → Prop} {YP : World → Heap → Prop} {d : DefRec} {K : Params → PySem.W.Frag} (hn : l.most = some 63) (hdf : d.params.defaults = [])
    (hY : ∀ (w : World) (h : Heap), YP w h → (K w.params).In h)
    (F : ∀ (w : World) (mg : Str → Option Value) (fa : Addr) (h : Heap), (K w.params).In h → h.Ns mainGlobals mg → mg d.name = some (.ref fa) →
      ∃ fd : FuncData, (∀ (s : Shared) (u : Value), BindsTo s fd ⟨[u], []⟩ [("_law_script", u)]) ∧ ∀ base : Heap, (K w.params).In base → base.Ns mainGlobals mg → FnOk l.prog w (K w.params) mg base CX0 9 fa fd ["_law_script"] (spLaw (K w.params))) :
    PySem.W.WalkO q loose XP YP l.row.toRowW d [] (fun f vs => PySem.call f vs) :=
  L2.walk_of (n := 63) (k := 9) (x := "_law_script") (CX := fun _ => CX0) (sp := fun w => spLaw (K w.params)) hn (by decide) hdf ⟨rfl, by decide, by decide⟩ hY F (fun _ _ a ns hl _ hS => ⟨a, ns, rfl, hS, hl, fun _ => rfl⟩) fun _ _ _ _ _ z => z
end Mr

/-! AK -/
set_option Elab.async false
set_option linter.all false
open PySem PySem.W PyProof.Rows
set_option maxRecDepth 100000 in
set_option maxHeartbeats 0 in
theorem PySem.Challenge.cw_manyruns_k02_marks_nexts_and_moves_taken_holds : PySem.Challenge.rw_manyruns_k02_marks_nexts_and_moves_taken.Holds := by
  w_on; o_law; k_head; (case hw => w_witness2)
  k_fill
  refine Mr.walk (l := PySem.Challenge.rw_manyruns_k02_marks_nexts_and_moves_taken) rfl rfl (fun w h Y => PySem.W.kIn_of Y) ?F
  case F =>
    intro w mg fa h KX G hmg
    refine' Mr.all_mk KX G hmg ?q_a1 ?q_l1 ?q_c1 ?q_k1 ?q_a2 ?q_l2 ?q_c2 ?q_k2 ?q_a3 ?q_l3 ?q_c3 ?q_k3 ?q_a4 ?q_l4 ?q_c4 ?q_k4 ?q_a5 ?q_l5 ?q_c5 ?q_k5 ?q_a6 ?q_l6 ?q_c6 ?q_k6 ?q_a7 ?q_l7 ?q_c7 ?q_k7 ?q_a8 ?q_l8 ?q_c8 ?q_k8 ?q_a9 ?q_l9 ?q_c9 ?q_k9 ?q_a10 ?q_l10 ?q_c10 ?q_k10 ?q_a11 ?q_l11 ?q_c11 ?q_k11 ?q_a12 ?q_l12 ?q_c12 ?q_k12 ?q_aP ?q_lP ?q_cP ?q_kP ?q_aR ?q_lR ?q_cR ?q_kR ?q_aI ?q_lI ?q_cI ?q_kI ?q_aN ?q_lN ?q_cN ?q_kN ?q_aS ?q_lS ?q_cS ?q_kS ?q_aM ?q_lM ?q_cM ?q_kM ?q_aV ?q_lV ?q_cV ?q_kV ?q_aB ?q_lB ?q_cB ?q_kB ?q_aW ?q_lW ?q_cW ?q_kW ?q_aX ?q_lX ?q_cX ?q_kX ?q_aL ?q_lL ?q_cL ?q_kL ?q_aC ?q_ai ?q_gi ?q_li ?q_ci ?q_ki ?q_am ?q_gm ?q_lm ?q_cm ?q_km ?q_an ?q_gn ?q_ln ?q_cn ?q_kn ?q_aw ?q_gw ?q_lw ?q_cw ?q_kw ?q_ae ?q_ge ?q_le ?q_ce ?q_ke ?q_al ?q_gl ?q_ll ?q_cl ?q_kl ?q_ar ?q_gr ?q_lr ?q_cr ?q_kr ?q_pg ?q_hd ?q_po ?q_sa ?q_mk ?q_kc ?q_nS ?q_nM ?q_nB ?q_nW ?q_z_abs ?q_z_int ?q_z_range ?q_z_sorted ?q_z_set ?q_z_min ?q_z_list ?q_z_bool ?q_z_dict ?q_z_repr ?q_z_any ?q_z_isinstance ?q_z_len ?q_z_all ?q_z_str ?q_z_tuple ?q_z_zip ?q_z_RuntimeError ?q_mLe ?q_mMk ?q_mMv ?q_mSt ?q_nE ?q_nO ?q_mO ?q_ca ?q_cgt ?q_ctk ?q_icC ?q_tyC ?q_n1 ?q_s1 ?q_n2 ?q_s2 ?q_n3 ?q_s3 ?q_n4 ?q_s4 ?q_n5 ?q_s5 ?q_aE ?q_xL ?q_saE ?q_gaE ?q_ggE ?q_noE ?q_aEi ?q_tEi ?q_lEi ?q_cEi ?q_kE ?q_eE ?q_tE ?q_hE ?q_iE ?q_sE ?q_rE ?q_caE ?q_mE ?q_x1 ?q_xi1 ?q_xt1 ?q_xs1 ?q_xd1 ?q_x2 ?q_xi2 ?q_xt2 ?q_xs2 ?q_xd2 ?q_x3 ?q_xi3 ?q_xt3 ?q_xs3 ?q_xd3 ?q_x4 ?q_xi4 ?q_xt4 ?q_xs4 ?q_xd4 ?q_x5 ?q_xi5 ?q_xt5 ?q_xs5 ?q_xd5 ?q_x6 ?q_xi6 ?q_xt6 ?q_xs6 ?q_xd6
    (case q_a1 => k_is)
    (case q_l1 => k_is)
    (case q_c1 => k_is)
    (case q_k1 => k_is)
    (case q_a2 => k_is)
    (case q_l2 => k_is)
    (case q_c2 => k_is)
    (case q_k2 => k_is)
    (case q_a3 => k_is)
    (case q_l3 => k_is)
    (case q_c3 => k_is)
    (case q_k3 => k_is)
    (case q_a4 => k_is)
    (case q_l4 => k_is)
    (case q_c4 => k_is)
    (case q_k4 => k_is)
    (case q_a5 => k_is)
    (case q_l5 => k_is)
    (case q_c5 => k_is)
    (case q_k5 => k_is)
    (case q_a6 => k_is)
    (case q_l6 => k_is)
    (case q_c6 => k_is)
    (case q_k6 => k_is)
    (case q_a7 => k_is)
    (case q_l7 => k_is)
    (case q_c7 => k_is)
    (case q_k7 => k_is)
    (case q_a8 => k_is)
    (case q_l8 => k_is)
    (case q_c8 => k_is)
    (case q_k8 => k_is)
    (case q_a9 => k_is)
    (case q_l9 => k_is)
    (case q_c9 => k_is)
    (case q_k9 => k_is)
    (case q_a10 => k_is)
    (case q_l10 => k_is)
    (case q_c10 => k_is)
    (case q_k10 => k_is)
    (case q_a11 => k_is)
    (case q_l11 => k_is)
    (case q_c11 => k_is)
    (case q_k11 => k_is)
    (case q_a12 => k_is)
    (case q_l12 => k_is)
    (case q_c12 => k_is)
    (case q_k12 => k_is)
    (case q_aP => k_is)
    (case q_lP => k_is)
    (case q_cP => k_is)
    (case q_kP => k_is)
    (case q_aR => k_is)
    (case q_lR => k_is)
    (case q_cR => k_is)
    (case q_kR => k_is)
    (case q_aI => k_is)
    (case q_lI => k_is)
    (case q_cI => k_is)
    (case q_kI => k_is)
    (case q_aN => k_is)
    (case q_lN => k_is)
    (case q_cN => k_is)
    (case q_kN => k_is)
    (case q_aS => k_is)
    (case q_lS => k_is)
    (case q_cS => k_is)
    (case q_kS => k_is)
    (case q_aM => k_is)
    (case q_lM => k_is)
    (case q_cM => k_is)
    (case q_kM => k_is)
    (case q_aV => k_is)
    (case q_lV => k_is)
    (case q_cV => k_is)
    (case q_kV => k_is)
    (case q_aB => k_is)
    (case q_lB => k_is)
    (case q_cB => k_is)
    (case q_kB => k_is)
    (case q_aW => k_is)
    (case q_lW => k_is)
    (case q_cW => k_is)
    (case q_kW => k_is)
    (case q_aX => k_is)
    (case q_lX => k_is)
    (case q_cX => k_is)
    (case q_kX => k_is)
    (case q_aL => k_is)
    (case q_lL => k_is)
    (case q_cL => k_is)
    (case q_kL => k_is)
    (case q_aC => k_is)
    (case q_ai => k_is)
    (case q_gi => k_is)
    (case q_li => k_is)
    (case q_ci => k_is)
    (case q_ki => k_is)
    (case q_am => k_is)
    (case q_gm => k_is)
    (case q_lm => k_is)
    (case q_cm => k_is)
    (case q_km => k_is)
    (case q_an => k_is)
    (case q_gn => k_is)
    (case q_ln => k_is)
    (case q_cn => k_is)
    (case q_kn => k_is)
    (case q_aw => k_is)
    (case q_gw => k_is)
    (case q_lw => k_is)
    (case q_cw => k_is)
    (case q_kw => k_is)
    (case q_ae => k_is)
    (case q_ge => k_is)
    (case q_le => k_is)
    (case q_ce => k_is)
    (case q_ke => k_is)
    (case q_al => k_is)
    (case q_gl => k_is)
    (case q_ll => k_is)
    (case q_cl => k_is)
    (case q_kl => k_is)
    (case q_ar => k_is)
    (case q_gr => k_is)
    (case q_lr => k_is)
    (case q_cr => k_is)
    (case q_kr => k_is)
    (case q_pg => k_is)
    (case q_hd => k_is)
    (case q_po => k_is)
    (case q_sa => k_is)
    (case q_mk => k_is)
    (case q_kc => k_is)
    (case q_nS => k_is)
    (case q_nM => k_is)
    (case q_nB => k_is)
    (case q_nW => k_is)
    (case q_z_abs => k_is)
    (case q_z_int => k_is)
    (case q_z_range => k_is)
    (case q_z_sorted => k_is)
    (case q_z_set => k_is)
    (case q_z_min => k_is)
    (case q_z_list => k_is)
    (case q_z_bool => k_is)
    (case q_z_dict => k_is)
    (case q_z_repr => k_is)
    (case q_z_any => k_is)
    (case q_z_isinstance => k_is)
    (case q_z_len => k_is)
    (case q_z_all => k_is)
    (case q_z_str => k_is)
    (case q_z_tuple => k_is)
    (case q_z_zip => k_is)
    (case q_z_RuntimeError => k_is)
    (case q_mLe => k_is)
    (case q_mMk => k_is)
    (case q_mMv => k_is)
    (case q_mSt => k_is)
    (case q_nE => k_is)
    (case q_nO => k_is)
    (case q_mO => k_is)
    (case q_ca => k_is)
    (case q_cgt => k_is)
    (case q_ctk => k_is)
    (case q_icC => k_is)
    (case q_tyC => k_is)
    (case q_n1 => k_is)
    (case q_s1 => k_is)
    (case q_n2 => k_is)
    (case q_s2 => k_is)
    (case q_n3 => k_is)
    (case q_s3 => k_is)
    (case q_n4 => k_is)
    (case q_s4 => k_is)
    (case q_n5 => k_is)
    (case q_s5 => k_is)
    (case q_aE => k_is)
    (case q_xL => k_is)
    (case q_saE => k_is)
    (case q_gaE => k_is)
    (case q_ggE => k_is)
    (case q_noE => k_is)
    (case q_aEi => k_is)
    (case q_tEi => k_is)
    (case q_lEi => k_is)
    (case q_cEi => k_is)
    (case q_kE => k_is)
    (case q_eE => k_is)
    (case q_tE => k_is)
    (case q_hE => k_is)
    (case q_iE => k_is)
    (case q_sE => first | rfl | k_is)
    (case q_rE => k_is)
    (case q_caE => k_is)
    (case q_mE => k_is)
    (case q_x1 => k_is)
    (case q_xi1 => k_is)
    (case q_xt1 => k_is)
    (case q_xs1 => k_is)
    (case q_xd1 => rfl)
    (case q_x2 => k_is)
    (case q_xi2 => k_is)
    (case q_xt2 => k_is)
    (case q_xs2 => k_is)
    (case q_xd2 => rfl)
    (case q_x3 => k_is)
    (case q_xi3 => k_is)
    (case q_xt3 => k_is)
    (case q_xs3 => k_is)
    (case q_xd3 => rfl)
    (case q_x4 => k_is)
    (case q_xi4 => k_is)
    (case q_xt4 => k_is)
    (case q_xs4 => k_is)
    (case q_xd4 => rfl)
    (case q_x5 => k_is)
    (case q_xi5 => k_is)
    (case q_xt5 => k_is)
    (case q_xs5 => k_is)
    (case q_xd5 => rfl)
    (case q_x6 => k_is)
    (case q_xi6 => k_is)
    (case q_xt6 => k_is)
    (case q_xs6 => k_is)
    (case q_xd6 => rfl)

