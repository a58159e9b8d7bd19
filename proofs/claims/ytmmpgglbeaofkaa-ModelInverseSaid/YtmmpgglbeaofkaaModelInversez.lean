/-
  'ModelInverse': whatever it is given.
-/
import Derived.Test.YtmmpgglbeaofkaaModelInverse0
import Derived.Test.YtmmpgglbeaofkaaModelInverse1
import Derived.Test.YtmmpgglbeaofkaaModelInverse1a
import Derived.Test.YtmmpgglbeaofkaaModelInverse1b
import Derived.Test.YtmmpgglbeaofkaaModelInverse1c
import Derived.Test.YtmmpgglbeaofkaaModelInverse2
import Derived.Test.YtmmpgglbeaofkaaModelInverse3
import Derived.Test.YtmmpgglbeaofkaaModelInverse4
import Derived.Test.YtmmpgglbeaofkaaModelInverse5
import Derived.Test.YtmmpgglbeaofkaaModelInverse6
import Derived.Test.YtmmpgglbeaofkaaModelInverse7
import Derived.Test.YtmmpgglbeaofkaaModelInverse8
import Derived.Test.YtmmpgglbeaofkaaModelInverse9
import Derived.Test.YtmmpgglbeaofkaaModelInverse10
import Derived.Test.YtmmpgglbeaofkaaModelInverse11
import Derived.Test.YtmmpgglbeaofkaaModelInverse12
import Derived.Test.YtmmpgglbeaofkaaModelInverse13
import Derived.Test.YtmmpgglbeaofkaaModelInverse14
import Derived.Test.YtmmpgglbeaofkaaModelInverse15
import Derived.Test.YtmmpgglbeaofkaaModelInverse16
import Derived.Test.YtmmpgglbeaofkaaModelInverse17
namespace Go.Proofs.Ytmmpgglbeaofkaa
open Go.RowKit Ex
theorem below_succ {P : Nat → Prop} {n : Nat} (h : ∀ d, d < n → P d) (hn : P n) : ∀ d, d < n + 1 → P d := fun d hd => by
  by_cases e : d = n
  · rw [e]; exact hn
  · exact h d (by omega)
theorem in_tab2 {j1 n1 j2 n2 : Nat} {tb : Tab} (h : tb ∈ tabs [(j1, n1), (j2, n2)]) : ∃ c d : Nat, c < n1 ∧ d < n2 ∧ tb = [(j1, (n1 : Int), (c : Int)), (j2, (n2 : Int), (d : Int))] := by
  simp only [tabs, List.mem_flatMap, List.mem_range, List.mem_map, List.mem_singleton] at h
  obtain ⟨c, hc, t, ⟨d, hd, u, rfl, rfl⟩, rfl⟩ := h
  exact ⟨c, d, hc, hd, rfl⟩
def modelInverseP (c : Int) (t : Nms) (d : Nat) : Prop := lawRunT 12 10 200 [.i, .i] [(1, 9, c), (0, 56, (d : Int))] ([]) t = true
set_option maxRecDepth 1000000 in
theorem modelInverseRow0 : ∀ d, d < 56 → modelInverseP 0 modelInverseNms0 d := by
  refine below_succ ?_ modelInverse_0_55_x
  refine below_succ ?_ modelInverse_0_54_x
  refine below_succ ?_ modelInverse_0_53_x
  refine below_succ ?_ modelInverse_0_52_x
  refine below_succ ?_ modelInverse_0_51_x
  refine below_succ ?_ modelInverse_0_50_x
  refine below_succ ?_ modelInverse_0_49_x
  refine below_succ ?_ modelInverse_0_48_x
  refine below_succ ?_ modelInverse_0_47_x
  refine below_succ ?_ modelInverse_0_46_x
  refine below_succ ?_ modelInverse_0_45_x
  refine below_succ ?_ modelInverse_0_44_x
  refine below_succ ?_ modelInverse_0_43_x
  refine below_succ ?_ modelInverse_0_42_x
  refine below_succ ?_ modelInverse_0_41_x
  refine below_succ ?_ modelInverse_0_40_x
  refine below_succ ?_ modelInverse_0_39_x
  refine below_succ ?_ modelInverse_0_38_x
  refine below_succ ?_ modelInverse_0_37_x
  refine below_succ ?_ modelInverse_0_36_x
  refine below_succ ?_ modelInverse_0_35_x
  refine below_succ ?_ modelInverse_0_34_x
  refine below_succ ?_ modelInverse_0_33_x
  refine below_succ ?_ modelInverse_0_32_x
  refine below_succ ?_ modelInverse_0_31_x
  refine below_succ ?_ modelInverse_0_30_x
  refine below_succ ?_ modelInverse_0_29_x
  refine below_succ ?_ modelInverse_0_28_x
  refine below_succ ?_ modelInverse_0_27_x
  refine below_succ ?_ modelInverse_0_26_x
  refine below_succ ?_ modelInverse_0_25_x
  refine below_succ ?_ modelInverse_0_24_x
  refine below_succ ?_ modelInverse_0_23_x
  refine below_succ ?_ modelInverse_0_22_x
  refine below_succ ?_ modelInverse_0_21_x
  refine below_succ ?_ modelInverse_0_20_x
  refine below_succ ?_ modelInverse_0_19_x
  refine below_succ ?_ modelInverse_0_18_x
  refine below_succ ?_ modelInverse_0_17_x
  refine below_succ ?_ modelInverse_0_16_x
  refine below_succ ?_ modelInverse_0_15_x
  refine below_succ ?_ modelInverse_0_14_x
  refine below_succ ?_ modelInverse_0_13_x
  refine below_succ ?_ modelInverse_0_12_x
  refine below_succ ?_ modelInverse_0_11_x
  refine below_succ ?_ modelInverse_0_10_x
  refine below_succ ?_ modelInverse_0_9_x
  refine below_succ ?_ modelInverse_0_8_x
  refine below_succ ?_ modelInverse_0_7_x
  refine below_succ ?_ modelInverse_0_6_x
  refine below_succ ?_ modelInverse_0_5_x
  refine below_succ ?_ modelInverse_0_4_x
  refine below_succ ?_ modelInverse_0_3_x
  refine below_succ ?_ modelInverse_0_2_x
  refine below_succ ?_ modelInverse_0_1_x
  refine below_succ ?_ modelInverse_0_0_x
  exact fun d h => absurd h (Nat.not_lt_zero d)
set_option maxRecDepth 1000000 in
theorem modelInverseRow1 : ∀ d, d < 56 → modelInverseP 1 modelInverseNms1 d := by
  refine below_succ ?_ modelInverse_1_55_x
  refine below_succ ?_ modelInverse_1_54_x
  refine below_succ ?_ modelInverse_1_53_x
  refine below_succ ?_ modelInverse_1_52_x
  refine below_succ ?_ modelInverse_1_51_x
  refine below_succ ?_ modelInverse_1_50_x
  refine below_succ ?_ modelInverse_1_49_x
  refine below_succ ?_ modelInverse_1_48_x
  refine below_succ ?_ modelInverse_1_47_x
  refine below_succ ?_ modelInverse_1_46_x
  refine below_succ ?_ modelInverse_1_45_x
  refine below_succ ?_ modelInverse_1_44_x
  refine below_succ ?_ modelInverse_1_43_x
  refine below_succ ?_ modelInverse_1_42_x
  refine below_succ ?_ modelInverse_1_41_x
  refine below_succ ?_ modelInverse_1_40_x
  refine below_succ ?_ modelInverse_1_39_x
  refine below_succ ?_ modelInverse_1_38_x
  refine below_succ ?_ modelInverse_1_37_x
  refine below_succ ?_ modelInverse_1_36_x
  refine below_succ ?_ modelInverse_1_35_x
  refine below_succ ?_ modelInverse_1_34_x
  refine below_succ ?_ modelInverse_1_33_x
  refine below_succ ?_ modelInverse_1_32_x
  refine below_succ ?_ modelInverse_1_31_x
  refine below_succ ?_ modelInverse_1_30_x
  refine below_succ ?_ modelInverse_1_29_x
  refine below_succ ?_ modelInverse_1_28_x
  refine below_succ ?_ modelInverse_1_27_x
  refine below_succ ?_ modelInverse_1_26_x
  refine below_succ ?_ modelInverse_1_25_x
  refine below_succ ?_ modelInverse_1_24_x
  refine below_succ ?_ modelInverse_1_23_x
  refine below_succ ?_ modelInverse_1_22_x
  refine below_succ ?_ modelInverse_1_21_x
  refine below_succ ?_ modelInverse_1_20_x
  refine below_succ ?_ modelInverse_1_19_x
  refine below_succ ?_ modelInverse_1_18_x
  refine below_succ ?_ modelInverse_1_17_x
  refine below_succ ?_ modelInverse_1_16_x
  refine below_succ ?_ modelInverse_1_15_x
  refine below_succ ?_ modelInverse_1_14_x
  refine below_succ ?_ modelInverse_1_13_x
  refine below_succ ?_ modelInverse_1_12_x
  refine below_succ ?_ modelInverse_1_11_x
  refine below_succ ?_ modelInverse_1_10_x
  refine below_succ ?_ modelInverse_1_9_x
  refine below_succ ?_ modelInverse_1_8_x
  refine below_succ ?_ modelInverse_1_7_x
  refine below_succ ?_ modelInverse_1_6_x
  refine below_succ ?_ modelInverse_1_5_x
  refine below_succ ?_ modelInverse_1_4_x
  refine below_succ ?_ modelInverse_1_3_x
  refine below_succ ?_ modelInverse_1_2_x
  refine below_succ ?_ modelInverse_1_1_x
  refine below_succ ?_ modelInverse_1_0_x
  exact fun d h => absurd h (Nat.not_lt_zero d)
set_option maxRecDepth 1000000 in
theorem modelInverseRow2 : ∀ d, d < 56 → modelInverseP 2 modelInverseNms2 d := by
  refine below_succ ?_ modelInverse_2_55_x
  refine below_succ ?_ modelInverse_2_54_x
  refine below_succ ?_ modelInverse_2_53_x
  refine below_succ ?_ modelInverse_2_52_x
  refine below_succ ?_ modelInverse_2_51_x
  refine below_succ ?_ modelInverse_2_50_x
  refine below_succ ?_ modelInverse_2_49_x
  refine below_succ ?_ modelInverse_2_48_x
  refine below_succ ?_ modelInverse_2_47_x
  refine below_succ ?_ modelInverse_2_46_x
  refine below_succ ?_ modelInverse_2_45_x
  refine below_succ ?_ modelInverse_2_44_x
  refine below_succ ?_ modelInverse_2_43_x
  refine below_succ ?_ modelInverse_2_42_x
  refine below_succ ?_ modelInverse_2_41_x
  refine below_succ ?_ modelInverse_2_40_x
  refine below_succ ?_ modelInverse_2_39_x
  refine below_succ ?_ modelInverse_2_38_x
  refine below_succ ?_ modelInverse_2_37_x
  refine below_succ ?_ modelInverse_2_36_x
  refine below_succ ?_ modelInverse_2_35_x
  refine below_succ ?_ modelInverse_2_34_x
  refine below_succ ?_ modelInverse_2_33_x
  refine below_succ ?_ modelInverse_2_32_x
  refine below_succ ?_ modelInverse_2_31_x
  refine below_succ ?_ modelInverse_2_30_x
  refine below_succ ?_ modelInverse_2_29_x
  refine below_succ ?_ modelInverse_2_28_x
  refine below_succ ?_ modelInverse_2_27_x
  refine below_succ ?_ modelInverse_2_26_x
  refine below_succ ?_ modelInverse_2_25_x
  refine below_succ ?_ modelInverse_2_24_x
  refine below_succ ?_ modelInverse_2_23_x
  refine below_succ ?_ modelInverse_2_22_x
  refine below_succ ?_ modelInverse_2_21_x
  refine below_succ ?_ modelInverse_2_20_x
  refine below_succ ?_ modelInverse_2_19_x
  refine below_succ ?_ modelInverse_2_18_x
  refine below_succ ?_ modelInverse_2_17_x
  refine below_succ ?_ modelInverse_2_16_x
  refine below_succ ?_ modelInverse_2_15_x
  refine below_succ ?_ modelInverse_2_14_x
  refine below_succ ?_ modelInverse_2_13_x
  refine below_succ ?_ modelInverse_2_12_x
  refine below_succ ?_ modelInverse_2_11_x
  refine below_succ ?_ modelInverse_2_10_x
  refine below_succ ?_ modelInverse_2_9_x
  refine below_succ ?_ modelInverse_2_8_x
  refine below_succ ?_ modelInverse_2_7_x
  refine below_succ ?_ modelInverse_2_6_x
  refine below_succ ?_ modelInverse_2_5_x
  refine below_succ ?_ modelInverse_2_4_x
  refine below_succ ?_ modelInverse_2_3_x
  refine below_succ ?_ modelInverse_2_2_x
  refine below_succ ?_ modelInverse_2_1_x
  refine below_succ ?_ modelInverse_2_0_x
  exact fun d h => absurd h (Nat.not_lt_zero d)
set_option maxRecDepth 1000000 in
theorem modelInverseRow3 : ∀ d, d < 56 → modelInverseP 3 modelInverseNms3 d := by
  refine below_succ ?_ modelInverse_3_55_x
  refine below_succ ?_ modelInverse_3_54_x
  refine below_succ ?_ modelInverse_3_53_x
  refine below_succ ?_ modelInverse_3_52_x
  refine below_succ ?_ modelInverse_3_51_x
  refine below_succ ?_ modelInverse_3_50_x
  refine below_succ ?_ modelInverse_3_49_x
  refine below_succ ?_ modelInverse_3_48_x
  refine below_succ ?_ modelInverse_3_47_x
  refine below_succ ?_ modelInverse_3_46_x
  refine below_succ ?_ modelInverse_3_45_x
  refine below_succ ?_ modelInverse_3_44_x
  refine below_succ ?_ modelInverse_3_43_x
  refine below_succ ?_ modelInverse_3_42_x
  refine below_succ ?_ modelInverse_3_41_x
  refine below_succ ?_ modelInverse_3_40_x
  refine below_succ ?_ modelInverse_3_39_x
  refine below_succ ?_ modelInverse_3_38_x
  refine below_succ ?_ modelInverse_3_37_x
  refine below_succ ?_ modelInverse_3_36_x
  refine below_succ ?_ modelInverse_3_35_x
  refine below_succ ?_ modelInverse_3_34_x
  refine below_succ ?_ modelInverse_3_33_x
  refine below_succ ?_ modelInverse_3_32_x
  refine below_succ ?_ modelInverse_3_31_x
  refine below_succ ?_ modelInverse_3_30_x
  refine below_succ ?_ modelInverse_3_29_x
  refine below_succ ?_ modelInverse_3_28_x
  refine below_succ ?_ modelInverse_3_27_x
  refine below_succ ?_ modelInverse_3_26_x
  refine below_succ ?_ modelInverse_3_25_x
  refine below_succ ?_ modelInverse_3_24_x
  refine below_succ ?_ modelInverse_3_23_x
  refine below_succ ?_ modelInverse_3_22_x
  refine below_succ ?_ modelInverse_3_21_x
  refine below_succ ?_ modelInverse_3_20_x
  refine below_succ ?_ modelInverse_3_19_x
  refine below_succ ?_ modelInverse_3_18_x
  refine below_succ ?_ modelInverse_3_17_x
  refine below_succ ?_ modelInverse_3_16_x
  refine below_succ ?_ modelInverse_3_15_x
  refine below_succ ?_ modelInverse_3_14_x
  refine below_succ ?_ modelInverse_3_13_x
  refine below_succ ?_ modelInverse_3_12_x
  refine below_succ ?_ modelInverse_3_11_x
  refine below_succ ?_ modelInverse_3_10_x
  refine below_succ ?_ modelInverse_3_9_x
  refine below_succ ?_ modelInverse_3_8_x
  refine below_succ ?_ modelInverse_3_7_x
  refine below_succ ?_ modelInverse_3_6_x
  refine below_succ ?_ modelInverse_3_5_x
  refine below_succ ?_ modelInverse_3_4_x
  refine below_succ ?_ modelInverse_3_3_x
  refine below_succ ?_ modelInverse_3_2_x
  refine below_succ ?_ modelInverse_3_1_x
  refine below_succ ?_ modelInverse_3_0_x
  exact fun d h => absurd h (Nat.not_lt_zero d)
set_option maxRecDepth 1000000 in
theorem modelInverseRow4 : ∀ d, d < 56 → modelInverseP 4 modelInverseNms4 d := by
  refine below_succ ?_ modelInverse_4_55_x
  refine below_succ ?_ modelInverse_4_54_x
  refine below_succ ?_ modelInverse_4_53_x
  refine below_succ ?_ modelInverse_4_52_x
  refine below_succ ?_ modelInverse_4_51_x
  refine below_succ ?_ modelInverse_4_50_x
  refine below_succ ?_ modelInverse_4_49_x
  refine below_succ ?_ modelInverse_4_48_x
  refine below_succ ?_ modelInverse_4_47_x
  refine below_succ ?_ modelInverse_4_46_x
  refine below_succ ?_ modelInverse_4_45_x
  refine below_succ ?_ modelInverse_4_44_x
  refine below_succ ?_ modelInverse_4_43_x
  refine below_succ ?_ modelInverse_4_42_x
  refine below_succ ?_ modelInverse_4_41_x
  refine below_succ ?_ modelInverse_4_40_x
  refine below_succ ?_ modelInverse_4_39_x
  refine below_succ ?_ modelInverse_4_38_x
  refine below_succ ?_ modelInverse_4_37_x
  refine below_succ ?_ modelInverse_4_36_x
  refine below_succ ?_ modelInverse_4_35_x
  refine below_succ ?_ modelInverse_4_34_x
  refine below_succ ?_ modelInverse_4_33_x
  refine below_succ ?_ modelInverse_4_32_x
  refine below_succ ?_ modelInverse_4_31_x
  refine below_succ ?_ modelInverse_4_30_x
  refine below_succ ?_ modelInverse_4_29_x
  refine below_succ ?_ modelInverse_4_28_x
  refine below_succ ?_ modelInverse_4_27_x
  refine below_succ ?_ modelInverse_4_26_x
  refine below_succ ?_ modelInverse_4_25_x
  refine below_succ ?_ modelInverse_4_24_x
  refine below_succ ?_ modelInverse_4_23_x
  refine below_succ ?_ modelInverse_4_22_x
  refine below_succ ?_ modelInverse_4_21_x
  refine below_succ ?_ modelInverse_4_20_x
  refine below_succ ?_ modelInverse_4_19_x
  refine below_succ ?_ modelInverse_4_18_x
  refine below_succ ?_ modelInverse_4_17_x
  refine below_succ ?_ modelInverse_4_16_x
  refine below_succ ?_ modelInverse_4_15_x
  refine below_succ ?_ modelInverse_4_14_x
  refine below_succ ?_ modelInverse_4_13_x
  refine below_succ ?_ modelInverse_4_12_x
  refine below_succ ?_ modelInverse_4_11_x
  refine below_succ ?_ modelInverse_4_10_x
  refine below_succ ?_ modelInverse_4_9_x
  refine below_succ ?_ modelInverse_4_8_x
  refine below_succ ?_ modelInverse_4_7_x
  refine below_succ ?_ modelInverse_4_6_x
  refine below_succ ?_ modelInverse_4_5_x
  refine below_succ ?_ modelInverse_4_4_x
  refine below_succ ?_ modelInverse_4_3_x
  refine below_succ ?_ modelInverse_4_2_x
  refine below_succ ?_ modelInverse_4_1_x
  refine below_succ ?_ modelInverse_4_0_x
  exact fun d h => absurd h (Nat.not_lt_zero d)
set_option maxRecDepth 1000000 in
theorem modelInverseRow5 : ∀ d, d < 56 → modelInverseP 5 modelInverseNms5 d := by
  refine below_succ ?_ modelInverse_5_55_x
  refine below_succ ?_ modelInverse_5_54_x
  refine below_succ ?_ modelInverse_5_53_x
  refine below_succ ?_ modelInverse_5_52_x
  refine below_succ ?_ modelInverse_5_51_x
  refine below_succ ?_ modelInverse_5_50_x
  refine below_succ ?_ modelInverse_5_49_x
  refine below_succ ?_ modelInverse_5_48_x
  refine below_succ ?_ modelInverse_5_47_x
  refine below_succ ?_ modelInverse_5_46_x
  refine below_succ ?_ modelInverse_5_45_x
  refine below_succ ?_ modelInverse_5_44_x
  refine below_succ ?_ modelInverse_5_43_x
  refine below_succ ?_ modelInverse_5_42_x
  refine below_succ ?_ modelInverse_5_41_x
  refine below_succ ?_ modelInverse_5_40_x
  refine below_succ ?_ modelInverse_5_39_x
  refine below_succ ?_ modelInverse_5_38_x
  refine below_succ ?_ modelInverse_5_37_x
  refine below_succ ?_ modelInverse_5_36_x
  refine below_succ ?_ modelInverse_5_35_x
  refine below_succ ?_ modelInverse_5_34_x
  refine below_succ ?_ modelInverse_5_33_x
  refine below_succ ?_ modelInverse_5_32_x
  refine below_succ ?_ modelInverse_5_31_x
  refine below_succ ?_ modelInverse_5_30_x
  refine below_succ ?_ modelInverse_5_29_x
  refine below_succ ?_ modelInverse_5_28_x
  refine below_succ ?_ modelInverse_5_27_x
  refine below_succ ?_ modelInverse_5_26_x
  refine below_succ ?_ modelInverse_5_25_x
  refine below_succ ?_ modelInverse_5_24_x
  refine below_succ ?_ modelInverse_5_23_x
  refine below_succ ?_ modelInverse_5_22_x
  refine below_succ ?_ modelInverse_5_21_x
  refine below_succ ?_ modelInverse_5_20_x
  refine below_succ ?_ modelInverse_5_19_x
  refine below_succ ?_ modelInverse_5_18_x
  refine below_succ ?_ modelInverse_5_17_x
  refine below_succ ?_ modelInverse_5_16_x
  refine below_succ ?_ modelInverse_5_15_x
  refine below_succ ?_ modelInverse_5_14_x
  refine below_succ ?_ modelInverse_5_13_x
  refine below_succ ?_ modelInverse_5_12_x
  refine below_succ ?_ modelInverse_5_11_x
  refine below_succ ?_ modelInverse_5_10_x
  refine below_succ ?_ modelInverse_5_9_x
  refine below_succ ?_ modelInverse_5_8_x
  refine below_succ ?_ modelInverse_5_7_x
  refine below_succ ?_ modelInverse_5_6_x
  refine below_succ ?_ modelInverse_5_5_x
  refine below_succ ?_ modelInverse_5_4_x
  refine below_succ ?_ modelInverse_5_3_x
  refine below_succ ?_ modelInverse_5_2_x
  refine below_succ ?_ modelInverse_5_1_x
  refine below_succ ?_ modelInverse_5_0_x
  exact fun d h => absurd h (Nat.not_lt_zero d)
set_option maxRecDepth 1000000 in
theorem modelInverseRow6 : ∀ d, d < 56 → modelInverseP 6 modelInverseNms6 d := by
  refine below_succ ?_ modelInverse_6_55_x
  refine below_succ ?_ modelInverse_6_54_x
  refine below_succ ?_ modelInverse_6_53_x
  refine below_succ ?_ modelInverse_6_52_x
  refine below_succ ?_ modelInverse_6_51_x
  refine below_succ ?_ modelInverse_6_50_x
  refine below_succ ?_ modelInverse_6_49_x
  refine below_succ ?_ modelInverse_6_48_x
  refine below_succ ?_ modelInverse_6_47_x
  refine below_succ ?_ modelInverse_6_46_x
  refine below_succ ?_ modelInverse_6_45_x
  refine below_succ ?_ modelInverse_6_44_x
  refine below_succ ?_ modelInverse_6_43_x
  refine below_succ ?_ modelInverse_6_42_x
  refine below_succ ?_ modelInverse_6_41_x
  refine below_succ ?_ modelInverse_6_40_x
  refine below_succ ?_ modelInverse_6_39_x
  refine below_succ ?_ modelInverse_6_38_x
  refine below_succ ?_ modelInverse_6_37_x
  refine below_succ ?_ modelInverse_6_36_x
  refine below_succ ?_ modelInverse_6_35_x
  refine below_succ ?_ modelInverse_6_34_x
  refine below_succ ?_ modelInverse_6_33_x
  refine below_succ ?_ modelInverse_6_32_x
  refine below_succ ?_ modelInverse_6_31_x
  refine below_succ ?_ modelInverse_6_30_x
  refine below_succ ?_ modelInverse_6_29_x
  refine below_succ ?_ modelInverse_6_28_x
  refine below_succ ?_ modelInverse_6_27_x
  refine below_succ ?_ modelInverse_6_26_x
  refine below_succ ?_ modelInverse_6_25_x
  refine below_succ ?_ modelInverse_6_24_x
  refine below_succ ?_ modelInverse_6_23_x
  refine below_succ ?_ modelInverse_6_22_x
  refine below_succ ?_ modelInverse_6_21_x
  refine below_succ ?_ modelInverse_6_20_x
  refine below_succ ?_ modelInverse_6_19_x
  refine below_succ ?_ modelInverse_6_18_x
  refine below_succ ?_ modelInverse_6_17_x
  refine below_succ ?_ modelInverse_6_16_x
  refine below_succ ?_ modelInverse_6_15_x
  refine below_succ ?_ modelInverse_6_14_x
  refine below_succ ?_ modelInverse_6_13_x
  refine below_succ ?_ modelInverse_6_12_x
  refine below_succ ?_ modelInverse_6_11_x
  refine below_succ ?_ modelInverse_6_10_x
  refine below_succ ?_ modelInverse_6_9_x
  refine below_succ ?_ modelInverse_6_8_x
  refine below_succ ?_ modelInverse_6_7_x
  refine below_succ ?_ modelInverse_6_6_x
  refine below_succ ?_ modelInverse_6_5_x
  refine below_succ ?_ modelInverse_6_4_x
  refine below_succ ?_ modelInverse_6_3_x
  refine below_succ ?_ modelInverse_6_2_x
  refine below_succ ?_ modelInverse_6_1_x
  refine below_succ ?_ modelInverse_6_0_x
  exact fun d h => absurd h (Nat.not_lt_zero d)
set_option maxRecDepth 1000000 in
theorem modelInverseRow7 : ∀ d, d < 56 → modelInverseP 7 modelInverseNms7 d := by
  refine below_succ ?_ modelInverse_7_55_x
  refine below_succ ?_ modelInverse_7_54_x
  refine below_succ ?_ modelInverse_7_53_x
  refine below_succ ?_ modelInverse_7_52_x
  refine below_succ ?_ modelInverse_7_51_x
  refine below_succ ?_ modelInverse_7_50_x
  refine below_succ ?_ modelInverse_7_49_x
  refine below_succ ?_ modelInverse_7_48_x
  refine below_succ ?_ modelInverse_7_47_x
  refine below_succ ?_ modelInverse_7_46_x
  refine below_succ ?_ modelInverse_7_45_x
  refine below_succ ?_ modelInverse_7_44_x
  refine below_succ ?_ modelInverse_7_43_x
  refine below_succ ?_ modelInverse_7_42_x
  refine below_succ ?_ modelInverse_7_41_x
  refine below_succ ?_ modelInverse_7_40_x
  refine below_succ ?_ modelInverse_7_39_x
  refine below_succ ?_ modelInverse_7_38_x
  refine below_succ ?_ modelInverse_7_37_x
  refine below_succ ?_ modelInverse_7_36_x
  refine below_succ ?_ modelInverse_7_35_x
  refine below_succ ?_ modelInverse_7_34_x
  refine below_succ ?_ modelInverse_7_33_x
  refine below_succ ?_ modelInverse_7_32_x
  refine below_succ ?_ modelInverse_7_31_x
  refine below_succ ?_ modelInverse_7_30_x
  refine below_succ ?_ modelInverse_7_29_x
  refine below_succ ?_ modelInverse_7_28_x
  refine below_succ ?_ modelInverse_7_27_x
  refine below_succ ?_ modelInverse_7_26_x
  refine below_succ ?_ modelInverse_7_25_x
  refine below_succ ?_ modelInverse_7_24_x
  refine below_succ ?_ modelInverse_7_23_x
  refine below_succ ?_ modelInverse_7_22_x
  refine below_succ ?_ modelInverse_7_21_x
  refine below_succ ?_ modelInverse_7_20_x
  refine below_succ ?_ modelInverse_7_19_x
  refine below_succ ?_ modelInverse_7_18_x
  refine below_succ ?_ modelInverse_7_17_x
  refine below_succ ?_ modelInverse_7_16_x
  refine below_succ ?_ modelInverse_7_15_x
  refine below_succ ?_ modelInverse_7_14_x
  refine below_succ ?_ modelInverse_7_13_x
  refine below_succ ?_ modelInverse_7_12_x
  refine below_succ ?_ modelInverse_7_11_x
  refine below_succ ?_ modelInverse_7_10_x
  refine below_succ ?_ modelInverse_7_9_x
  refine below_succ ?_ modelInverse_7_8_x
  refine below_succ ?_ modelInverse_7_7_x
  refine below_succ ?_ modelInverse_7_6_x
  refine below_succ ?_ modelInverse_7_5_x
  refine below_succ ?_ modelInverse_7_4_x
  refine below_succ ?_ modelInverse_7_3_x
  refine below_succ ?_ modelInverse_7_2_x
  refine below_succ ?_ modelInverse_7_1_x
  refine below_succ ?_ modelInverse_7_0_x
  exact fun d h => absurd h (Nat.not_lt_zero d)
set_option maxRecDepth 1000000 in
theorem modelInverseRow8 : ∀ d, d < 56 → modelInverseP 8 modelInverseNms8 d := by
  refine below_succ ?_ modelInverse_8_55_x
  refine below_succ ?_ modelInverse_8_54_x
  refine below_succ ?_ modelInverse_8_53_x
  refine below_succ ?_ modelInverse_8_52_x
  refine below_succ ?_ modelInverse_8_51_x
  refine below_succ ?_ modelInverse_8_50_x
  refine below_succ ?_ modelInverse_8_49_x
  refine below_succ ?_ modelInverse_8_48_x
  refine below_succ ?_ modelInverse_8_47_x
  refine below_succ ?_ modelInverse_8_46_x
  refine below_succ ?_ modelInverse_8_45_x
  refine below_succ ?_ modelInverse_8_44_x
  refine below_succ ?_ modelInverse_8_43_x
  refine below_succ ?_ modelInverse_8_42_x
  refine below_succ ?_ modelInverse_8_41_x
  refine below_succ ?_ modelInverse_8_40_x
  refine below_succ ?_ modelInverse_8_39_x
  refine below_succ ?_ modelInverse_8_38_x
  refine below_succ ?_ modelInverse_8_37_x
  refine below_succ ?_ modelInverse_8_36_x
  refine below_succ ?_ modelInverse_8_35_x
  refine below_succ ?_ modelInverse_8_34_x
  refine below_succ ?_ modelInverse_8_33_x
  refine below_succ ?_ modelInverse_8_32_x
  refine below_succ ?_ modelInverse_8_31_x
  refine below_succ ?_ modelInverse_8_30_x
  refine below_succ ?_ modelInverse_8_29_x
  refine below_succ ?_ modelInverse_8_28_x
  refine below_succ ?_ modelInverse_8_27_x
  refine below_succ ?_ modelInverse_8_26_x
  refine below_succ ?_ modelInverse_8_25_x
  refine below_succ ?_ modelInverse_8_24_x
  refine below_succ ?_ modelInverse_8_23_x
  refine below_succ ?_ modelInverse_8_22_x
  refine below_succ ?_ modelInverse_8_21_x
  refine below_succ ?_ modelInverse_8_20_x
  refine below_succ ?_ modelInverse_8_19_x
  refine below_succ ?_ modelInverse_8_18_x
  refine below_succ ?_ modelInverse_8_17_x
  refine below_succ ?_ modelInverse_8_16_x
  refine below_succ ?_ modelInverse_8_15_x
  refine below_succ ?_ modelInverse_8_14_x
  refine below_succ ?_ modelInverse_8_13_x
  refine below_succ ?_ modelInverse_8_12_x
  refine below_succ ?_ modelInverse_8_11_x
  refine below_succ ?_ modelInverse_8_10_x
  refine below_succ ?_ modelInverse_8_9_x
  refine below_succ ?_ modelInverse_8_8_x
  refine below_succ ?_ modelInverse_8_7_x
  refine below_succ ?_ modelInverse_8_6_x
  refine below_succ ?_ modelInverse_8_5_x
  refine below_succ ?_ modelInverse_8_4_x
  refine below_succ ?_ modelInverse_8_3_x
  refine below_succ ?_ modelInverse_8_2_x
  refine below_succ ?_ modelInverse_8_1_x
  refine below_succ ?_ modelInverse_8_0_x
  exact fun d h => absurd h (Nat.not_lt_zero d)
theorem modelInverse_all : ∀ tb, tb ∈ tabs [(1, 9), (0, 56)] → ∀ ls, ls ∈ lensAll [] → ∃ t, tabGood 100 t = true ∧ lawRunT 12 10 200 [.i, .i] tb ls t = true := by
  intro tb ht ls hls
  obtain rfl : ls = [] := by simpa [lensAll] using hls
  obtain ⟨c, d, hc, hd, rfl⟩ := in_tab2 ht
  have hc' : c = 0 ∨ c = 1 ∨ c = 2 ∨ c = 3 ∨ c = 4 ∨ c = 5 ∨ c = 6 ∨ c = 7 ∨ c = 8 := by omega
  rcases hc' with rfl | rfl | rfl | rfl | rfl | rfl | rfl | rfl | rfl
  · exact ⟨modelInverseNms0, modelInverseGood0, modelInverseRow0 d hd⟩
  · exact ⟨modelInverseNms1, modelInverseGood1, modelInverseRow1 d hd⟩
  · exact ⟨modelInverseNms2, modelInverseGood2, modelInverseRow2 d hd⟩
  · exact ⟨modelInverseNms3, modelInverseGood3, modelInverseRow3 d hd⟩
  · exact ⟨modelInverseNms4, modelInverseGood4, modelInverseRow4 d hd⟩
  · exact ⟨modelInverseNms5, modelInverseGood5, modelInverseRow5 d hd⟩
  · exact ⟨modelInverseNms6, modelInverseGood6, modelInverseRow6 d hd⟩
  · exact ⟨modelInverseNms7, modelInverseGood7, modelInverseRow7 d hd⟩
  · exact ⟨modelInverseNms8, modelInverseGood8, modelInverseRow8 d hd⟩
theorem modelInverse_any (a0 : Int) (a1 : Int) (w : World) (_h0 : -9223372036854775808 ≤ a0 ∧ a0 ≤ 9223372036854775807) (_h1 : -9223372036854775808 ≤ a1 ∧ a1 ≤ 9223372036854775807) :
    Calls Try.prog 12 #[.int .i64 a0, .int .i64 a1] w fun e w' => e = .returned (.bool true) ∧ Below w.heap.size w w' := by
  refine law_ofT (ds := [.i a0, .i a1]) (nx0 := 10) (k := 200) (base := 100) (l := [(1, 9), (0, 56)]) (lens := []) (by simp) (by simp) (by decide) (vs := #[.int .i64 a0, .int .i64 a1]) ⟨rfl, rfl, trivial⟩ fun ks hk => ?_
  have hk : ks = [.i, .i] := by simpa [AD.kind, shapes, shapes1] using hk
  subst hk
  exact modelInverse_all
end Go.Proofs.Ytmmpgglbeaofkaa
