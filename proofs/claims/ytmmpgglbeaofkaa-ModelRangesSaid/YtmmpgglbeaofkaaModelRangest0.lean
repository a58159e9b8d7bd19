/-
  'ModelRanges': what names stand for, where the first rest is 0.
-/
import Derived.Test.YtmmpgglbeaofkaaM5s
namespace Go.Proofs.Ytmmpgglbeaofkaa
open Go.RowKit Ex
def re0_0 : E := (.ic .lss (.li 0) (.vl 0))
def re0_1 : E := (.fb .quo (.i2f (.ib .sub .i64 (.ai 9 0 (.ci (.at 0 0) (.ci (.li 65) .n0))) (.li 32))) (.lf 4616189618054758400))
def re0_2 : E := (.tf re0_0 re0_1 (.lf 0))
def re0_3 : E := (.ic .lss (.li 1) (.vl 0))
def re0_4 : E := (.fb .quo (.i2f (.ib .sub .i64 (.ai 9 0 (.ci (.at 0 1) (.ci (.li 65) .n0))) (.li 32))) (.lf 4616189618054758400))
def re0_5 : E := (.tf re0_3 (.fb .add re0_4 (.fb .quo (.i2f (.ai 9 0 (.ci (.ib .quo .i64 (.at 0 1) (.li 65)) (.ci (.li 3) .n0)))) (.lf 4616189618054758400))) (.lf 0))
def re0_6 : E := (.ic .lss (.li 2) (.vl 0))
def re0_7 : E := (.fb .quo (.i2f (.ib .sub .i64 (.ai 9 0 (.ci (.at 0 2) (.ci (.li 65) .n0))) (.li 32))) (.lf 4616189618054758400))
def re0_8 : E := (.tf re0_6 re0_7 (.lf 0))
def re0_9 : E := (.tf re0_0 (.fb .add re0_1 (.fb .quo (.i2f (.ai 9 0 (.ci (.ib .quo .i64 (.at 0 0) (.li 65)) (.ci (.li 3) .n0)))) (.lf 4616189618054758400))) (.lf 0))
def re0_10 : E := (.tf re0_3 re0_4 (.lf 0))
def re0_11 : E := (.tf re0_6 (.fb .add re0_7 (.fb .quo (.i2f (.ai 9 0 (.ci (.ib .quo .i64 (.at 0 2) (.li 65)) (.ci (.li 3) .n0)))) (.lf 4616189618054758400))) (.lf 0))
def re0_12 : E := (.ic .lss (.li 3) (.vl 0))
def re0_13 : E := (.fb .quo (.i2f (.ib .sub .i64 (.ai 9 0 (.ci (.at 0 3) (.ci (.li 65) .n0))) (.li 32))) (.lf 4616189618054758400))
def re0_14 : E := (.tf re0_12 (.fb .add re0_13 (.fb .quo (.i2f (.ai 9 0 (.ci (.ib .quo .i64 (.at 0 3) (.li 65)) (.ci (.li 3) .n0)))) (.lf 4616189618054758400))) (.lf 0))
def re0_15 : E := (.tf re0_12 re0_13 (.lf 0))
def re0_16 : E := (.ic .lss (.li 4) (.vl 0))
def re0_17 : E := (.fb .quo (.i2f (.ib .sub .i64 (.ai 9 0 (.ci (.at 0 4) (.ci (.li 65) .n0))) (.li 32))) (.lf 4616189618054758400))
def re0_18 : E := (.tf re0_16 re0_17 (.lf 0))
def re0_19 : E := (.tf re0_16 (.fb .add re0_17 (.fb .quo (.i2f (.ai 9 0 (.ci (.ib .quo .i64 (.at 0 4) (.li 65)) (.ci (.li 3) .n0)))) (.lf 4616189618054758400))) (.lf 0))
def re0_20 : E := (.ic .lss (.li 5) (.vl 0))
def re0_21 : E := (.fb .quo (.i2f (.ib .sub .i64 (.ai 9 0 (.ci (.at 0 5) (.ci (.li 65) .n0))) (.li 32))) (.lf 4616189618054758400))
def re0_22 : E := (.tf re0_20 (.fb .add re0_21 (.fb .quo (.i2f (.ai 9 0 (.ci (.ib .quo .i64 (.at 0 5) (.li 65)) (.ci (.li 3) .n0)))) (.lf 4616189618054758400))) (.lf 0))
def re0_23 : E := (.tf re0_20 re0_21 (.lf 0))
def re0_24 : E := (.ic .lss (.li 6) (.vl 0))
def re0_25 : E := (.fb .quo (.i2f (.ib .sub .i64 (.ai 9 0 (.ci (.at 0 6) (.ci (.li 65) .n0))) (.li 32))) (.lf 4616189618054758400))
def re0_26 : E := (.tf re0_24 re0_25 (.lf 0))
def re0_27 : E := (.tf re0_24 (.fb .add re0_25 (.fb .quo (.i2f (.ai 9 0 (.ci (.ib .quo .i64 (.at 0 6) (.li 65)) (.ci (.li 3) .n0)))) (.lf 4616189618054758400))) (.lf 0))
def re0_28 : E := (.ic .lss (.li 7) (.vl 0))
def re0_29 : E := (.fb .quo (.i2f (.ib .sub .i64 (.ai 9 0 (.ci (.at 0 7) (.ci (.li 65) .n0))) (.li 32))) (.lf 4616189618054758400))
def re0_30 : E := (.tf re0_28 (.fb .add re0_29 (.fb .quo (.i2f (.ai 9 0 (.ci (.ib .quo .i64 (.at 0 7) (.li 65)) (.ci (.li 3) .n0)))) (.lf 4616189618054758400))) (.lf 0))
def re0_31 : E := (.tf re0_28 re0_29 (.lf 0))
def re0_32 : E := (.ic .lss (.li 8) (.vl 0))
def re0_33 : E := (.fb .quo (.i2f (.ib .sub .i64 (.ai 9 0 (.ci (.at 0 8) (.ci (.li 65) .n0))) (.li 32))) (.lf 4616189618054758400))
def re0_34 : E := (.tf re0_32 re0_33 (.lf 0))
def re0_35 : E := (.tf re0_32 (.fb .add re0_33 (.fb .quo (.i2f (.ai 9 0 (.ci (.ib .quo .i64 (.at 0 8) (.li 65)) (.ci (.li 3) .n0)))) (.lf 4616189618054758400))) (.lf 0))
def re0_36 : E := (.fb .quo (.i2f (.ai 9 0 (.ci (.vi 1) (.ci (.li 9) .n0)))) (.lf 4620693217682128896))
def re0_37 : E := (.fb .sub (.lf 0) re0_36)
def rN0 : Nms := [(2255701369, 100, (.fb .add (.fb .sub re0_2 re0_5) re0_8)),
  (3766119403, 101, (.fb .add (.fb .sub re0_9 re0_10) re0_11)),
  (1952949649, 102, (.fb .sub (.vf 100) re0_14)),
  (2920973814, 103, (.fb .sub (.vf 101) re0_15)),
  (3494346337, 104, (.fb .add (.vf 102) re0_18)),
  (4102815188, 105, (.fb .add (.vf 103) re0_19)),
  (512955842, 106, (.fb .sub (.vf 104) re0_22)),
  (2626961278, 107, (.fb .sub (.vf 105) re0_23)),
  (3200333801, 108, (.fb .add (.vf 106) re0_26)),
  (2662821381, 109, (.fb .add (.vf 107) re0_27)),
  (3367929326, 110, (.fb .sub (.vf 108) re0_30)),
  (2332948742, 111, (.fb .sub (.vf 109) re0_31)),
  (2906321265, 112, (.fb .add (.vf 110) re0_34)),
  (1222827574, 113, (.fb .add (.vf 111) re0_35)),
  (3584212659, 114, (.af 22 0 (.cf re0_10 (.cf re0_5 (.cf (.lf 13830554455654793216) (.cf (.lf 0) .n0)))))),
  (3585212662, 115, (.af 22 1 (.cf re0_10 (.cf re0_5 (.cf (.lf 13830554455654793216) (.cf (.lf 0) .n0)))))),
  (104763835, 116, (.af 20 0 (.cf re0_2 (.cf re0_9 (.cf (.vf 114) (.cf (.vf 115) .n0)))))),
  (105763838, 117, (.af 20 1 (.cf re0_2 (.cf re0_9 (.cf (.vf 114) (.cf (.vf 115) .n0)))))),
  (4256915998, 118, (.af 22 0 (.cf re0_8 (.cf re0_11 (.cf (.lf 0) (.cf (.lf 4607182418800017408) .n0)))))),
  (4257916001, 119, (.af 22 1 (.cf re0_8 (.cf re0_11 (.cf (.lf 0) (.cf (.lf 4607182418800017408) .n0)))))),
  (691078806, 120, (.af 20 0 (.cf (.vf 116) (.cf (.vf 117) (.cf (.vf 118) (.cf (.vf 119) .n0)))))),
  (692078809, 121, (.af 20 1 (.cf (.vf 116) (.cf (.vf 117) (.cf (.vf 118) (.cf (.vf 119) .n0)))))),
  (659652121, 122, (.af 22 0 (.cf re0_15 (.cf re0_14 (.cf (.lf 13830554455654793216) (.cf (.lf 0) .n0)))))),
  (660652124, 123, (.af 22 1 (.cf re0_15 (.cf re0_14 (.cf (.lf 13830554455654793216) (.cf (.lf 0) .n0)))))),
  (707078854, 124, (.af 20 0 (.cf (.vf 120) (.cf (.vf 121) (.cf (.vf 122) (.cf (.vf 123) .n0)))))),
  (708078857, 125, (.af 20 1 (.cf (.vf 120) (.cf (.vf 121) (.cf (.vf 122) (.cf (.vf 123) .n0)))))),
  (1332355460, 126, (.af 22 0 (.cf re0_18 (.cf re0_19 (.cf (.lf 0) (.cf (.lf 4607182418800017408) .n0)))))),
  (1333355463, 127, (.af 22 1 (.cf re0_18 (.cf re0_19 (.cf (.lf 0) (.cf (.lf 4607182418800017408) .n0)))))),
  (723078902, 128, (.af 20 0 (.cf (.vf 124) (.cf (.vf 125) (.cf (.vf 126) (.cf (.vf 127) .n0)))))),
  (724078905, 129, (.af 20 1 (.cf (.vf 124) (.cf (.vf 125) (.cf (.vf 126) (.cf (.vf 127) .n0)))))),
  (2030058874, 130, (.af 22 0 (.cf re0_23 (.cf re0_22 (.cf (.lf 13830554455654793216) (.cf (.lf 0) .n0)))))),
  (2031058877, 131, (.af 22 1 (.cf re0_23 (.cf re0_22 (.cf (.lf 13830554455654793216) (.cf (.lf 0) .n0)))))),
  (739078950, 132, (.af 20 0 (.cf (.vf 128) (.cf (.vf 129) (.cf (.vf 130) (.cf (.vf 131) .n0)))))),
  (740078953, 133, (.af 20 1 (.cf (.vf 128) (.cf (.vf 129) (.cf (.vf 130) (.cf (.vf 131) .n0)))))),
  (2702762213, 134, (.af 22 0 (.cf re0_26 (.cf re0_27 (.cf (.lf 0) (.cf (.lf 4607182418800017408) .n0)))))),
  (2703762216, 135, (.af 22 1 (.cf re0_26 (.cf re0_27 (.cf (.lf 0) (.cf (.lf 4607182418800017408) .n0)))))),
  (755078998, 136, (.af 20 0 (.cf (.vf 132) (.cf (.vf 133) (.cf (.vf 134) (.cf (.vf 135) .n0)))))),
  (756079001, 137, (.af 20 1 (.cf (.vf 132) (.cf (.vf 133) (.cf (.vf 134) (.cf (.vf 135) .n0)))))),
  (3400465627, 138, (.af 22 0 (.cf re0_31 (.cf re0_30 (.cf (.lf 13830554455654793216) (.cf (.lf 0) .n0)))))),
  (3401465630, 139, (.af 22 1 (.cf re0_31 (.cf re0_30 (.cf (.lf 13830554455654793216) (.cf (.lf 0) .n0)))))),
  (771079046, 140, (.af 20 0 (.cf (.vf 136) (.cf (.vf 137) (.cf (.vf 138) (.cf (.vf 139) .n0)))))),
  (772079049, 141, (.af 20 1 (.cf (.vf 136) (.cf (.vf 137) (.cf (.vf 138) (.cf (.vf 139) .n0)))))),
  (4073168966, 142, (.af 22 0 (.cf re0_34 (.cf re0_35 (.cf (.lf 0) (.cf (.lf 4607182418800017408) .n0)))))),
  (4074168969, 143, (.af 22 1 (.cf re0_34 (.cf re0_35 (.cf (.lf 0) (.cf (.lf 4607182418800017408) .n0)))))),
  (787079094, 144, (.af 20 0 (.cf (.vf 140) (.cf (.vf 141) (.cf (.vf 142) (.cf (.vf 143) .n0)))))),
  (788079097, 145, (.af 20 1 (.cf (.vf 140) (.cf (.vf 141) (.cf (.vf 142) (.cf (.vf 143) .n0)))))),
  (190853591, 146, (.af 20 0 (.cf (.vf 144) (.cf (.vf 145) (.cf re0_37 (.cf re0_36 .n0)))))),
  (191853594, 147, (.af 20 1 (.cf (.vf 144) (.cf (.vf 145) (.cf re0_37 (.cf re0_36 .n0)))))),
  (3345113641, 148, (.af 20 0 (.cf (.vf 144) (.cf (.vf 145) (.cf (.fb .sub re0_37 (.i2f (.ai 9 0 (.ci (.vi 2) (.ci (.li 9) .n0))))) (.cf (.fb .add re0_36 (.i2f (.ai 9 0 (.ci (.ib .quo .i64 (.vi 2) (.li 9)) (.ci (.li 9) .n0))))) .n0)))))),
  (3346113644, 149, (.af 20 1 (.cf (.vf 144) (.cf (.vf 145) (.cf (.fb .sub re0_37 (.i2f (.ai 9 0 (.ci (.vi 2) (.ci (.li 9) .n0))))) (.cf (.fb .add re0_36 (.i2f (.ai 9 0 (.ci (.ib .quo .i64 (.vi 2) (.li 9)) (.ci (.li 9) .n0))))) .n0))))))]
set_option maxRecDepth 1000000 in
set_option maxHeartbeats 100000000 in
theorem rG0 : tabGood 100 rN0 = true := by kernel_rfl
end Go.Proofs.Ytmmpgglbeaofkaa
