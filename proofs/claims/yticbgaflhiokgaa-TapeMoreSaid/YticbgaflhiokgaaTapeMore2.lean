/-
  'TapeMore': runs of it, part 2.
-/
import Derived.Test.YticbgaflhiokgaaTapeMoret0
namespace Go.Proofs.Yticbgaflhiokgaa
open Go.RowKit Ex
set_option maxRecDepth 1000000
set_option maxHeartbeats 100000000
def wm2_0 : E := (.ai 9 0 (.ci (.ib .add .i64 (.ib .quo .i64 (.vi 0) (.li 3)) (.li 0)) (.ci (.li 3) .n0)))
def wm2_1 : E := (.ic .eql (.ai 9 0 (.ci (.at 1 0) (.ci (.li 11) .n0))) (.li 0))
def wm2_2 : E := (.ib .add .i64 (.li 2) (.ai 9 0 (.ci (.at 1 0) (.ci (.li 3) .n0))))
def wm2_3 : E := (.ic .eql (.ai 9 0 (.ci (.at 1 1) (.ci (.li 11) .n0))) (.li 0))
def wm2_4 : E := (.ib .add .i64 (.li 2) (.ai 9 0 (.ci (.at 1 1) (.ci (.li 3) .n0))))
def wm2_5 : E := (.ic .eql (.ai 9 0 (.ci (.at 1 2) (.ci (.li 11) .n0))) (.li 0))
def wm2_6 : E := (.ib .add .i64 (.li 2) (.ai 9 0 (.ci (.at 1 2) (.ci (.li 3) .n0))))
def wm2_7 : E := (.ic .eql (.ai 9 0 (.ci (.at 1 3) (.ci (.li 11) .n0))) (.li 0))
def wm2_8 : E := (.ib .add .i64 (.li 2) (.ai 9 0 (.ci (.at 1 3) (.ci (.li 3) .n0))))
def wm2_9 : E := (.ic .eql (.ai 9 0 (.ci (.at 1 4) (.ci (.li 11) .n0))) (.li 0))
def wm2_10 : E := (.ib .add .i64 (.li 2) (.ai 9 0 (.ci (.at 1 4) (.ci (.li 3) .n0))))
def wm2_11 : E := (.ic .eql (.ai 9 0 (.ci (.at 1 5) (.ci (.li 11) .n0))) (.li 0))
def wm2_12 : E := (.ib .add .i64 (.li 2) (.ai 9 0 (.ci (.at 1 5) (.ci (.li 3) .n0))))
def wm2_13 : E := (.ib .quo .i64 (.vi 4) (.li 9))
def wm2_14 : E := (.ic .eql (.ai 9 0 (.ci (.at 1 6) (.ci (.li 11) .n0))) (.li 0))
def wm2_15 : E := (.ib .add .i64 (.li 2) (.ai 9 0 (.ci (.at 1 6) (.ci (.li 3) .n0))))
def wm2_16 : E := (.ic .eql (.ai 9 0 (.ci (.at 1 7) (.ci (.li 11) .n0))) (.li 0))
def wm2_17 : E := (.ib .add .i64 (.li 2) (.ai 9 0 (.ci (.at 1 7) (.ci (.li 3) .n0))))
def wk2_0 : Blk := [(.i .i64 1), (.i .i64 0), (.i .i64 0), (.f 0)]
def wk2_1 : Blk := [(.i .i64 0), (.i .i64 0), (.i .i64 0), (.ef (.fb .quo (.i2f (.ib .sub .i64 (.ai 9 0 (.ci (.vi 0) (.ci (.li 17) .n0))) (.li 8))) (.lf 4616189618054758400)))]
def wk2_2 : Blk := [(.ei .i64 (.ti wm2_1 (.li 0) (.ti (.vb 2) (.ti (.ic .eql (.ai 9 0 (.ci (.at 1 0) (.ci (.li 7) .n0))) (.li 0)) (.li 5) wm2_2) wm2_2))), (.ei .i64 (.ti wm2_1 (.li 0) (.ai 9 0 (.ci (.ib .quo .i64 (.at 1 0) (.li 4)) (.ci (.li 2) .n0))))), (.ei .i64 (.ti wm2_1 (.li 0) (.ai 9 0 (.ci (.ib .quo .i64 (.at 1 0) (.li 40)) (.ci (.li 2) .n0))))), (.ef (.tf wm2_1 (.fb .quo (.i2f (.ib .sub .i64 (.ai 9 0 (.ci (.ib .quo .i64 (.at 1 0) (.li 11)) (.ci (.li 33) .n0))) (.li 16))) (.lf 4620693217682128896)) (.lf 0)))]
def wk2_3 : Blk := [(.ei .i64 (.ti wm2_3 (.li 0) (.ti (.vb 2) (.ti (.ic .eql (.ai 9 0 (.ci (.at 1 1) (.ci (.li 7) .n0))) (.li 0)) (.li 5) wm2_4) wm2_4))), (.ei .i64 (.ti wm2_3 (.li 0) (.ai 9 0 (.ci (.ib .quo .i64 (.at 1 1) (.li 4)) (.ci (.li 3) .n0))))), (.ei .i64 (.ti wm2_3 (.li 0) (.ai 9 0 (.ci (.ib .quo .i64 (.at 1 1) (.li 40)) (.ci (.li 3) .n0))))), (.ef (.tf wm2_3 (.fb .quo (.i2f (.ib .sub .i64 (.ai 9 0 (.ci (.ib .quo .i64 (.at 1 1) (.li 11)) (.ci (.li 33) .n0))) (.li 16))) (.lf 4620693217682128896)) (.lf 0)))]
def wk2_4 : Blk := [(.ei .i64 (.ti wm2_5 (.li 0) (.ti (.vb 2) (.ti (.ic .eql (.ai 9 0 (.ci (.at 1 2) (.ci (.li 7) .n0))) (.li 0)) (.li 5) wm2_6) wm2_6))), (.ei .i64 (.ti wm2_5 (.li 0) (.ai 9 0 (.ci (.ib .quo .i64 (.at 1 2) (.li 4)) (.ci (.li 4) .n0))))), (.ei .i64 (.ti wm2_5 (.li 0) (.ai 9 0 (.ci (.ib .quo .i64 (.at 1 2) (.li 40)) (.ci (.li 4) .n0))))), (.ef (.tf wm2_5 (.fb .quo (.i2f (.ib .sub .i64 (.ai 9 0 (.ci (.ib .quo .i64 (.at 1 2) (.li 11)) (.ci (.li 33) .n0))) (.li 16))) (.lf 4620693217682128896)) (.lf 0)))]
def wk2_5 : Blk := [(.ei .i64 (.ti wm2_7 (.li 0) (.ti (.vb 2) (.ti (.ic .eql (.ai 9 0 (.ci (.at 1 3) (.ci (.li 7) .n0))) (.li 0)) (.li 5) wm2_8) wm2_8))), (.ei .i64 (.ti wm2_7 (.li 0) (.ai 9 0 (.ci (.ib .quo .i64 (.at 1 3) (.li 4)) (.ci (.li 5) .n0))))), (.ei .i64 (.ti wm2_7 (.li 0) (.ai 9 0 (.ci (.ib .quo .i64 (.at 1 3) (.li 40)) (.ci (.li 5) .n0))))), (.ef (.tf wm2_7 (.fb .quo (.i2f (.ib .sub .i64 (.ai 9 0 (.ci (.ib .quo .i64 (.at 1 3) (.li 11)) (.ci (.li 33) .n0))) (.li 16))) (.lf 4620693217682128896)) (.lf 0)))]
def wk2_6 : Blk := [(.ei .i64 (.ti wm2_9 (.li 0) (.ti (.vb 2) (.ti (.ic .eql (.ai 9 0 (.ci (.at 1 4) (.ci (.li 7) .n0))) (.li 0)) (.li 5) wm2_10) wm2_10))), (.ei .i64 (.ti wm2_9 (.li 0) (.ai 9 0 (.ci (.ib .quo .i64 (.at 1 4) (.li 4)) (.ci (.li 6) .n0))))), (.ei .i64 (.ti wm2_9 (.li 0) (.ai 9 0 (.ci (.ib .quo .i64 (.at 1 4) (.li 40)) (.ci (.li 6) .n0))))), (.ef (.tf wm2_9 (.fb .quo (.i2f (.ib .sub .i64 (.ai 9 0 (.ci (.ib .quo .i64 (.at 1 4) (.li 11)) (.ci (.li 33) .n0))) (.li 16))) (.lf 4620693217682128896)) (.lf 0)))]
def wk2_7 : Blk := [(.ei .i64 (.ti wm2_11 (.li 0) (.ti (.vb 2) (.ti (.ic .eql (.ai 9 0 (.ci (.at 1 5) (.ci (.li 7) .n0))) (.li 0)) (.li 5) wm2_12) wm2_12))), (.ei .i64 (.ti wm2_11 (.li 0) (.ai 9 0 (.ci (.ib .quo .i64 (.at 1 5) (.li 4)) (.ci (.li 7) .n0))))), (.ei .i64 (.ti wm2_11 (.li 0) (.ai 9 0 (.ci (.ib .quo .i64 (.at 1 5) (.li 40)) (.ci (.li 7) .n0))))), (.ef (.tf wm2_11 (.fb .quo (.i2f (.ib .sub .i64 (.ai 9 0 (.ci (.ib .quo .i64 (.at 1 5) (.li 11)) (.ci (.li 33) .n0))) (.li 16))) (.lf 4620693217682128896)) (.lf 0)))]
def wk2_8 : Blk := [(.i .i64 4), (.ei .i64 (.ai 9 0 (.ci (.vi 4) (.ci (.li 8) .n0)))), (.ei .i64 (.ai 9 0 (.ci wm2_13 (.ci (.li 8) .n0)))), (.f 0)]
def wk2_9 : Blk := [(.i .i64 4), (.i .i64 2), (.ei .i64 (.ai 9 0 (.ci wm2_13 (.ci (.li 9) .n0)))), (.f 0)]
def wk2_10 : Blk := [(.i .i64 4), (.i .i64 3), (.ei .i64 (.ai 9 0 (.ci wm2_13 (.ci (.li 9) .n0)))), (.f 0)]
def wk2_11 : Blk := [(.i .i64 4), (.ei .i64 (.ai 9 0 (.ci (.vi 4) (.ci (.li 10) .n0)))), (.ei .i64 (.ai 9 0 (.ci wm2_13 (.ci (.li 10) .n0)))), (.f 0)]
def wk2_12 : Blk := [(.i .i64 4), (.i .i64 4), (.ei .i64 (.ai 9 0 (.ci wm2_13 (.ci (.li 9) .n0)))), (.f 0)]
def wk2_13 : Blk := [(.i .i64 4), (.ei .i64 (.ai 9 0 (.ci (.vi 4) (.ci (.li 11) .n0)))), (.ei .i64 (.ai 9 0 (.ci wm2_13 (.ci (.li 11) .n0)))), (.f 0)]
def wk2_14 : Blk := [(.i .i64 4), (.i .i64 5), (.ei .i64 (.ai 9 0 (.ci wm2_13 (.ci (.li 9) .n0)))), (.f 0)]
def wk2_15 : Blk := [(.i .i64 4), (.ei .i64 (.ai 9 0 (.ci (.vi 4) (.ci (.li 12) .n0)))), (.ei .i64 (.ai 9 0 (.ci wm2_13 (.ci (.li 12) .n0)))), (.f 0)]
def wk2_16 : Blk := [(.i .i64 4), (.i .i64 6), (.ei .i64 (.ai 9 0 (.ci wm2_13 (.ci (.li 9) .n0)))), (.f 0)]
def wk2_17 : Blk := [(.i .i64 4), (.ei .i64 (.ai 9 0 (.ci (.vi 4) (.ci (.li 13) .n0)))), (.ei .i64 (.ai 9 0 (.ci wm2_13 (.ci (.li 13) .n0)))), (.f 0)]
def wk2_18 : Blk := [(.i .i64 4), (.i .i64 7), (.ei .i64 (.ai 9 0 (.ci wm2_13 (.ci (.li 9) .n0)))), (.f 0)]
def wk2_19 : Blk := [(.i .i64 4), (.ei .i64 (.ai 9 0 (.ci (.vi 4) (.ci (.li 14) .n0)))), (.ei .i64 (.ai 9 0 (.ci wm2_13 (.ci (.li 14) .n0)))), (.f 0)]
def wk2_20 : Blk := [(.i .i64 4), (.i .i64 8), (.ei .i64 (.ai 9 0 (.ci wm2_13 (.ci (.li 9) .n0)))), (.f 0)]
def wk2_21 : Blk := [(.i .i64 4), (.ei .i64 (.ai 9 0 (.ci (.vi 4) (.ci (.li 15) .n0)))), (.ei .i64 (.ai 9 0 (.ci wm2_13 (.ci (.li 15) .n0)))), (.f 0)]
def wk2_22 : Blk := [(.ei .i64 (.ti wm2_14 (.li 0) (.ti (.vb 2) (.ti (.ic .eql (.ai 9 0 (.ci (.at 1 6) (.ci (.li 7) .n0))) (.li 0)) (.li 5) wm2_15) wm2_15))), (.ei .i64 (.ti wm2_14 (.li 0) (.ai 9 0 (.ci (.ib .quo .i64 (.at 1 6) (.li 4)) (.ci (.li 8) .n0))))), (.ei .i64 (.ti wm2_14 (.li 0) (.ai 9 0 (.ci (.ib .quo .i64 (.at 1 6) (.li 40)) (.ci (.li 8) .n0))))), (.ef (.tf wm2_14 (.fb .quo (.i2f (.ib .sub .i64 (.ai 9 0 (.ci (.ib .quo .i64 (.at 1 6) (.li 11)) (.ci (.li 33) .n0))) (.li 16))) (.lf 4620693217682128896)) (.lf 0)))]
def wk2_23 : Blk := [(.i .i64 4), (.ei .i64 (.ai 9 0 (.ci (.vi 4) (.ci (.li 16) .n0)))), (.ei .i64 (.ai 9 0 (.ci wm2_13 (.ci (.li 16) .n0)))), (.f 0)]
def wk2_24 : Blk := [(.ei .i64 (.ti wm2_16 (.li 0) (.ti (.vb 2) (.ti (.ic .eql (.ai 9 0 (.ci (.at 1 7) (.ci (.li 7) .n0))) (.li 0)) (.li 5) wm2_17) wm2_17))), (.ei .i64 (.ti wm2_16 (.li 0) (.ai 9 0 (.ci (.ib .quo .i64 (.at 1 7) (.li 4)) (.ci (.li 9) .n0))))), (.ei .i64 (.ti wm2_16 (.li 0) (.ai 9 0 (.ci (.ib .quo .i64 (.at 1 7) (.li 40)) (.ci (.li 9) .n0))))), (.ef (.tf wm2_16 (.fb .quo (.i2f (.ib .sub .i64 (.ai 9 0 (.ci (.ib .quo .i64 (.at 1 7) (.li 11)) (.ci (.li 33) .n0))) (.li 16))) (.lf 4620693217682128896)) (.lf 0)))]
def wb2_0 : Blk := [(.ei .i64 (.ib .sub .i64 (.li 7) wm2_0))]
def wb2_1 : Blk := wk2_0 ++ wk2_1 ++ wk2_2 ++ wk2_3 ++ wk2_4 ++ wk2_5 ++ wk2_6 ++ wk2_7
def wb2_2 : Blk := [(.ef (.fb .quo (.i2f (.ib .sub .i64 (.ai 9 0 (.ci (.ti (.ic .lss (.li 0) (.vl 3)) (.at 3 0) (.li 0)) (.ci (.li 65) .n0))) (.li 32))) (.lf 4620693217682128896)))]
def wb2_3 : Blk := wk2_0 ++ wk2_1 ++ wk2_2 ++ wk2_3 ++ wk2_4 ++ wk2_5 ++ wk2_6 ++ wk2_7 ++ wk2_8
def wb2_4 : Blk := wk2_0 ++ wk2_1 ++ wk2_2 ++ wk2_3 ++ wk2_4 ++ wk2_5 ++ wk2_6 ++ wk2_7 ++ wk2_8 ++ wk2_9
def wb2_5 : Blk := wk2_0 ++ wk2_1 ++ wk2_2 ++ wk2_3 ++ wk2_4 ++ wk2_5 ++ wk2_6 ++ wk2_7 ++ wk2_8 ++ wk2_10 ++ wk2_11
def wb2_6 : Blk := wk2_0 ++ wk2_1 ++ wk2_2 ++ wk2_3 ++ wk2_4 ++ wk2_5 ++ wk2_6 ++ wk2_7 ++ wk2_8 ++ wk2_12 ++ wk2_11 ++ wk2_13
def wb2_7 : Blk := wk2_0 ++ wk2_1 ++ wk2_2 ++ wk2_3 ++ wk2_4 ++ wk2_5 ++ wk2_6 ++ wk2_7 ++ wk2_8 ++ wk2_14 ++ wk2_11 ++ wk2_13 ++ wk2_15
def wb2_8 : Blk := wk2_0 ++ wk2_1 ++ wk2_2 ++ wk2_3 ++ wk2_4 ++ wk2_5 ++ wk2_6 ++ wk2_7 ++ wk2_8 ++ wk2_16 ++ wk2_11 ++ wk2_13 ++ wk2_15 ++ wk2_17
def wb2_9 : Blk := wk2_0 ++ wk2_1 ++ wk2_2 ++ wk2_3 ++ wk2_4 ++ wk2_5 ++ wk2_6 ++ wk2_7 ++ wk2_8 ++ wk2_18 ++ wk2_11 ++ wk2_13 ++ wk2_15 ++ wk2_17 ++ wk2_19
def wb2_10 : Blk := wk2_0 ++ wk2_1 ++ wk2_2 ++ wk2_3 ++ wk2_4 ++ wk2_5 ++ wk2_6 ++ wk2_7 ++ wk2_8 ++ wk2_20 ++ wk2_11 ++ wk2_13 ++ wk2_15 ++ wk2_17 ++ wk2_19 ++ wk2_21
def wb2_11 : Blk := [(.ei .i64 (.ib .sub .i64 (.li 8) wm2_0))]
def wb2_12 : Blk := wk2_0 ++ wk2_1 ++ wk2_2 ++ wk2_3 ++ wk2_4 ++ wk2_5 ++ wk2_6 ++ wk2_7 ++ wk2_22
def wb2_13 : Blk := wk2_0 ++ wk2_1 ++ wk2_2 ++ wk2_3 ++ wk2_4 ++ wk2_5 ++ wk2_6 ++ wk2_7 ++ wk2_22 ++ [(.i .i64 4), (.i .i64 1), (.ei .i64 (.ai 9 0 (.ci wm2_13 (.ci (.li 9) .n0)))), (.f 0)]
def wb2_14 : Blk := wk2_0 ++ wk2_1 ++ wk2_2 ++ wk2_3 ++ wk2_4 ++ wk2_5 ++ wk2_6 ++ wk2_7 ++ wk2_22 ++ wk2_9 ++ wk2_11
def wb2_15 : Blk := wk2_0 ++ wk2_1 ++ wk2_2 ++ wk2_3 ++ wk2_4 ++ wk2_5 ++ wk2_6 ++ wk2_7 ++ wk2_22 ++ wk2_10 ++ wk2_11 ++ wk2_13
def wb2_16 : Blk := wk2_0 ++ wk2_1 ++ wk2_2 ++ wk2_3 ++ wk2_4 ++ wk2_5 ++ wk2_6 ++ wk2_7 ++ wk2_22 ++ wk2_12 ++ wk2_11 ++ wk2_13 ++ wk2_15
def wb2_17 : Blk := wk2_0 ++ wk2_1 ++ wk2_2 ++ wk2_3 ++ wk2_4 ++ wk2_5 ++ wk2_6 ++ wk2_7 ++ wk2_22 ++ wk2_14 ++ wk2_11 ++ wk2_13 ++ wk2_15 ++ wk2_17
def wb2_18 : Blk := wk2_0 ++ wk2_1 ++ wk2_2 ++ wk2_3 ++ wk2_4 ++ wk2_5 ++ wk2_6 ++ wk2_7 ++ wk2_22 ++ wk2_16 ++ wk2_11 ++ wk2_13 ++ wk2_15 ++ wk2_17 ++ wk2_19
def wb2_19 : Blk := wk2_0 ++ wk2_1 ++ wk2_2 ++ wk2_3 ++ wk2_4 ++ wk2_5 ++ wk2_6 ++ wk2_7 ++ wk2_22 ++ wk2_18 ++ wk2_11 ++ wk2_13 ++ wk2_15 ++ wk2_17 ++ wk2_19 ++ wk2_21
def wb2_20 : Blk := wk2_0 ++ wk2_1 ++ wk2_2 ++ wk2_3 ++ wk2_4 ++ wk2_5 ++ wk2_6 ++ wk2_7 ++ wk2_22 ++ wk2_20 ++ wk2_11 ++ wk2_13 ++ wk2_15 ++ wk2_17 ++ wk2_19 ++ wk2_21 ++ wk2_23
def wb2_21 : Blk := [(.ei .i64 (.ib .sub .i64 (.li 9) wm2_0))]
def wb2_22 : Blk := wk2_0 ++ wk2_1 ++ wk2_2 ++ wk2_3 ++ wk2_4 ++ wk2_5 ++ wk2_6 ++ wk2_7 ++ wk2_22 ++ wk2_24
def wb2_23 : Blk := wk2_0 ++ wk2_1 ++ wk2_2 ++ wk2_3 ++ wk2_4 ++ wk2_5 ++ wk2_6 ++ wk2_7 ++ wk2_22 ++ wk2_24 ++ wk2_11
def wb2_24 : Blk := wk2_0 ++ wk2_1 ++ wk2_2 ++ wk2_3 ++ wk2_4 ++ wk2_5 ++ wk2_6 ++ wk2_7 ++ wk2_22 ++ wk2_24 ++ wk2_11 ++ wk2_13
def wb2_25 : Blk := wk2_0 ++ wk2_1 ++ wk2_2 ++ wk2_3 ++ wk2_4 ++ wk2_5 ++ wk2_6 ++ wk2_7 ++ wk2_22 ++ wk2_24 ++ wk2_11 ++ wk2_13 ++ wk2_15
def wb2_26 : Blk := wk2_0 ++ wk2_1 ++ wk2_2 ++ wk2_3 ++ wk2_4 ++ wk2_5 ++ wk2_6 ++ wk2_7 ++ wk2_22 ++ wk2_24 ++ wk2_11 ++ wk2_13 ++ wk2_15 ++ wk2_17
def wb2_27 : Blk := wk2_0 ++ wk2_1 ++ wk2_2 ++ wk2_3 ++ wk2_4 ++ wk2_5 ++ wk2_6 ++ wk2_7 ++ wk2_22 ++ wk2_24 ++ wk2_11 ++ wk2_13 ++ wk2_15 ++ wk2_17 ++ wk2_19
def wb2_28 : Blk := wk2_0 ++ wk2_1 ++ wk2_2 ++ wk2_3 ++ wk2_4 ++ wk2_5 ++ wk2_6 ++ wk2_7 ++ wk2_22 ++ wk2_24 ++ wk2_11 ++ wk2_13 ++ wk2_15 ++ wk2_17 ++ wk2_19 ++ wk2_21
def wb2_29 : Blk := wk2_0 ++ wk2_1 ++ wk2_2 ++ wk2_3 ++ wk2_4 ++ wk2_5 ++ wk2_6 ++ wk2_7 ++ wk2_22 ++ wk2_24 ++ wk2_11 ++ wk2_13 ++ wk2_15 ++ wk2_17 ++ wk2_19 ++ wk2_21 ++ wk2_23
def wb2_30 : Blk := wk2_0 ++ wk2_1 ++ wk2_2 ++ wk2_3 ++ wk2_4 ++ wk2_5 ++ wk2_6 ++ wk2_7 ++ wk2_22 ++ wk2_24 ++ wk2_11 ++ wk2_13 ++ wk2_15 ++ wk2_17 ++ wk2_19 ++ wk2_21 ++ wk2_23 ++ [(.i .i64 4), (.ei .i64 (.ai 9 0 (.ci (.vi 4) (.ci (.li 17) .n0)))), (.ei .i64 (.ai 9 0 (.ci wm2_13 (.ci (.li 17) .n0)))), (.f 0)]
def w0_0_6m0 : Memo :=  (⟨[(.ag [(.i .i64 1), (.sl 11 0 8 (.u 4)), (.sl 10 0 1 (.u 1))]), (.c (.sl 64 0 1 (.u 1)))], [(10, wb2_0), (11, wb2_1), (64, wb2_2)], 75, (.c (.sl 77 0 1 (.n 1))), [(10, wb2_0), (11, wb2_1), (64, wb2_2), (77, [(.ef (.vf 152))])], 116⟩) 
theorem w0_0_6o0 : mok [(0, 3, 0), (4, 9, 0)] (lenL 1 6 8 ++ []) wN0 21 w0_0_6m0 = true := by kernel_rfl
def w0_0_6m1 : Memo :=  (⟨[(.ag [(.i .i64 1), (.sl 37 0 8 (.u 4)), (.sl 36 0 1 (.u 1))]), (.c (.sl 64 0 1 (.u 1)))], [(36, wb2_0), (37, wb2_1), (64, wb2_2)], 116, (.c (.sl 118 0 1 (.n 1))), [(36, wb2_0), (37, wb2_1), (64, wb2_2), (118, [(.ef (.vf 152))])], 157⟩) 
theorem w0_0_6o1 : mok [(0, 3, 0), (4, 9, 0)] (lenL 1 6 8 ++ []) wN0 21 w0_0_6m1 = true := by kernel_rfl
def w0_0_6m2 : Memo :=  (⟨[(.ag [(.i .i64 1), (.sl 37 0 8 (.u 4)), (.sl 36 0 1 (.u 1))]), (.c (.sl 64 0 1 (.u 1)))], [(36, wb2_0), (37, wb2_1), (64, wb2_2)], 157, (.c (.sl 159 0 1 (.n 1))), [(36, wb2_0), (37, wb2_1), (64, wb2_2), (159, [(.ef (.vf 152))])], 198⟩) 
theorem w0_0_6o2 : mok [(0, 3, 0), (4, 9, 0)] (lenL 1 6 8 ++ []) wN0 21 w0_0_6m2 = true := by kernel_rfl
def w0_0_6ms : List (Nat × List Memo) := [(21, [w0_0_6m0, w0_0_6m1, w0_0_6m2])]
theorem w0_0_6mo : AllMem (memRun [(0, 3, 0), (4, 9, 0)] (lenL 1 6 8 ++ []) wN0) w0_0_6ms := ⟨⟨w0_0_6o0, w0_0_6o1, w0_0_6o2, trivial⟩, trivial⟩
theorem w0_0_6 : lawRunM 9 10 200 [.i, .q, .b, .q, .i] [(0, 3, 0), (4, 9, 0)] (lenL 1 6 8 ++ []) wN0 w0_0_6ms = true := by kernel_rfl
def w0_1_6m0 : Memo :=  (⟨[(.ag [(.i .i64 1), (.sl 11 0 8 (.u 4)), (.sl 10 0 1 (.u 1))]), (.c (.sl 64 0 1 (.u 1)))], [(10, wb2_0), (11, wb2_1), (64, wb2_2)], 78, (.c (.sl 80 0 1 (.n 1))), [(10, wb2_0), (11, wb2_1), (64, wb2_2), (80, [(.ef (.vf 152))])], 119⟩) 
theorem w0_1_6o0 : mok [(0, 3, 0), (4, 9, 1)] (lenL 1 6 8 ++ []) wN0 21 w0_1_6m0 = true := by kernel_rfl
def w0_1_6m1 : Memo :=  (⟨[(.ag [(.i .i64 1), (.sl 67 0 9 (.u 4)), (.sl 36 0 1 (.u 1))]), (.c (.sl 64 0 1 (.u 1)))], [(36, wb2_0), (64, wb2_2), (67, wb2_3)], 119, (.c (.sl 121 0 1 (.n 1))), [(36, wb2_0), (64, wb2_2), (67, wb2_3), (121, [(.ef (.vf 152))])], 164⟩) 
theorem w0_1_6o1 : mok [(0, 3, 0), (4, 9, 1)] (lenL 1 6 8 ++ []) wN0 21 w0_1_6m1 = true := by kernel_rfl
def w0_1_6m2 : Memo :=  (⟨[(.ag [(.i .i64 1), (.sl 67 0 9 (.u 4)), (.sl 36 0 1 (.u 1))]), (.c (.sl 64 0 1 (.u 1)))], [(36, wb2_0), (64, wb2_2), (67, wb2_3)], 164, (.c (.sl 166 0 1 (.n 1))), [(36, wb2_0), (64, wb2_2), (67, wb2_3), (166, [(.ef (.vf 152))])], 209⟩) 
theorem w0_1_6o2 : mok [(0, 3, 0), (4, 9, 1)] (lenL 1 6 8 ++ []) wN0 21 w0_1_6m2 = true := by kernel_rfl
def w0_1_6ms : List (Nat × List Memo) := [(21, [w0_1_6m0, w0_1_6m1, w0_1_6m2])]
theorem w0_1_6mo : AllMem (memRun [(0, 3, 0), (4, 9, 1)] (lenL 1 6 8 ++ []) wN0) w0_1_6ms := ⟨⟨w0_1_6o0, w0_1_6o1, w0_1_6o2, trivial⟩, trivial⟩
theorem w0_1_6 : lawRunM 9 10 200 [.i, .q, .b, .q, .i] [(0, 3, 0), (4, 9, 1)] (lenL 1 6 8 ++ []) wN0 w0_1_6ms = true := by kernel_rfl
def w0_2_6m0 : Memo :=  (⟨[(.ag [(.i .i64 1), (.sl 11 0 8 (.u 4)), (.sl 10 0 1 (.u 1))]), (.c (.sl 64 0 1 (.u 1)))], [(10, wb2_0), (11, wb2_1), (64, wb2_2)], 81, (.c (.sl 83 0 1 (.n 1))), [(10, wb2_0), (11, wb2_1), (64, wb2_2), (83, [(.ef (.vf 152))])], 122⟩) 
theorem w0_2_6o0 : mok [(0, 3, 0), (4, 9, 2)] (lenL 1 6 8 ++ []) wN0 21 w0_2_6m0 = true := by kernel_rfl
def w0_2_6m1 : Memo :=  (⟨[(.ag [(.i .i64 1), (.sl 69 0 10 (.u 4)), (.sl 36 0 1 (.u 1))]), (.c (.sl 64 0 1 (.u 1)))], [(36, wb2_0), (64, wb2_2), (69, wb2_4)], 122, (.c (.sl 124 0 1 (.n 1))), [(36, wb2_0), (64, wb2_2), (69, wb2_4), (124, [(.ef (.vf 152))])], 171⟩) 
theorem w0_2_6o1 : mok [(0, 3, 0), (4, 9, 2)] (lenL 1 6 8 ++ []) wN0 21 w0_2_6m1 = true := by kernel_rfl
def w0_2_6m2 : Memo :=  (⟨[(.ag [(.i .i64 1), (.sl 69 0 10 (.u 4)), (.sl 36 0 1 (.u 1))]), (.c (.sl 64 0 1 (.u 1)))], [(36, wb2_0), (64, wb2_2), (69, wb2_4)], 171, (.c (.sl 173 0 1 (.n 1))), [(36, wb2_0), (64, wb2_2), (69, wb2_4), (173, [(.ef (.vf 152))])], 220⟩) 
theorem w0_2_6o2 : mok [(0, 3, 0), (4, 9, 2)] (lenL 1 6 8 ++ []) wN0 21 w0_2_6m2 = true := by kernel_rfl
def w0_2_6ms : List (Nat × List Memo) := [(21, [w0_2_6m0, w0_2_6m1, w0_2_6m2])]
theorem w0_2_6mo : AllMem (memRun [(0, 3, 0), (4, 9, 2)] (lenL 1 6 8 ++ []) wN0) w0_2_6ms := ⟨⟨w0_2_6o0, w0_2_6o1, w0_2_6o2, trivial⟩, trivial⟩
theorem w0_2_6 : lawRunM 9 10 200 [.i, .q, .b, .q, .i] [(0, 3, 0), (4, 9, 2)] (lenL 1 6 8 ++ []) wN0 w0_2_6ms = true := by kernel_rfl
def w0_3_6m0 : Memo :=  (⟨[(.ag [(.i .i64 1), (.sl 11 0 8 (.u 4)), (.sl 10 0 1 (.u 1))]), (.c (.sl 64 0 1 (.u 1)))], [(10, wb2_0), (11, wb2_1), (64, wb2_2)], 84, (.c (.sl 86 0 1 (.n 1))), [(10, wb2_0), (11, wb2_1), (64, wb2_2), (86, [(.ef (.vf 152))])], 125⟩) 
theorem w0_3_6o0 : mok [(0, 3, 0), (4, 9, 3)] (lenL 1 6 8 ++ []) wN0 21 w0_3_6m0 = true := by kernel_rfl
def w0_3_6m1 : Memo :=  (⟨[(.ag [(.i .i64 1), (.sl 71 0 11 (.u 4)), (.sl 36 0 1 (.u 1))]), (.c (.sl 64 0 1 (.u 1)))], [(36, wb2_0), (64, wb2_2), (71, wb2_5)], 125, (.c (.sl 127 0 1 (.n 1))), [(36, wb2_0), (64, wb2_2), (71, wb2_5), (127, [(.ef (.vf 152))])], 178⟩) 
theorem w0_3_6o1 : mok [(0, 3, 0), (4, 9, 3)] (lenL 1 6 8 ++ []) wN0 21 w0_3_6m1 = true := by kernel_rfl
def w0_3_6m2 : Memo :=  (⟨[(.ag [(.i .i64 1), (.sl 71 0 11 (.u 4)), (.sl 36 0 1 (.u 1))]), (.c (.sl 64 0 1 (.u 1)))], [(36, wb2_0), (64, wb2_2), (71, wb2_5)], 178, (.c (.sl 180 0 1 (.n 1))), [(36, wb2_0), (64, wb2_2), (71, wb2_5), (180, [(.ef (.vf 152))])], 231⟩) 
theorem w0_3_6o2 : mok [(0, 3, 0), (4, 9, 3)] (lenL 1 6 8 ++ []) wN0 21 w0_3_6m2 = true := by kernel_rfl
def w0_3_6ms : List (Nat × List Memo) := [(21, [w0_3_6m0, w0_3_6m1, w0_3_6m2])]
theorem w0_3_6mo : AllMem (memRun [(0, 3, 0), (4, 9, 3)] (lenL 1 6 8 ++ []) wN0) w0_3_6ms := ⟨⟨w0_3_6o0, w0_3_6o1, w0_3_6o2, trivial⟩, trivial⟩
theorem w0_3_6 : lawRunM 9 10 200 [.i, .q, .b, .q, .i] [(0, 3, 0), (4, 9, 3)] (lenL 1 6 8 ++ []) wN0 w0_3_6ms = true := by kernel_rfl
def w0_4_6m0 : Memo :=  (⟨[(.ag [(.i .i64 1), (.sl 11 0 8 (.u 4)), (.sl 10 0 1 (.u 1))]), (.c (.sl 64 0 1 (.u 1)))], [(10, wb2_0), (11, wb2_1), (64, wb2_2)], 87, (.c (.sl 89 0 1 (.n 1))), [(10, wb2_0), (11, wb2_1), (64, wb2_2), (89, [(.ef (.vf 152))])], 128⟩) 
theorem w0_4_6o0 : mok [(0, 3, 0), (4, 9, 4)] (lenL 1 6 8 ++ []) wN0 21 w0_4_6m0 = true := by kernel_rfl
def w0_4_6m1 : Memo :=  (⟨[(.ag [(.i .i64 1), (.sl 73 0 12 (.u 4)), (.sl 36 0 1 (.u 1))]), (.c (.sl 64 0 1 (.u 1)))], [(36, wb2_0), (64, wb2_2), (73, wb2_6)], 128, (.c (.sl 130 0 1 (.n 1))), [(36, wb2_0), (64, wb2_2), (73, wb2_6), (130, [(.ef (.vf 152))])], 185⟩) 
theorem w0_4_6o1 : mok [(0, 3, 0), (4, 9, 4)] (lenL 1 6 8 ++ []) wN0 21 w0_4_6m1 = true := by kernel_rfl
def w0_4_6m2 : Memo :=  (⟨[(.ag [(.i .i64 1), (.sl 73 0 12 (.u 4)), (.sl 36 0 1 (.u 1))]), (.c (.sl 64 0 1 (.u 1)))], [(36, wb2_0), (64, wb2_2), (73, wb2_6)], 185, (.c (.sl 187 0 1 (.n 1))), [(36, wb2_0), (64, wb2_2), (73, wb2_6), (187, [(.ef (.vf 152))])], 242⟩) 
theorem w0_4_6o2 : mok [(0, 3, 0), (4, 9, 4)] (lenL 1 6 8 ++ []) wN0 21 w0_4_6m2 = true := by kernel_rfl
def w0_4_6ms : List (Nat × List Memo) := [(21, [w0_4_6m0, w0_4_6m1, w0_4_6m2])]
theorem w0_4_6mo : AllMem (memRun [(0, 3, 0), (4, 9, 4)] (lenL 1 6 8 ++ []) wN0) w0_4_6ms := ⟨⟨w0_4_6o0, w0_4_6o1, w0_4_6o2, trivial⟩, trivial⟩
theorem w0_4_6 : lawRunM 9 10 200 [.i, .q, .b, .q, .i] [(0, 3, 0), (4, 9, 4)] (lenL 1 6 8 ++ []) wN0 w0_4_6ms = true := by kernel_rfl
def w0_5_6m0 : Memo :=  (⟨[(.ag [(.i .i64 1), (.sl 11 0 8 (.u 4)), (.sl 10 0 1 (.u 1))]), (.c (.sl 64 0 1 (.u 1)))], [(10, wb2_0), (11, wb2_1), (64, wb2_2)], 90, (.c (.sl 92 0 1 (.n 1))), [(10, wb2_0), (11, wb2_1), (64, wb2_2), (92, [(.ef (.vf 152))])], 131⟩) 
theorem w0_5_6o0 : mok [(0, 3, 0), (4, 9, 5)] (lenL 1 6 8 ++ []) wN0 21 w0_5_6m0 = true := by kernel_rfl
def w0_5_6m1 : Memo :=  (⟨[(.ag [(.i .i64 1), (.sl 75 0 13 (.u 4)), (.sl 36 0 1 (.u 1))]), (.c (.sl 64 0 1 (.u 1)))], [(36, wb2_0), (64, wb2_2), (75, wb2_7)], 131, (.c (.sl 133 0 1 (.n 1))), [(36, wb2_0), (64, wb2_2), (75, wb2_7), (133, [(.ef (.vf 152))])], 192⟩) 
theorem w0_5_6o1 : mok [(0, 3, 0), (4, 9, 5)] (lenL 1 6 8 ++ []) wN0 21 w0_5_6m1 = true := by kernel_rfl
def w0_5_6m2 : Memo :=  (⟨[(.ag [(.i .i64 1), (.sl 75 0 13 (.u 4)), (.sl 36 0 1 (.u 1))]), (.c (.sl 64 0 1 (.u 1)))], [(36, wb2_0), (64, wb2_2), (75, wb2_7)], 192, (.c (.sl 194 0 1 (.n 1))), [(36, wb2_0), (64, wb2_2), (75, wb2_7), (194, [(.ef (.vf 152))])], 253⟩) 
theorem w0_5_6o2 : mok [(0, 3, 0), (4, 9, 5)] (lenL 1 6 8 ++ []) wN0 21 w0_5_6m2 = true := by kernel_rfl
def w0_5_6ms : List (Nat × List Memo) := [(21, [w0_5_6m0, w0_5_6m1, w0_5_6m2])]
theorem w0_5_6mo : AllMem (memRun [(0, 3, 0), (4, 9, 5)] (lenL 1 6 8 ++ []) wN0) w0_5_6ms := ⟨⟨w0_5_6o0, w0_5_6o1, w0_5_6o2, trivial⟩, trivial⟩
theorem w0_5_6 : lawRunM 9 10 200 [.i, .q, .b, .q, .i] [(0, 3, 0), (4, 9, 5)] (lenL 1 6 8 ++ []) wN0 w0_5_6ms = true := by kernel_rfl
def w0_6_6m0 : Memo :=  (⟨[(.ag [(.i .i64 1), (.sl 11 0 8 (.u 4)), (.sl 10 0 1 (.u 1))]), (.c (.sl 64 0 1 (.u 1)))], [(10, wb2_0), (11, wb2_1), (64, wb2_2)], 93, (.c (.sl 95 0 1 (.n 1))), [(10, wb2_0), (11, wb2_1), (64, wb2_2), (95, [(.ef (.vf 152))])], 134⟩) 
theorem w0_6_6o0 : mok [(0, 3, 0), (4, 9, 6)] (lenL 1 6 8 ++ []) wN0 21 w0_6_6m0 = true := by kernel_rfl
def w0_6_6m1 : Memo :=  (⟨[(.ag [(.i .i64 1), (.sl 77 0 14 (.u 4)), (.sl 36 0 1 (.u 1))]), (.c (.sl 64 0 1 (.u 1)))], [(36, wb2_0), (64, wb2_2), (77, wb2_8)], 134, (.c (.sl 136 0 1 (.n 1))), [(36, wb2_0), (64, wb2_2), (77, wb2_8), (136, [(.ef (.vf 152))])], 199⟩) 
theorem w0_6_6o1 : mok [(0, 3, 0), (4, 9, 6)] (lenL 1 6 8 ++ []) wN0 21 w0_6_6m1 = true := by kernel_rfl
def w0_6_6m2 : Memo :=  (⟨[(.ag [(.i .i64 1), (.sl 77 0 14 (.u 4)), (.sl 36 0 1 (.u 1))]), (.c (.sl 64 0 1 (.u 1)))], [(36, wb2_0), (64, wb2_2), (77, wb2_8)], 199, (.c (.sl 201 0 1 (.n 1))), [(36, wb2_0), (64, wb2_2), (77, wb2_8), (201, [(.ef (.vf 152))])], 264⟩) 
theorem w0_6_6o2 : mok [(0, 3, 0), (4, 9, 6)] (lenL 1 6 8 ++ []) wN0 21 w0_6_6m2 = true := by kernel_rfl
def w0_6_6ms : List (Nat × List Memo) := [(21, [w0_6_6m0, w0_6_6m1, w0_6_6m2])]
theorem w0_6_6mo : AllMem (memRun [(0, 3, 0), (4, 9, 6)] (lenL 1 6 8 ++ []) wN0) w0_6_6ms := ⟨⟨w0_6_6o0, w0_6_6o1, w0_6_6o2, trivial⟩, trivial⟩
theorem w0_6_6 : lawRunM 9 10 200 [.i, .q, .b, .q, .i] [(0, 3, 0), (4, 9, 6)] (lenL 1 6 8 ++ []) wN0 w0_6_6ms = true := by kernel_rfl
def w0_7_6m0 : Memo :=  (⟨[(.ag [(.i .i64 1), (.sl 11 0 8 (.u 4)), (.sl 10 0 1 (.u 1))]), (.c (.sl 64 0 1 (.u 1)))], [(10, wb2_0), (11, wb2_1), (64, wb2_2)], 96, (.c (.sl 98 0 1 (.n 1))), [(10, wb2_0), (11, wb2_1), (64, wb2_2), (98, [(.ef (.vf 152))])], 137⟩) 
theorem w0_7_6o0 : mok [(0, 3, 0), (4, 9, 7)] (lenL 1 6 8 ++ []) wN0 21 w0_7_6m0 = true := by kernel_rfl
def w0_7_6m1 : Memo :=  (⟨[(.ag [(.i .i64 1), (.sl 79 0 15 (.u 4)), (.sl 36 0 1 (.u 1))]), (.c (.sl 64 0 1 (.u 1)))], [(36, wb2_0), (64, wb2_2), (79, wb2_9)], 137, (.c (.sl 139 0 1 (.n 1))), [(36, wb2_0), (64, wb2_2), (79, wb2_9), (139, [(.ef (.vf 152))])], 206⟩) 
theorem w0_7_6o1 : mok [(0, 3, 0), (4, 9, 7)] (lenL 1 6 8 ++ []) wN0 21 w0_7_6m1 = true := by kernel_rfl
def w0_7_6m2 : Memo :=  (⟨[(.ag [(.i .i64 1), (.sl 79 0 15 (.u 4)), (.sl 36 0 1 (.u 1))]), (.c (.sl 64 0 1 (.u 1)))], [(36, wb2_0), (64, wb2_2), (79, wb2_9)], 206, (.c (.sl 208 0 1 (.n 1))), [(36, wb2_0), (64, wb2_2), (79, wb2_9), (208, [(.ef (.vf 152))])], 275⟩) 
theorem w0_7_6o2 : mok [(0, 3, 0), (4, 9, 7)] (lenL 1 6 8 ++ []) wN0 21 w0_7_6m2 = true := by kernel_rfl
def w0_7_6ms : List (Nat × List Memo) := [(21, [w0_7_6m0, w0_7_6m1, w0_7_6m2])]
theorem w0_7_6mo : AllMem (memRun [(0, 3, 0), (4, 9, 7)] (lenL 1 6 8 ++ []) wN0) w0_7_6ms := ⟨⟨w0_7_6o0, w0_7_6o1, w0_7_6o2, trivial⟩, trivial⟩
theorem w0_7_6 : lawRunM 9 10 200 [.i, .q, .b, .q, .i] [(0, 3, 0), (4, 9, 7)] (lenL 1 6 8 ++ []) wN0 w0_7_6ms = true := by kernel_rfl
def w0_8_6m0 : Memo :=  (⟨[(.ag [(.i .i64 1), (.sl 11 0 8 (.u 4)), (.sl 10 0 1 (.u 1))]), (.c (.sl 64 0 1 (.u 1)))], [(10, wb2_0), (11, wb2_1), (64, wb2_2)], 99, (.c (.sl 101 0 1 (.n 1))), [(10, wb2_0), (11, wb2_1), (64, wb2_2), (101, [(.ef (.vf 152))])], 140⟩) 
theorem w0_8_6o0 : mok [(0, 3, 0), (4, 9, 8)] (lenL 1 6 8 ++ []) wN0 21 w0_8_6m0 = true := by kernel_rfl
def w0_8_6m1 : Memo :=  (⟨[(.ag [(.i .i64 1), (.sl 81 0 16 (.u 4)), (.sl 36 0 1 (.u 1))]), (.c (.sl 64 0 1 (.u 1)))], [(36, wb2_0), (64, wb2_2), (81, wb2_10)], 140, (.c (.sl 142 0 1 (.n 1))), [(36, wb2_0), (64, wb2_2), (81, wb2_10), (142, [(.ef (.vf 152))])], 213⟩) 
theorem w0_8_6o1 : mok [(0, 3, 0), (4, 9, 8)] (lenL 1 6 8 ++ []) wN0 21 w0_8_6m1 = true := by kernel_rfl
def w0_8_6m2 : Memo :=  (⟨[(.ag [(.i .i64 1), (.sl 81 0 16 (.u 4)), (.sl 36 0 1 (.u 1))]), (.c (.sl 64 0 1 (.u 1)))], [(36, wb2_0), (64, wb2_2), (81, wb2_10)], 213, (.c (.sl 215 0 1 (.n 1))), [(36, wb2_0), (64, wb2_2), (81, wb2_10), (215, [(.ef (.vf 152))])], 286⟩) 
theorem w0_8_6o2 : mok [(0, 3, 0), (4, 9, 8)] (lenL 1 6 8 ++ []) wN0 21 w0_8_6m2 = true := by kernel_rfl
def w0_8_6ms : List (Nat × List Memo) := [(21, [w0_8_6m0, w0_8_6m1, w0_8_6m2])]
theorem w0_8_6mo : AllMem (memRun [(0, 3, 0), (4, 9, 8)] (lenL 1 6 8 ++ []) wN0) w0_8_6ms := ⟨⟨w0_8_6o0, w0_8_6o1, w0_8_6o2, trivial⟩, trivial⟩
theorem w0_8_6 : lawRunM 9 10 200 [.i, .q, .b, .q, .i] [(0, 3, 0), (4, 9, 8)] (lenL 1 6 8 ++ []) wN0 w0_8_6ms = true := by kernel_rfl
def w0_0_7m0 : Memo :=  (⟨[(.ag [(.i .i64 1), (.sl 11 0 9 (.u 4)), (.sl 10 0 1 (.u 1))]), (.c (.sl 70 0 1 (.u 1)))], [(10, wb2_11), (11, wb2_12), (70, wb2_2)], 82, (.c (.sl 84 0 1 (.n 1))), [(10, wb2_11), (11, wb2_12), (70, wb2_2), (84, [(.ef (.vf 151))])], 127⟩) 
theorem w0_0_7o0 : mok [(0, 3, 0), (4, 9, 0)] (lenL 1 7 8 ++ []) wN0 21 w0_0_7m0 = true := by kernel_rfl
def w0_0_7m1 : Memo :=  (⟨[(.ag [(.i .i64 1), (.sl 40 0 9 (.u 4)), (.sl 39 0 1 (.u 1))]), (.c (.sl 70 0 1 (.u 1)))], [(39, wb2_11), (40, wb2_12), (70, wb2_2)], 127, (.c (.sl 129 0 1 (.n 1))), [(39, wb2_11), (40, wb2_12), (70, wb2_2), (129, [(.ef (.vf 151))])], 172⟩) 
theorem w0_0_7o1 : mok [(0, 3, 0), (4, 9, 0)] (lenL 1 7 8 ++ []) wN0 21 w0_0_7m1 = true := by kernel_rfl
def w0_0_7m2 : Memo :=  (⟨[(.ag [(.i .i64 1), (.sl 40 0 9 (.u 4)), (.sl 39 0 1 (.u 1))]), (.c (.sl 70 0 1 (.u 1)))], [(39, wb2_11), (40, wb2_12), (70, wb2_2)], 172, (.c (.sl 174 0 1 (.n 1))), [(39, wb2_11), (40, wb2_12), (70, wb2_2), (174, [(.ef (.vf 151))])], 217⟩) 
theorem w0_0_7o2 : mok [(0, 3, 0), (4, 9, 0)] (lenL 1 7 8 ++ []) wN0 21 w0_0_7m2 = true := by kernel_rfl
def w0_0_7ms : List (Nat × List Memo) := [(21, [w0_0_7m0, w0_0_7m1, w0_0_7m2])]
theorem w0_0_7mo : AllMem (memRun [(0, 3, 0), (4, 9, 0)] (lenL 1 7 8 ++ []) wN0) w0_0_7ms := ⟨⟨w0_0_7o0, w0_0_7o1, w0_0_7o2, trivial⟩, trivial⟩
theorem w0_0_7 : lawRunM 9 10 200 [.i, .q, .b, .q, .i] [(0, 3, 0), (4, 9, 0)] (lenL 1 7 8 ++ []) wN0 w0_0_7ms = true := by kernel_rfl
def w0_1_7m0 : Memo :=  (⟨[(.ag [(.i .i64 1), (.sl 11 0 9 (.u 4)), (.sl 10 0 1 (.u 1))]), (.c (.sl 70 0 1 (.u 1)))], [(10, wb2_11), (11, wb2_12), (70, wb2_2)], 85, (.c (.sl 87 0 1 (.n 1))), [(10, wb2_11), (11, wb2_12), (70, wb2_2), (87, [(.ef (.vf 151))])], 130⟩) 
theorem w0_1_7o0 : mok [(0, 3, 0), (4, 9, 1)] (lenL 1 7 8 ++ []) wN0 21 w0_1_7m0 = true := by kernel_rfl
def w0_1_7m1 : Memo :=  (⟨[(.ag [(.i .i64 1), (.sl 73 0 10 (.u 4)), (.sl 39 0 1 (.u 1))]), (.c (.sl 70 0 1 (.u 1)))], [(39, wb2_11), (70, wb2_2), (73, wb2_13)], 130, (.c (.sl 132 0 1 (.n 1))), [(39, wb2_11), (70, wb2_2), (73, wb2_13), (132, [(.ef (.vf 151))])], 179⟩) 
theorem w0_1_7o1 : mok [(0, 3, 0), (4, 9, 1)] (lenL 1 7 8 ++ []) wN0 21 w0_1_7m1 = true := by kernel_rfl
def w0_1_7m2 : Memo :=  (⟨[(.ag [(.i .i64 1), (.sl 73 0 10 (.u 4)), (.sl 39 0 1 (.u 1))]), (.c (.sl 70 0 1 (.u 1)))], [(39, wb2_11), (70, wb2_2), (73, wb2_13)], 179, (.c (.sl 181 0 1 (.n 1))), [(39, wb2_11), (70, wb2_2), (73, wb2_13), (181, [(.ef (.vf 151))])], 228⟩) 
theorem w0_1_7o2 : mok [(0, 3, 0), (4, 9, 1)] (lenL 1 7 8 ++ []) wN0 21 w0_1_7m2 = true := by kernel_rfl
def w0_1_7ms : List (Nat × List Memo) := [(21, [w0_1_7m0, w0_1_7m1, w0_1_7m2])]
theorem w0_1_7mo : AllMem (memRun [(0, 3, 0), (4, 9, 1)] (lenL 1 7 8 ++ []) wN0) w0_1_7ms := ⟨⟨w0_1_7o0, w0_1_7o1, w0_1_7o2, trivial⟩, trivial⟩
theorem w0_1_7 : lawRunM 9 10 200 [.i, .q, .b, .q, .i] [(0, 3, 0), (4, 9, 1)] (lenL 1 7 8 ++ []) wN0 w0_1_7ms = true := by kernel_rfl
def w0_2_7m0 : Memo :=  (⟨[(.ag [(.i .i64 1), (.sl 11 0 9 (.u 4)), (.sl 10 0 1 (.u 1))]), (.c (.sl 70 0 1 (.u 1)))], [(10, wb2_11), (11, wb2_12), (70, wb2_2)], 88, (.c (.sl 90 0 1 (.n 1))), [(10, wb2_11), (11, wb2_12), (70, wb2_2), (90, [(.ef (.vf 151))])], 133⟩) 
theorem w0_2_7o0 : mok [(0, 3, 0), (4, 9, 2)] (lenL 1 7 8 ++ []) wN0 21 w0_2_7m0 = true := by kernel_rfl
def w0_2_7m1 : Memo :=  (⟨[(.ag [(.i .i64 1), (.sl 75 0 11 (.u 4)), (.sl 39 0 1 (.u 1))]), (.c (.sl 70 0 1 (.u 1)))], [(39, wb2_11), (70, wb2_2), (75, wb2_14)], 133, (.c (.sl 135 0 1 (.n 1))), [(39, wb2_11), (70, wb2_2), (75, wb2_14), (135, [(.ef (.vf 151))])], 186⟩) 
theorem w0_2_7o1 : mok [(0, 3, 0), (4, 9, 2)] (lenL 1 7 8 ++ []) wN0 21 w0_2_7m1 = true := by kernel_rfl
def w0_2_7m2 : Memo :=  (⟨[(.ag [(.i .i64 1), (.sl 75 0 11 (.u 4)), (.sl 39 0 1 (.u 1))]), (.c (.sl 70 0 1 (.u 1)))], [(39, wb2_11), (70, wb2_2), (75, wb2_14)], 186, (.c (.sl 188 0 1 (.n 1))), [(39, wb2_11), (70, wb2_2), (75, wb2_14), (188, [(.ef (.vf 151))])], 239⟩) 
theorem w0_2_7o2 : mok [(0, 3, 0), (4, 9, 2)] (lenL 1 7 8 ++ []) wN0 21 w0_2_7m2 = true := by kernel_rfl
def w0_2_7ms : List (Nat × List Memo) := [(21, [w0_2_7m0, w0_2_7m1, w0_2_7m2])]
theorem w0_2_7mo : AllMem (memRun [(0, 3, 0), (4, 9, 2)] (lenL 1 7 8 ++ []) wN0) w0_2_7ms := ⟨⟨w0_2_7o0, w0_2_7o1, w0_2_7o2, trivial⟩, trivial⟩
theorem w0_2_7 : lawRunM 9 10 200 [.i, .q, .b, .q, .i] [(0, 3, 0), (4, 9, 2)] (lenL 1 7 8 ++ []) wN0 w0_2_7ms = true := by kernel_rfl
def w0_3_7m0 : Memo :=  (⟨[(.ag [(.i .i64 1), (.sl 11 0 9 (.u 4)), (.sl 10 0 1 (.u 1))]), (.c (.sl 70 0 1 (.u 1)))], [(10, wb2_11), (11, wb2_12), (70, wb2_2)], 91, (.c (.sl 93 0 1 (.n 1))), [(10, wb2_11), (11, wb2_12), (70, wb2_2), (93, [(.ef (.vf 151))])], 136⟩) 
theorem w0_3_7o0 : mok [(0, 3, 0), (4, 9, 3)] (lenL 1 7 8 ++ []) wN0 21 w0_3_7m0 = true := by kernel_rfl
def w0_3_7m1 : Memo :=  (⟨[(.ag [(.i .i64 1), (.sl 77 0 12 (.u 4)), (.sl 39 0 1 (.u 1))]), (.c (.sl 70 0 1 (.u 1)))], [(39, wb2_11), (70, wb2_2), (77, wb2_15)], 136, (.c (.sl 138 0 1 (.n 1))), [(39, wb2_11), (70, wb2_2), (77, wb2_15), (138, [(.ef (.vf 151))])], 193⟩) 
theorem w0_3_7o1 : mok [(0, 3, 0), (4, 9, 3)] (lenL 1 7 8 ++ []) wN0 21 w0_3_7m1 = true := by kernel_rfl
def w0_3_7m2 : Memo :=  (⟨[(.ag [(.i .i64 1), (.sl 77 0 12 (.u 4)), (.sl 39 0 1 (.u 1))]), (.c (.sl 70 0 1 (.u 1)))], [(39, wb2_11), (70, wb2_2), (77, wb2_15)], 193, (.c (.sl 195 0 1 (.n 1))), [(39, wb2_11), (70, wb2_2), (77, wb2_15), (195, [(.ef (.vf 151))])], 250⟩) 
theorem w0_3_7o2 : mok [(0, 3, 0), (4, 9, 3)] (lenL 1 7 8 ++ []) wN0 21 w0_3_7m2 = true := by kernel_rfl
def w0_3_7ms : List (Nat × List Memo) := [(21, [w0_3_7m0, w0_3_7m1, w0_3_7m2])]
theorem w0_3_7mo : AllMem (memRun [(0, 3, 0), (4, 9, 3)] (lenL 1 7 8 ++ []) wN0) w0_3_7ms := ⟨⟨w0_3_7o0, w0_3_7o1, w0_3_7o2, trivial⟩, trivial⟩
theorem w0_3_7 : lawRunM 9 10 200 [.i, .q, .b, .q, .i] [(0, 3, 0), (4, 9, 3)] (lenL 1 7 8 ++ []) wN0 w0_3_7ms = true := by kernel_rfl
def w0_4_7m0 : Memo :=  (⟨[(.ag [(.i .i64 1), (.sl 11 0 9 (.u 4)), (.sl 10 0 1 (.u 1))]), (.c (.sl 70 0 1 (.u 1)))], [(10, wb2_11), (11, wb2_12), (70, wb2_2)], 94, (.c (.sl 96 0 1 (.n 1))), [(10, wb2_11), (11, wb2_12), (70, wb2_2), (96, [(.ef (.vf 151))])], 139⟩) 
theorem w0_4_7o0 : mok [(0, 3, 0), (4, 9, 4)] (lenL 1 7 8 ++ []) wN0 21 w0_4_7m0 = true := by kernel_rfl
def w0_4_7m1 : Memo :=  (⟨[(.ag [(.i .i64 1), (.sl 79 0 13 (.u 4)), (.sl 39 0 1 (.u 1))]), (.c (.sl 70 0 1 (.u 1)))], [(39, wb2_11), (70, wb2_2), (79, wb2_16)], 139, (.c (.sl 141 0 1 (.n 1))), [(39, wb2_11), (70, wb2_2), (79, wb2_16), (141, [(.ef (.vf 151))])], 200⟩) 
theorem w0_4_7o1 : mok [(0, 3, 0), (4, 9, 4)] (lenL 1 7 8 ++ []) wN0 21 w0_4_7m1 = true := by kernel_rfl
def w0_4_7m2 : Memo :=  (⟨[(.ag [(.i .i64 1), (.sl 79 0 13 (.u 4)), (.sl 39 0 1 (.u 1))]), (.c (.sl 70 0 1 (.u 1)))], [(39, wb2_11), (70, wb2_2), (79, wb2_16)], 200, (.c (.sl 202 0 1 (.n 1))), [(39, wb2_11), (70, wb2_2), (79, wb2_16), (202, [(.ef (.vf 151))])], 261⟩) 
theorem w0_4_7o2 : mok [(0, 3, 0), (4, 9, 4)] (lenL 1 7 8 ++ []) wN0 21 w0_4_7m2 = true := by kernel_rfl
def w0_4_7ms : List (Nat × List Memo) := [(21, [w0_4_7m0, w0_4_7m1, w0_4_7m2])]
theorem w0_4_7mo : AllMem (memRun [(0, 3, 0), (4, 9, 4)] (lenL 1 7 8 ++ []) wN0) w0_4_7ms := ⟨⟨w0_4_7o0, w0_4_7o1, w0_4_7o2, trivial⟩, trivial⟩
theorem w0_4_7 : lawRunM 9 10 200 [.i, .q, .b, .q, .i] [(0, 3, 0), (4, 9, 4)] (lenL 1 7 8 ++ []) wN0 w0_4_7ms = true := by kernel_rfl
def w0_5_7m0 : Memo :=  (⟨[(.ag [(.i .i64 1), (.sl 11 0 9 (.u 4)), (.sl 10 0 1 (.u 1))]), (.c (.sl 70 0 1 (.u 1)))], [(10, wb2_11), (11, wb2_12), (70, wb2_2)], 97, (.c (.sl 99 0 1 (.n 1))), [(10, wb2_11), (11, wb2_12), (70, wb2_2), (99, [(.ef (.vf 151))])], 142⟩) 
theorem w0_5_7o0 : mok [(0, 3, 0), (4, 9, 5)] (lenL 1 7 8 ++ []) wN0 21 w0_5_7m0 = true := by kernel_rfl
def w0_5_7m1 : Memo :=  (⟨[(.ag [(.i .i64 1), (.sl 81 0 14 (.u 4)), (.sl 39 0 1 (.u 1))]), (.c (.sl 70 0 1 (.u 1)))], [(39, wb2_11), (70, wb2_2), (81, wb2_17)], 142, (.c (.sl 144 0 1 (.n 1))), [(39, wb2_11), (70, wb2_2), (81, wb2_17), (144, [(.ef (.vf 151))])], 207⟩) 
theorem w0_5_7o1 : mok [(0, 3, 0), (4, 9, 5)] (lenL 1 7 8 ++ []) wN0 21 w0_5_7m1 = true := by kernel_rfl
def w0_5_7m2 : Memo :=  (⟨[(.ag [(.i .i64 1), (.sl 81 0 14 (.u 4)), (.sl 39 0 1 (.u 1))]), (.c (.sl 70 0 1 (.u 1)))], [(39, wb2_11), (70, wb2_2), (81, wb2_17)], 207, (.c (.sl 209 0 1 (.n 1))), [(39, wb2_11), (70, wb2_2), (81, wb2_17), (209, [(.ef (.vf 151))])], 272⟩) 
theorem w0_5_7o2 : mok [(0, 3, 0), (4, 9, 5)] (lenL 1 7 8 ++ []) wN0 21 w0_5_7m2 = true := by kernel_rfl
def w0_5_7ms : List (Nat × List Memo) := [(21, [w0_5_7m0, w0_5_7m1, w0_5_7m2])]
theorem w0_5_7mo : AllMem (memRun [(0, 3, 0), (4, 9, 5)] (lenL 1 7 8 ++ []) wN0) w0_5_7ms := ⟨⟨w0_5_7o0, w0_5_7o1, w0_5_7o2, trivial⟩, trivial⟩
theorem w0_5_7 : lawRunM 9 10 200 [.i, .q, .b, .q, .i] [(0, 3, 0), (4, 9, 5)] (lenL 1 7 8 ++ []) wN0 w0_5_7ms = true := by kernel_rfl
def w0_6_7m0 : Memo :=  (⟨[(.ag [(.i .i64 1), (.sl 11 0 9 (.u 4)), (.sl 10 0 1 (.u 1))]), (.c (.sl 70 0 1 (.u 1)))], [(10, wb2_11), (11, wb2_12), (70, wb2_2)], 100, (.c (.sl 102 0 1 (.n 1))), [(10, wb2_11), (11, wb2_12), (70, wb2_2), (102, [(.ef (.vf 151))])], 145⟩) 
theorem w0_6_7o0 : mok [(0, 3, 0), (4, 9, 6)] (lenL 1 7 8 ++ []) wN0 21 w0_6_7m0 = true := by kernel_rfl
def w0_6_7m1 : Memo :=  (⟨[(.ag [(.i .i64 1), (.sl 83 0 15 (.u 4)), (.sl 39 0 1 (.u 1))]), (.c (.sl 70 0 1 (.u 1)))], [(39, wb2_11), (70, wb2_2), (83, wb2_18)], 145, (.c (.sl 147 0 1 (.n 1))), [(39, wb2_11), (70, wb2_2), (83, wb2_18), (147, [(.ef (.vf 151))])], 214⟩) 
theorem w0_6_7o1 : mok [(0, 3, 0), (4, 9, 6)] (lenL 1 7 8 ++ []) wN0 21 w0_6_7m1 = true := by kernel_rfl
def w0_6_7m2 : Memo :=  (⟨[(.ag [(.i .i64 1), (.sl 83 0 15 (.u 4)), (.sl 39 0 1 (.u 1))]), (.c (.sl 70 0 1 (.u 1)))], [(39, wb2_11), (70, wb2_2), (83, wb2_18)], 214, (.c (.sl 216 0 1 (.n 1))), [(39, wb2_11), (70, wb2_2), (83, wb2_18), (216, [(.ef (.vf 151))])], 283⟩) 
theorem w0_6_7o2 : mok [(0, 3, 0), (4, 9, 6)] (lenL 1 7 8 ++ []) wN0 21 w0_6_7m2 = true := by kernel_rfl
def w0_6_7ms : List (Nat × List Memo) := [(21, [w0_6_7m0, w0_6_7m1, w0_6_7m2])]
theorem w0_6_7mo : AllMem (memRun [(0, 3, 0), (4, 9, 6)] (lenL 1 7 8 ++ []) wN0) w0_6_7ms := ⟨⟨w0_6_7o0, w0_6_7o1, w0_6_7o2, trivial⟩, trivial⟩
theorem w0_6_7 : lawRunM 9 10 200 [.i, .q, .b, .q, .i] [(0, 3, 0), (4, 9, 6)] (lenL 1 7 8 ++ []) wN0 w0_6_7ms = true := by kernel_rfl
def w0_7_7m0 : Memo :=  (⟨[(.ag [(.i .i64 1), (.sl 11 0 9 (.u 4)), (.sl 10 0 1 (.u 1))]), (.c (.sl 70 0 1 (.u 1)))], [(10, wb2_11), (11, wb2_12), (70, wb2_2)], 103, (.c (.sl 105 0 1 (.n 1))), [(10, wb2_11), (11, wb2_12), (70, wb2_2), (105, [(.ef (.vf 151))])], 148⟩) 
theorem w0_7_7o0 : mok [(0, 3, 0), (4, 9, 7)] (lenL 1 7 8 ++ []) wN0 21 w0_7_7m0 = true := by kernel_rfl
def w0_7_7m1 : Memo :=  (⟨[(.ag [(.i .i64 1), (.sl 85 0 16 (.u 4)), (.sl 39 0 1 (.u 1))]), (.c (.sl 70 0 1 (.u 1)))], [(39, wb2_11), (70, wb2_2), (85, wb2_19)], 148, (.c (.sl 150 0 1 (.n 1))), [(39, wb2_11), (70, wb2_2), (85, wb2_19), (150, [(.ef (.vf 151))])], 221⟩) 
theorem w0_7_7o1 : mok [(0, 3, 0), (4, 9, 7)] (lenL 1 7 8 ++ []) wN0 21 w0_7_7m1 = true := by kernel_rfl
def w0_7_7m2 : Memo :=  (⟨[(.ag [(.i .i64 1), (.sl 85 0 16 (.u 4)), (.sl 39 0 1 (.u 1))]), (.c (.sl 70 0 1 (.u 1)))], [(39, wb2_11), (70, wb2_2), (85, wb2_19)], 221, (.c (.sl 223 0 1 (.n 1))), [(39, wb2_11), (70, wb2_2), (85, wb2_19), (223, [(.ef (.vf 151))])], 294⟩) 
theorem w0_7_7o2 : mok [(0, 3, 0), (4, 9, 7)] (lenL 1 7 8 ++ []) wN0 21 w0_7_7m2 = true := by kernel_rfl
def w0_7_7ms : List (Nat × List Memo) := [(21, [w0_7_7m0, w0_7_7m1, w0_7_7m2])]
theorem w0_7_7mo : AllMem (memRun [(0, 3, 0), (4, 9, 7)] (lenL 1 7 8 ++ []) wN0) w0_7_7ms := ⟨⟨w0_7_7o0, w0_7_7o1, w0_7_7o2, trivial⟩, trivial⟩
theorem w0_7_7 : lawRunM 9 10 200 [.i, .q, .b, .q, .i] [(0, 3, 0), (4, 9, 7)] (lenL 1 7 8 ++ []) wN0 w0_7_7ms = true := by kernel_rfl
def w0_8_7m0 : Memo :=  (⟨[(.ag [(.i .i64 1), (.sl 11 0 9 (.u 4)), (.sl 10 0 1 (.u 1))]), (.c (.sl 70 0 1 (.u 1)))], [(10, wb2_11), (11, wb2_12), (70, wb2_2)], 106, (.c (.sl 108 0 1 (.n 1))), [(10, wb2_11), (11, wb2_12), (70, wb2_2), (108, [(.ef (.vf 151))])], 151⟩) 
theorem w0_8_7o0 : mok [(0, 3, 0), (4, 9, 8)] (lenL 1 7 8 ++ []) wN0 21 w0_8_7m0 = true := by kernel_rfl
def w0_8_7m1 : Memo :=  (⟨[(.ag [(.i .i64 1), (.sl 87 0 17 (.u 4)), (.sl 39 0 1 (.u 1))]), (.c (.sl 70 0 1 (.u 1)))], [(39, wb2_11), (70, wb2_2), (87, wb2_20)], 151, (.c (.sl 153 0 1 (.n 1))), [(39, wb2_11), (70, wb2_2), (87, wb2_20), (153, [(.ef (.vf 151))])], 228⟩) 
theorem w0_8_7o1 : mok [(0, 3, 0), (4, 9, 8)] (lenL 1 7 8 ++ []) wN0 21 w0_8_7m1 = true := by kernel_rfl
def w0_8_7m2 : Memo :=  (⟨[(.ag [(.i .i64 1), (.sl 87 0 17 (.u 4)), (.sl 39 0 1 (.u 1))]), (.c (.sl 70 0 1 (.u 1)))], [(39, wb2_11), (70, wb2_2), (87, wb2_20)], 228, (.c (.sl 230 0 1 (.n 1))), [(39, wb2_11), (70, wb2_2), (87, wb2_20), (230, [(.ef (.vf 151))])], 305⟩) 
theorem w0_8_7o2 : mok [(0, 3, 0), (4, 9, 8)] (lenL 1 7 8 ++ []) wN0 21 w0_8_7m2 = true := by kernel_rfl
def w0_8_7ms : List (Nat × List Memo) := [(21, [w0_8_7m0, w0_8_7m1, w0_8_7m2])]
theorem w0_8_7mo : AllMem (memRun [(0, 3, 0), (4, 9, 8)] (lenL 1 7 8 ++ []) wN0) w0_8_7ms := ⟨⟨w0_8_7o0, w0_8_7o1, w0_8_7o2, trivial⟩, trivial⟩
theorem w0_8_7 : lawRunM 9 10 200 [.i, .q, .b, .q, .i] [(0, 3, 0), (4, 9, 8)] (lenL 1 7 8 ++ []) wN0 w0_8_7ms = true := by kernel_rfl
def w0_0_8m0 : Memo :=  (⟨[(.ag [(.i .i64 1), (.sl 11 0 10 (.u 4)), (.sl 10 0 1 (.u 1))]), (.c (.sl 76 0 1 (.u 1)))], [(10, wb2_21), (11, wb2_22), (76, wb2_2)], 89, (.c (.sl 91 0 1 (.n 1))), [(10, wb2_21), (11, wb2_22), (76, wb2_2), (91, [(.ef (.vf 150))])], 138⟩) 
theorem w0_0_8o0 : mok [(0, 3, 0), (4, 9, 0)] (lenL 1 8 8 ++ []) wN0 21 w0_0_8m0 = true := by kernel_rfl
def w0_0_8m1 : Memo :=  (⟨[(.ag [(.i .i64 1), (.sl 43 0 10 (.u 4)), (.sl 42 0 1 (.u 1))]), (.c (.sl 76 0 1 (.u 1)))], [(42, wb2_21), (43, wb2_22), (76, wb2_2)], 138, (.c (.sl 140 0 1 (.n 1))), [(42, wb2_21), (43, wb2_22), (76, wb2_2), (140, [(.ef (.vf 150))])], 187⟩) 
theorem w0_0_8o1 : mok [(0, 3, 0), (4, 9, 0)] (lenL 1 8 8 ++ []) wN0 21 w0_0_8m1 = true := by kernel_rfl
def w0_0_8m2 : Memo :=  (⟨[(.ag [(.i .i64 1), (.sl 43 0 10 (.u 4)), (.sl 42 0 1 (.u 1))]), (.c (.sl 76 0 1 (.u 1)))], [(42, wb2_21), (43, wb2_22), (76, wb2_2)], 187, (.c (.sl 189 0 1 (.n 1))), [(42, wb2_21), (43, wb2_22), (76, wb2_2), (189, [(.ef (.vf 150))])], 236⟩) 
theorem w0_0_8o2 : mok [(0, 3, 0), (4, 9, 0)] (lenL 1 8 8 ++ []) wN0 21 w0_0_8m2 = true := by kernel_rfl
def w0_0_8ms : List (Nat × List Memo) := [(21, [w0_0_8m0, w0_0_8m1, w0_0_8m2])]
theorem w0_0_8mo : AllMem (memRun [(0, 3, 0), (4, 9, 0)] (lenL 1 8 8 ++ []) wN0) w0_0_8ms := ⟨⟨w0_0_8o0, w0_0_8o1, w0_0_8o2, trivial⟩, trivial⟩
theorem w0_0_8 : lawRunM 9 10 200 [.i, .q, .b, .q, .i] [(0, 3, 0), (4, 9, 0)] (lenL 1 8 8 ++ []) wN0 w0_0_8ms = true := by kernel_rfl
def w0_1_8m0 : Memo :=  (⟨[(.ag [(.i .i64 1), (.sl 11 0 10 (.u 4)), (.sl 10 0 1 (.u 1))]), (.c (.sl 76 0 1 (.u 1)))], [(10, wb2_21), (11, wb2_22), (76, wb2_2)], 92, (.c (.sl 94 0 1 (.n 1))), [(10, wb2_21), (11, wb2_22), (76, wb2_2), (94, [(.ef (.vf 150))])], 141⟩) 
theorem w0_1_8o0 : mok [(0, 3, 0), (4, 9, 1)] (lenL 1 8 8 ++ []) wN0 21 w0_1_8m0 = true := by kernel_rfl
def w0_1_8m1 : Memo :=  (⟨[(.ag [(.i .i64 1), (.sl 79 0 11 (.u 4)), (.sl 42 0 1 (.u 1))]), (.c (.sl 76 0 1 (.u 1)))], [(42, wb2_21), (76, wb2_2), (79, wb2_23)], 141, (.c (.sl 143 0 1 (.n 1))), [(42, wb2_21), (76, wb2_2), (79, wb2_23), (143, [(.ef (.vf 150))])], 194⟩) 
theorem w0_1_8o1 : mok [(0, 3, 0), (4, 9, 1)] (lenL 1 8 8 ++ []) wN0 21 w0_1_8m1 = true := by kernel_rfl
def w0_1_8m2 : Memo :=  (⟨[(.ag [(.i .i64 1), (.sl 79 0 11 (.u 4)), (.sl 42 0 1 (.u 1))]), (.c (.sl 76 0 1 (.u 1)))], [(42, wb2_21), (76, wb2_2), (79, wb2_23)], 194, (.c (.sl 196 0 1 (.n 1))), [(42, wb2_21), (76, wb2_2), (79, wb2_23), (196, [(.ef (.vf 150))])], 247⟩) 
theorem w0_1_8o2 : mok [(0, 3, 0), (4, 9, 1)] (lenL 1 8 8 ++ []) wN0 21 w0_1_8m2 = true := by kernel_rfl
def w0_1_8ms : List (Nat × List Memo) := [(21, [w0_1_8m0, w0_1_8m1, w0_1_8m2])]
theorem w0_1_8mo : AllMem (memRun [(0, 3, 0), (4, 9, 1)] (lenL 1 8 8 ++ []) wN0) w0_1_8ms := ⟨⟨w0_1_8o0, w0_1_8o1, w0_1_8o2, trivial⟩, trivial⟩
theorem w0_1_8 : lawRunM 9 10 200 [.i, .q, .b, .q, .i] [(0, 3, 0), (4, 9, 1)] (lenL 1 8 8 ++ []) wN0 w0_1_8ms = true := by kernel_rfl
def w0_2_8m0 : Memo :=  (⟨[(.ag [(.i .i64 1), (.sl 11 0 10 (.u 4)), (.sl 10 0 1 (.u 1))]), (.c (.sl 76 0 1 (.u 1)))], [(10, wb2_21), (11, wb2_22), (76, wb2_2)], 95, (.c (.sl 97 0 1 (.n 1))), [(10, wb2_21), (11, wb2_22), (76, wb2_2), (97, [(.ef (.vf 150))])], 144⟩) 
theorem w0_2_8o0 : mok [(0, 3, 0), (4, 9, 2)] (lenL 1 8 8 ++ []) wN0 21 w0_2_8m0 = true := by kernel_rfl
def w0_2_8m1 : Memo :=  (⟨[(.ag [(.i .i64 1), (.sl 81 0 12 (.u 4)), (.sl 42 0 1 (.u 1))]), (.c (.sl 76 0 1 (.u 1)))], [(42, wb2_21), (76, wb2_2), (81, wb2_24)], 144, (.c (.sl 146 0 1 (.n 1))), [(42, wb2_21), (76, wb2_2), (81, wb2_24), (146, [(.ef (.vf 150))])], 201⟩) 
theorem w0_2_8o1 : mok [(0, 3, 0), (4, 9, 2)] (lenL 1 8 8 ++ []) wN0 21 w0_2_8m1 = true := by kernel_rfl
def w0_2_8m2 : Memo :=  (⟨[(.ag [(.i .i64 1), (.sl 81 0 12 (.u 4)), (.sl 42 0 1 (.u 1))]), (.c (.sl 76 0 1 (.u 1)))], [(42, wb2_21), (76, wb2_2), (81, wb2_24)], 201, (.c (.sl 203 0 1 (.n 1))), [(42, wb2_21), (76, wb2_2), (81, wb2_24), (203, [(.ef (.vf 150))])], 258⟩) 
theorem w0_2_8o2 : mok [(0, 3, 0), (4, 9, 2)] (lenL 1 8 8 ++ []) wN0 21 w0_2_8m2 = true := by kernel_rfl
def w0_2_8ms : List (Nat × List Memo) := [(21, [w0_2_8m0, w0_2_8m1, w0_2_8m2])]
theorem w0_2_8mo : AllMem (memRun [(0, 3, 0), (4, 9, 2)] (lenL 1 8 8 ++ []) wN0) w0_2_8ms := ⟨⟨w0_2_8o0, w0_2_8o1, w0_2_8o2, trivial⟩, trivial⟩
theorem w0_2_8 : lawRunM 9 10 200 [.i, .q, .b, .q, .i] [(0, 3, 0), (4, 9, 2)] (lenL 1 8 8 ++ []) wN0 w0_2_8ms = true := by kernel_rfl
def w0_3_8m0 : Memo :=  (⟨[(.ag [(.i .i64 1), (.sl 11 0 10 (.u 4)), (.sl 10 0 1 (.u 1))]), (.c (.sl 76 0 1 (.u 1)))], [(10, wb2_21), (11, wb2_22), (76, wb2_2)], 98, (.c (.sl 100 0 1 (.n 1))), [(10, wb2_21), (11, wb2_22), (76, wb2_2), (100, [(.ef (.vf 150))])], 147⟩) 
theorem w0_3_8o0 : mok [(0, 3, 0), (4, 9, 3)] (lenL 1 8 8 ++ []) wN0 21 w0_3_8m0 = true := by kernel_rfl
def w0_3_8m1 : Memo :=  (⟨[(.ag [(.i .i64 1), (.sl 83 0 13 (.u 4)), (.sl 42 0 1 (.u 1))]), (.c (.sl 76 0 1 (.u 1)))], [(42, wb2_21), (76, wb2_2), (83, wb2_25)], 147, (.c (.sl 149 0 1 (.n 1))), [(42, wb2_21), (76, wb2_2), (83, wb2_25), (149, [(.ef (.vf 150))])], 208⟩) 
theorem w0_3_8o1 : mok [(0, 3, 0), (4, 9, 3)] (lenL 1 8 8 ++ []) wN0 21 w0_3_8m1 = true := by kernel_rfl
def w0_3_8m2 : Memo :=  (⟨[(.ag [(.i .i64 1), (.sl 83 0 13 (.u 4)), (.sl 42 0 1 (.u 1))]), (.c (.sl 76 0 1 (.u 1)))], [(42, wb2_21), (76, wb2_2), (83, wb2_25)], 208, (.c (.sl 210 0 1 (.n 1))), [(42, wb2_21), (76, wb2_2), (83, wb2_25), (210, [(.ef (.vf 150))])], 269⟩) 
theorem w0_3_8o2 : mok [(0, 3, 0), (4, 9, 3)] (lenL 1 8 8 ++ []) wN0 21 w0_3_8m2 = true := by kernel_rfl
def w0_3_8ms : List (Nat × List Memo) := [(21, [w0_3_8m0, w0_3_8m1, w0_3_8m2])]
theorem w0_3_8mo : AllMem (memRun [(0, 3, 0), (4, 9, 3)] (lenL 1 8 8 ++ []) wN0) w0_3_8ms := ⟨⟨w0_3_8o0, w0_3_8o1, w0_3_8o2, trivial⟩, trivial⟩
theorem w0_3_8 : lawRunM 9 10 200 [.i, .q, .b, .q, .i] [(0, 3, 0), (4, 9, 3)] (lenL 1 8 8 ++ []) wN0 w0_3_8ms = true := by kernel_rfl
def w0_4_8m0 : Memo :=  (⟨[(.ag [(.i .i64 1), (.sl 11 0 10 (.u 4)), (.sl 10 0 1 (.u 1))]), (.c (.sl 76 0 1 (.u 1)))], [(10, wb2_21), (11, wb2_22), (76, wb2_2)], 101, (.c (.sl 103 0 1 (.n 1))), [(10, wb2_21), (11, wb2_22), (76, wb2_2), (103, [(.ef (.vf 150))])], 150⟩) 
theorem w0_4_8o0 : mok [(0, 3, 0), (4, 9, 4)] (lenL 1 8 8 ++ []) wN0 21 w0_4_8m0 = true := by kernel_rfl
def w0_4_8m1 : Memo :=  (⟨[(.ag [(.i .i64 1), (.sl 85 0 14 (.u 4)), (.sl 42 0 1 (.u 1))]), (.c (.sl 76 0 1 (.u 1)))], [(42, wb2_21), (76, wb2_2), (85, wb2_26)], 150, (.c (.sl 152 0 1 (.n 1))), [(42, wb2_21), (76, wb2_2), (85, wb2_26), (152, [(.ef (.vf 150))])], 215⟩) 
theorem w0_4_8o1 : mok [(0, 3, 0), (4, 9, 4)] (lenL 1 8 8 ++ []) wN0 21 w0_4_8m1 = true := by kernel_rfl
def w0_4_8m2 : Memo :=  (⟨[(.ag [(.i .i64 1), (.sl 85 0 14 (.u 4)), (.sl 42 0 1 (.u 1))]), (.c (.sl 76 0 1 (.u 1)))], [(42, wb2_21), (76, wb2_2), (85, wb2_26)], 215, (.c (.sl 217 0 1 (.n 1))), [(42, wb2_21), (76, wb2_2), (85, wb2_26), (217, [(.ef (.vf 150))])], 280⟩) 
theorem w0_4_8o2 : mok [(0, 3, 0), (4, 9, 4)] (lenL 1 8 8 ++ []) wN0 21 w0_4_8m2 = true := by kernel_rfl
def w0_4_8ms : List (Nat × List Memo) := [(21, [w0_4_8m0, w0_4_8m1, w0_4_8m2])]
theorem w0_4_8mo : AllMem (memRun [(0, 3, 0), (4, 9, 4)] (lenL 1 8 8 ++ []) wN0) w0_4_8ms := ⟨⟨w0_4_8o0, w0_4_8o1, w0_4_8o2, trivial⟩, trivial⟩
theorem w0_4_8 : lawRunM 9 10 200 [.i, .q, .b, .q, .i] [(0, 3, 0), (4, 9, 4)] (lenL 1 8 8 ++ []) wN0 w0_4_8ms = true := by kernel_rfl
def w0_5_8m0 : Memo :=  (⟨[(.ag [(.i .i64 1), (.sl 11 0 10 (.u 4)), (.sl 10 0 1 (.u 1))]), (.c (.sl 76 0 1 (.u 1)))], [(10, wb2_21), (11, wb2_22), (76, wb2_2)], 104, (.c (.sl 106 0 1 (.n 1))), [(10, wb2_21), (11, wb2_22), (76, wb2_2), (106, [(.ef (.vf 150))])], 153⟩) 
theorem w0_5_8o0 : mok [(0, 3, 0), (4, 9, 5)] (lenL 1 8 8 ++ []) wN0 21 w0_5_8m0 = true := by kernel_rfl
def w0_5_8m1 : Memo :=  (⟨[(.ag [(.i .i64 1), (.sl 87 0 15 (.u 4)), (.sl 42 0 1 (.u 1))]), (.c (.sl 76 0 1 (.u 1)))], [(42, wb2_21), (76, wb2_2), (87, wb2_27)], 153, (.c (.sl 155 0 1 (.n 1))), [(42, wb2_21), (76, wb2_2), (87, wb2_27), (155, [(.ef (.vf 150))])], 222⟩) 
theorem w0_5_8o1 : mok [(0, 3, 0), (4, 9, 5)] (lenL 1 8 8 ++ []) wN0 21 w0_5_8m1 = true := by kernel_rfl
def w0_5_8m2 : Memo :=  (⟨[(.ag [(.i .i64 1), (.sl 87 0 15 (.u 4)), (.sl 42 0 1 (.u 1))]), (.c (.sl 76 0 1 (.u 1)))], [(42, wb2_21), (76, wb2_2), (87, wb2_27)], 222, (.c (.sl 224 0 1 (.n 1))), [(42, wb2_21), (76, wb2_2), (87, wb2_27), (224, [(.ef (.vf 150))])], 291⟩) 
theorem w0_5_8o2 : mok [(0, 3, 0), (4, 9, 5)] (lenL 1 8 8 ++ []) wN0 21 w0_5_8m2 = true := by kernel_rfl
def w0_5_8ms : List (Nat × List Memo) := [(21, [w0_5_8m0, w0_5_8m1, w0_5_8m2])]
theorem w0_5_8mo : AllMem (memRun [(0, 3, 0), (4, 9, 5)] (lenL 1 8 8 ++ []) wN0) w0_5_8ms := ⟨⟨w0_5_8o0, w0_5_8o1, w0_5_8o2, trivial⟩, trivial⟩
theorem w0_5_8 : lawRunM 9 10 200 [.i, .q, .b, .q, .i] [(0, 3, 0), (4, 9, 5)] (lenL 1 8 8 ++ []) wN0 w0_5_8ms = true := by kernel_rfl
def w0_6_8m0 : Memo :=  (⟨[(.ag [(.i .i64 1), (.sl 11 0 10 (.u 4)), (.sl 10 0 1 (.u 1))]), (.c (.sl 76 0 1 (.u 1)))], [(10, wb2_21), (11, wb2_22), (76, wb2_2)], 107, (.c (.sl 109 0 1 (.n 1))), [(10, wb2_21), (11, wb2_22), (76, wb2_2), (109, [(.ef (.vf 150))])], 156⟩) 
theorem w0_6_8o0 : mok [(0, 3, 0), (4, 9, 6)] (lenL 1 8 8 ++ []) wN0 21 w0_6_8m0 = true := by kernel_rfl
def w0_6_8m1 : Memo :=  (⟨[(.ag [(.i .i64 1), (.sl 89 0 16 (.u 4)), (.sl 42 0 1 (.u 1))]), (.c (.sl 76 0 1 (.u 1)))], [(42, wb2_21), (76, wb2_2), (89, wb2_28)], 156, (.c (.sl 158 0 1 (.n 1))), [(42, wb2_21), (76, wb2_2), (89, wb2_28), (158, [(.ef (.vf 150))])], 229⟩) 
theorem w0_6_8o1 : mok [(0, 3, 0), (4, 9, 6)] (lenL 1 8 8 ++ []) wN0 21 w0_6_8m1 = true := by kernel_rfl
def w0_6_8m2 : Memo :=  (⟨[(.ag [(.i .i64 1), (.sl 89 0 16 (.u 4)), (.sl 42 0 1 (.u 1))]), (.c (.sl 76 0 1 (.u 1)))], [(42, wb2_21), (76, wb2_2), (89, wb2_28)], 229, (.c (.sl 231 0 1 (.n 1))), [(42, wb2_21), (76, wb2_2), (89, wb2_28), (231, [(.ef (.vf 150))])], 302⟩) 
theorem w0_6_8o2 : mok [(0, 3, 0), (4, 9, 6)] (lenL 1 8 8 ++ []) wN0 21 w0_6_8m2 = true := by kernel_rfl
def w0_6_8ms : List (Nat × List Memo) := [(21, [w0_6_8m0, w0_6_8m1, w0_6_8m2])]
theorem w0_6_8mo : AllMem (memRun [(0, 3, 0), (4, 9, 6)] (lenL 1 8 8 ++ []) wN0) w0_6_8ms := ⟨⟨w0_6_8o0, w0_6_8o1, w0_6_8o2, trivial⟩, trivial⟩
theorem w0_6_8 : lawRunM 9 10 200 [.i, .q, .b, .q, .i] [(0, 3, 0), (4, 9, 6)] (lenL 1 8 8 ++ []) wN0 w0_6_8ms = true := by kernel_rfl
def w0_7_8m0 : Memo :=  (⟨[(.ag [(.i .i64 1), (.sl 11 0 10 (.u 4)), (.sl 10 0 1 (.u 1))]), (.c (.sl 76 0 1 (.u 1)))], [(10, wb2_21), (11, wb2_22), (76, wb2_2)], 110, (.c (.sl 112 0 1 (.n 1))), [(10, wb2_21), (11, wb2_22), (76, wb2_2), (112, [(.ef (.vf 150))])], 159⟩) 
theorem w0_7_8o0 : mok [(0, 3, 0), (4, 9, 7)] (lenL 1 8 8 ++ []) wN0 21 w0_7_8m0 = true := by kernel_rfl
def w0_7_8m1 : Memo :=  (⟨[(.ag [(.i .i64 1), (.sl 91 0 17 (.u 4)), (.sl 42 0 1 (.u 1))]), (.c (.sl 76 0 1 (.u 1)))], [(42, wb2_21), (76, wb2_2), (91, wb2_29)], 159, (.c (.sl 161 0 1 (.n 1))), [(42, wb2_21), (76, wb2_2), (91, wb2_29), (161, [(.ef (.vf 150))])], 236⟩) 
theorem w0_7_8o1 : mok [(0, 3, 0), (4, 9, 7)] (lenL 1 8 8 ++ []) wN0 21 w0_7_8m1 = true := by kernel_rfl
def w0_7_8m2 : Memo :=  (⟨[(.ag [(.i .i64 1), (.sl 91 0 17 (.u 4)), (.sl 42 0 1 (.u 1))]), (.c (.sl 76 0 1 (.u 1)))], [(42, wb2_21), (76, wb2_2), (91, wb2_29)], 236, (.c (.sl 238 0 1 (.n 1))), [(42, wb2_21), (76, wb2_2), (91, wb2_29), (238, [(.ef (.vf 150))])], 313⟩) 
theorem w0_7_8o2 : mok [(0, 3, 0), (4, 9, 7)] (lenL 1 8 8 ++ []) wN0 21 w0_7_8m2 = true := by kernel_rfl
def w0_7_8ms : List (Nat × List Memo) := [(21, [w0_7_8m0, w0_7_8m1, w0_7_8m2])]
theorem w0_7_8mo : AllMem (memRun [(0, 3, 0), (4, 9, 7)] (lenL 1 8 8 ++ []) wN0) w0_7_8ms := ⟨⟨w0_7_8o0, w0_7_8o1, w0_7_8o2, trivial⟩, trivial⟩
theorem w0_7_8 : lawRunM 9 10 200 [.i, .q, .b, .q, .i] [(0, 3, 0), (4, 9, 7)] (lenL 1 8 8 ++ []) wN0 w0_7_8ms = true := by kernel_rfl
def w0_8_8m0 : Memo :=  (⟨[(.ag [(.i .i64 1), (.sl 11 0 10 (.u 4)), (.sl 10 0 1 (.u 1))]), (.c (.sl 76 0 1 (.u 1)))], [(10, wb2_21), (11, wb2_22), (76, wb2_2)], 113, (.c (.sl 115 0 1 (.n 1))), [(10, wb2_21), (11, wb2_22), (76, wb2_2), (115, [(.ef (.vf 150))])], 162⟩) 
theorem w0_8_8o0 : mok [(0, 3, 0), (4, 9, 8)] (lenL 1 8 8 ++ []) wN0 21 w0_8_8m0 = true := by kernel_rfl
def w0_8_8m1 : Memo :=  (⟨[(.ag [(.i .i64 1), (.sl 93 0 18 (.u 4)), (.sl 42 0 1 (.u 1))]), (.c (.sl 76 0 1 (.u 1)))], [(42, wb2_21), (76, wb2_2), (93, wb2_30)], 162, (.c (.sl 164 0 1 (.n 1))), [(42, wb2_21), (76, wb2_2), (93, wb2_30), (164, [(.ef (.vf 150))])], 243⟩) 
theorem w0_8_8o1 : mok [(0, 3, 0), (4, 9, 8)] (lenL 1 8 8 ++ []) wN0 21 w0_8_8m1 = true := by kernel_rfl
def w0_8_8m2 : Memo :=  (⟨[(.ag [(.i .i64 1), (.sl 93 0 18 (.u 4)), (.sl 42 0 1 (.u 1))]), (.c (.sl 76 0 1 (.u 1)))], [(42, wb2_21), (76, wb2_2), (93, wb2_30)], 243, (.c (.sl 245 0 1 (.n 1))), [(42, wb2_21), (76, wb2_2), (93, wb2_30), (245, [(.ef (.vf 150))])], 324⟩) 
theorem w0_8_8o2 : mok [(0, 3, 0), (4, 9, 8)] (lenL 1 8 8 ++ []) wN0 21 w0_8_8m2 = true := by kernel_rfl
def w0_8_8ms : List (Nat × List Memo) := [(21, [w0_8_8m0, w0_8_8m1, w0_8_8m2])]
theorem w0_8_8mo : AllMem (memRun [(0, 3, 0), (4, 9, 8)] (lenL 1 8 8 ++ []) wN0) w0_8_8ms := ⟨⟨w0_8_8o0, w0_8_8o1, w0_8_8o2, trivial⟩, trivial⟩
theorem w0_8_8 : lawRunM 9 10 200 [.i, .q, .b, .q, .i] [(0, 3, 0), (4, 9, 8)] (lenL 1 8 8 ++ []) wN0 w0_8_8ms = true := by kernel_rfl
end Go.Proofs.Yticbgaflhiokgaa
