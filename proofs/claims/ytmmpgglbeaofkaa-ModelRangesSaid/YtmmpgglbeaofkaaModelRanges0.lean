/-
  'ModelRanges': runs of it, part 0.
-/
import Derived.Test.YtmmpgglbeaofkaaModelRangest0
namespace Go.Proofs.Ytmmpgglbeaofkaa
open Go.RowKit Ex
set_option maxRecDepth 1000000
set_option maxHeartbeats 100000000
def rx_xms : List (Nat × List Memo) := []
theorem rx_xmo : AllMem (memRun [] ([]) rN0) rx_xms := trivial
def rx_xe0 : E := (.ic .lss (.li 0) (.vl 0))
def rx_xe1 : E := (.fb .quo (.i2f (.ib .sub .i64 (.ai 9 0 (.ci (.at 0 0) (.ci (.li 65) .n0))) (.li 32))) (.lf 4616189618054758400))
def rx_xe2 : E := (.tf rx_xe0 rx_xe1 (.lf 0))
def rx_xe3 : E := (.ic .lss (.li 1) (.vl 0))
def rx_xe4 : E := (.fb .quo (.i2f (.ib .sub .i64 (.ai 9 0 (.ci (.at 0 1) (.ci (.li 65) .n0))) (.li 32))) (.lf 4616189618054758400))
def rx_xe5 : E := (.tf rx_xe3 (.fb .add rx_xe4 (.fb .quo (.i2f (.ai 9 0 (.ci (.ib .quo .i64 (.at 0 1) (.li 65)) (.ci (.li 3) .n0)))) (.lf 4616189618054758400))) (.lf 0))
def rx_xe6 : E := (.ic .lss (.li 2) (.vl 0))
def rx_xe7 : E := (.fb .quo (.i2f (.ib .sub .i64 (.ai 9 0 (.ci (.at 0 2) (.ci (.li 65) .n0))) (.li 32))) (.lf 4616189618054758400))
def rx_xe8 : E := (.tf rx_xe6 rx_xe7 (.lf 0))
def rx_xe9 : E := (.ic .lss (.li 3) (.vl 0))
def rx_xe10 : E := (.fb .quo (.i2f (.ib .sub .i64 (.ai 9 0 (.ci (.at 0 3) (.ci (.li 65) .n0))) (.li 32))) (.lf 4616189618054758400))
def rx_xe11 : E := (.tf rx_xe9 (.fb .add rx_xe10 (.fb .quo (.i2f (.ai 9 0 (.ci (.ib .quo .i64 (.at 0 3) (.li 65)) (.ci (.li 3) .n0)))) (.lf 4616189618054758400))) (.lf 0))
def rx_xe12 : E := (.ic .lss (.li 4) (.vl 0))
def rx_xe13 : E := (.fb .quo (.i2f (.ib .sub .i64 (.ai 9 0 (.ci (.at 0 4) (.ci (.li 65) .n0))) (.li 32))) (.lf 4616189618054758400))
def rx_xe14 : E := (.tf rx_xe12 rx_xe13 (.lf 0))
def rx_xe15 : E := (.ic .lss (.li 5) (.vl 0))
def rx_xe16 : E := (.fb .quo (.i2f (.ib .sub .i64 (.ai 9 0 (.ci (.at 0 5) (.ci (.li 65) .n0))) (.li 32))) (.lf 4616189618054758400))
def rx_xe17 : E := (.tf rx_xe15 (.fb .add rx_xe16 (.fb .quo (.i2f (.ai 9 0 (.ci (.ib .quo .i64 (.at 0 5) (.li 65)) (.ci (.li 3) .n0)))) (.lf 4616189618054758400))) (.lf 0))
def rx_xe18 : E := (.ic .lss (.li 6) (.vl 0))
def rx_xe19 : E := (.fb .quo (.i2f (.ib .sub .i64 (.ai 9 0 (.ci (.at 0 6) (.ci (.li 65) .n0))) (.li 32))) (.lf 4616189618054758400))
def rx_xe20 : E := (.tf rx_xe18 rx_xe19 (.lf 0))
def rx_xe21 : E := (.ic .lss (.li 7) (.vl 0))
def rx_xe22 : E := (.fb .quo (.i2f (.ib .sub .i64 (.ai 9 0 (.ci (.at 0 7) (.ci (.li 65) .n0))) (.li 32))) (.lf 4616189618054758400))
def rx_xe23 : E := (.tf rx_xe21 (.fb .add rx_xe22 (.fb .quo (.i2f (.ai 9 0 (.ci (.ib .quo .i64 (.at 0 7) (.li 65)) (.ci (.li 3) .n0)))) (.lf 4616189618054758400))) (.lf 0))
def rx_xe24 : E := (.ic .lss (.li 8) (.vl 0))
def rx_xe25 : E := (.fb .quo (.i2f (.ib .sub .i64 (.ai 9 0 (.ci (.at 0 8) (.ci (.li 65) .n0))) (.li 32))) (.lf 4616189618054758400))
def rx_xe26 : E := (.tf rx_xe24 rx_xe25 (.lf 0))
def rx_xe27 : E := (.tf rx_xe0 (.fb .add rx_xe1 (.fb .quo (.i2f (.ai 9 0 (.ci (.ib .quo .i64 (.at 0 0) (.li 65)) (.ci (.li 3) .n0)))) (.lf 4616189618054758400))) (.lf 0))
def rx_xe28 : E := (.tf rx_xe3 rx_xe4 (.lf 0))
def rx_xe29 : E := (.tf rx_xe6 (.fb .add rx_xe7 (.fb .quo (.i2f (.ai 9 0 (.ci (.ib .quo .i64 (.at 0 2) (.li 65)) (.ci (.li 3) .n0)))) (.lf 4616189618054758400))) (.lf 0))
def rx_xe30 : E := (.tf rx_xe9 rx_xe10 (.lf 0))
def rx_xe31 : E := (.tf rx_xe12 (.fb .add rx_xe13 (.fb .quo (.i2f (.ai 9 0 (.ci (.ib .quo .i64 (.at 0 4) (.li 65)) (.ci (.li 3) .n0)))) (.lf 4616189618054758400))) (.lf 0))
def rx_xe32 : E := (.tf rx_xe15 rx_xe16 (.lf 0))
def rx_xe33 : E := (.tf rx_xe18 (.fb .add rx_xe19 (.fb .quo (.i2f (.ai 9 0 (.ci (.ib .quo .i64 (.at 0 6) (.li 65)) (.ci (.li 3) .n0)))) (.lf 4616189618054758400))) (.lf 0))
def rx_xe34 : E := (.tf rx_xe21 rx_xe22 (.lf 0))
def rx_xe35 : E := (.tf rx_xe24 (.fb .add rx_xe25 (.fb .quo (.i2f (.ai 9 0 (.ci (.ib .quo .i64 (.at 0 8) (.li 65)) (.ci (.li 3) .n0)))) (.lf 4616189618054758400))) (.lf 0))
def rx_xT : Tri := []
def rx_xTS : TrS := [(((.tf rx_xe0 rx_xe1 (.lf 0)), (.fb .add (.fb .add (.fb .add (.fb .add (.fb .add (.fb .add (.fb .add (.fb .add (.fb .add rx_xe2 (.fb .mul rx_xe5 (.lf 0))) (.fb .mul rx_xe8 (.lf 0))) (.fb .mul rx_xe11 (.lf 0))) (.fb .mul rx_xe14 (.lf 0))) (.fb .mul rx_xe17 (.lf 0))) (.fb .mul rx_xe20 (.lf 0))) (.fb .mul rx_xe23 (.lf 0))) (.fb .mul rx_xe26 (.lf 0))) (.lf 0))), ((.vf 146), (.vf 147))), (((.tf rx_xe0 (.fb .add rx_xe1 (.fb .quo (.i2f (.ai 9 0 (.ci (.ib .quo .i64 (.at 0 0) (.li 65)) (.ci (.li 3) .n0)))) (.lf 4616189618054758400))) (.lf 0)), (.fb .add (.fb .add (.fb .add (.fb .add (.fb .add (.fb .add (.fb .add (.fb .add (.fb .add rx_xe27 (.fb .mul rx_xe28 (.lf 0))) (.fb .mul rx_xe29 (.lf 0))) (.fb .mul rx_xe30 (.lf 0))) (.fb .mul rx_xe31 (.lf 0))) (.fb .mul rx_xe32 (.lf 0))) (.fb .mul rx_xe33 (.lf 0))) (.fb .mul rx_xe34 (.lf 0))) (.fb .mul rx_xe35 (.lf 0))) (.lf 0))), ((.vf 146), (.vf 147))), (((.vf 112), (.fb .add (.fb .add (.fb .add (.fb .add (.fb .add (.fb .add (.fb .add (.fb .add (.fb .add rx_xe2 (.fb .mul rx_xe5 (.lf 13830554455654793216))) (.fb .mul rx_xe8 (.lf 4607182418800017408))) (.fb .mul rx_xe11 (.lf 13830554455654793216))) (.fb .mul rx_xe14 (.lf 4607182418800017408))) (.fb .mul rx_xe17 (.lf 13830554455654793216))) (.fb .mul rx_xe20 (.lf 4607182418800017408))) (.fb .mul rx_xe23 (.lf 13830554455654793216))) (.fb .mul rx_xe26 (.lf 4607182418800017408))) (.lf 0))), ((.vf 146), (.vf 147))), (((.vf 113), (.fb .add (.fb .add (.fb .add (.fb .add (.fb .add (.fb .add (.fb .add (.fb .add (.fb .add rx_xe27 (.fb .mul rx_xe28 (.lf 13830554455654793216))) (.fb .mul rx_xe29 (.lf 4607182418800017408))) (.fb .mul rx_xe30 (.lf 13830554455654793216))) (.fb .mul rx_xe31 (.lf 4607182418800017408))) (.fb .mul rx_xe32 (.lf 13830554455654793216))) (.fb .mul rx_xe33 (.lf 4607182418800017408))) (.fb .mul rx_xe34 (.lf 13830554455654793216))) (.fb .mul rx_xe35 (.lf 4607182418800017408))) (.lf 0))), ((.vf 146), (.vf 147)))]
def rx_xN : List E := [(.tf rx_xe0 rx_xe1 (.lf 0)), (.tf rx_xe0 (.fb .add rx_xe1 (.fb .quo (.i2f (.ai 9 0 (.ci (.ib .quo .i64 (.at 0 0) (.li 65)) (.ci (.li 3) .n0)))) (.lf 4616189618054758400))) (.lf 0)), (.vf 112), (.vf 113)]
def rx_xQ : Qua := [((114, 115), (114, 115)), ((116, 117), (116, 117)), ((118, 119), (118, 119)), ((120, 121), (120, 121)), ((122, 123), (122, 123)), ((124, 125), (124, 125)), ((126, 127), (126, 127)), ((128, 129), (128, 129)), ((130, 131), (130, 131)), ((132, 133), (132, 133)), ((134, 135), (134, 135)), ((136, 137), (136, 137)), ((138, 139), (138, 139)), ((140, 141), (140, 141)), ((142, 143), (142, 143)), ((144, 145), (144, 145)), ((146, 147), (148, 149))]
def rx_xQE : QuE := [(((.vf 146), (.vf 147)), ((.vf 148), (.vf 149)))]
theorem rx_xa : trisOK rN0 [] rx_xT = true := by kernel_rfl
theorem rx_xb : tssOK rN0 rx_xT rx_xTS = true := by kernel_rfl
theorem rx_xn : numsOK rN0 rx_xN = true := by kernel_rfl
theorem rx_xc : quasOK rN0 [] rx_xQ = true := by kernel_rfl
theorem rx_xd : qesOK rN0 rx_xQ rx_xQE = true := by kernel_rfl
theorem rx_x : lawRunS 10 10 200 [.q, .i, .i] [] ([]) rN0 rx_xTS rx_xN rx_xQE rx_xms = true := by kernel_rfl
end Go.Proofs.Ytmmpgglbeaofkaa
