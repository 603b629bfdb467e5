/- Readable forms of functions that are reckoned. -/
import Derived.Test.YtdbjakibneeeiaaGreatDoorKG38ExT
import Derived.Test.YtdbjakibneeeiaaGreatDoorKG28ExO
import Derived.Test.YtdbjakibneeeiaaGreatDoorKGreedyAll
set_option linter.all false
set_option maxHeartbeats 4000000
set_option maxRecDepth 100000
namespace Go.Proofs.YtdbjakibneeeiaaGreatDoor.Ex
open Go.RowKit Sx
abbrev Y3:Type:=(Int×(Int×Unit))
abbrev Y8:Type:=(Int×(Int×(Int×(Int×(ByteArray×Unit)))))
abbrev Y0:Type:=(Int×Y8)
abbrev Y1:Type:=(Int×(Int×((List Y0)×Unit)))
abbrev Y4:Type:=((List Y1)×(Int×Unit))
abbrev Y6:Type:=(Int×(Y0×((List Y0)×(Int×Unit))))
abbrev Y7:Type:=(Int×(Int×(Int×(Int×((List Int)×((List Y4)×(Y6×Unit)))))))
abbrev Y9:Type:=(Int×(Y0×(Int×Unit)))
abbrev Y10:Type:=(Bool×(Int×(Y1×((List Y9)×(Y6×Unit)))))
abbrev Y11:Type:=(Y8×(Int×(Int×(Y10×(Y6×(Bool×Unit))))))
abbrev Y14:Type:=(Int×Y3)
abbrev Y16:Type:=(Int×(Int×Y14))
abbrev Y2:Type:=(Int×(Int×(Int×Y16)))
abbrev Y5:Type:=(Y2×((List Int)×(Y3×((List Y4)×Unit))))
abbrev P_4:Type:=Y0
abbrev P_5:Type:=Y2
abbrev P_2:Type:=Y5
abbrev P_6:Type:=Y6
abbrev P_1:Type:=Y7
abbrev P_3:Type:=Y1
abbrev P_0:Type:=Y4
abbrev T0:Type:=((Bool×Unit)×(Unit×Unit))
abbrev T1:Type:=(Y7×(Y5×Unit))
abbrev T2:Type:=((Unit×(Unit×Unit)) ⊕ Empty)
abbrev T3:Type:=((Y5×Unit)×Unit)
abbrev T4:Type:=(Int×(Int×(Int×(Int×((List Int)×(Int×(Int×(Int×(Int×(Int×(Int×(ByteArray×((List Y0)×(Int×Unit))))))))))))))
abbrev T5:Type:=((Y5×Unit)×((Int×(Int×(Int×(Int×(Int×(Int×(Int×(Int×((List Int)×Y3)))))))))×Unit))
abbrev T6:Type:=((Y5×Unit)×((Y7×Unit)×T3))
abbrev T7:Type:=((List Y4)×Unit)
abbrev T8:Type:=(Y7×(Y5×(Int×Unit)))
abbrev T9:Type:=(((Int×Unit)×(Unit×Unit)) ⊕ ((((List Int)×Unit)×(Unit×Unit)) ⊕ Empty))
abbrev Ta:Type:=((List Int)×(Int×Unit))
abbrev Tb:Type:=((List Int)×Unit)
abbrev Tc:Type:=(Unit×(Unit×Unit))
abbrev Td:Type:=((List Y0)×(Int×Unit))
abbrev Te:Type:=(Unit×((List Y4)×((List Y1)×Unit)))
abbrev Tf:Type:=(Y7×(Int×(Y5×Unit)))
abbrev Tg:Type:=((Unit×(T3×Unit)) ⊕ Empty)
abbrev Th:Type:=(((Y4×Unit)×((Y2×Unit)×Unit))×Unit)
abbrev Ti:Type:=((List Int)×(Int×(Int×Unit)))
abbrev Tj:Type:=((List Int)×(Int×(Value×(Int×Unit))))
abbrev Tk:Type:=(Y3×(Y5×Unit))
abbrev Tl:Type:=(((Y5×Unit)×T3)×Unit)
abbrev Tm:Type:=(((Y7×Unit)×T6)×Unit)
abbrev Tn:Type:=(((Y3×Unit)×T3)×Unit)
abbrev To:Type:=((Y7×Unit)×Unit)
abbrev Tp:Type:=((Int×Unit)×(Unit×Unit))
abbrev Tq:Type:=((Y7×Unit)×(T4×Unit))
abbrev Tr:Type:=(Unit×(Unit×T7))
abbrev Ts:Type:=(((Y1×Unit)×Unit)×Unit)
theorem R_0 (x:(Y0×Unit)):F_V x =
 some ((decide ((((ByteArray.size x.1.2.2.2.2.2.1):Nat):Int)≤(500:Int))),()):=by kernel_rfl
theorem R_1 (x:Td):F_v x =
 xb (xloop (S:=(((List Y0)×Y3)×(Unit×Unit))) (R:=(T0 ⊕ ((Td×(Unit×Unit)) ⊕ Empty))) (fun (s0:(((List Y0)×Y3)×(Unit×Unit)))=>xbr (decide (s0.1.2.2.1<(((List.length s0.1.1):Nat):Int))) (gd (inR s0.1.2.2.1 (List.length s0.1.1)) (gd (decide ((Int.toNat s0.1.2.2.1)<(List.length s0.1.1))) (xb (F_V ((List.getD s0.1.1 (Int.toNat s0.1.2.2.1) ((0:Int),((0:Int),((0:Int),((0:Int),((0:Int),(ByteArray.empty,()))))))),())) (fun (y1:(Bool×Unit))=>xbr (!y1.1) (some (.inr (.inl ((false,()),((),()))))) (gd (inI (s0.1.2.2.1+(1:Int))) (some (.inl ((s0.1.1,(s0.1.2.1,((s0.1.2.2.1+(1:Int)),()))),((),()))))))))) (some (.inr (.inr (.inl ((s0.1.1,(s0.1.2.1,())),((),()))))))) xmany ((x.1,(x.2.1,((0:Int),()))),((),()))) (fun (y2:(T0 ⊕ ((Td×(Unit×Unit)) ⊕ Empty)))=>xs y2 (fun (y3:T0)=>some y3.1) (fun (y4:((Td×(Unit×Unit)) ⊕ Empty))=>xs y4 (fun (y5:(Td×(Unit×Unit)))=>some ((decide ((((List.length y5.1.1):Nat):Int)≤y5.1.2.1)),())) (fun (y6:Empty)=>xe y6))):=by kernel_rfl
theorem R_2 (x:((List Y1)×(Int×Unit))):F_w x =
 xb (xloop (S:=(((List Y1)×Y3)×(Unit×Unit))) (R:=(T0 ⊕ ((Y4×(Unit×Unit)) ⊕ Empty))) (fun (s0:(((List Y1)×Y3)×(Unit×Unit)))=>xbr (decide (s0.1.2.2.1<(((List.length s0.1.1):Nat):Int))) (gd (inR s0.1.2.2.1 (List.length s0.1.1)) (gd (decide ((Int.toNat s0.1.2.2.1)<(List.length s0.1.1))) (xb (F_v ((List.getD s0.1.1 (Int.toNat s0.1.2.2.1) ((0:Int),((0:Int),([],())))).2.2.1,((20:Int),()))) (fun (y1:(Bool×Unit))=>xbr (!y1.1) (some (.inr (.inl ((false,()),((),()))))) (gd (inI (s0.1.2.2.1+(1:Int))) (some (.inl ((s0.1.1,(s0.1.2.1,((s0.1.2.2.1+(1:Int)),()))),((),()))))))))) (some (.inr (.inr (.inl ((s0.1.1,(s0.1.2.1,())),((),()))))))) xmany ((x.1,(x.2.1,((0:Int),()))),((),()))) (fun (y2:(T0 ⊕ ((Y4×(Unit×Unit)) ⊕ Empty)))=>xs y2 (fun (y3:T0)=>some y3.1) (fun (y4:((Y4×(Unit×Unit)) ⊕ Empty))=>xs y4 (fun (y5:(Y4×(Unit×Unit)))=>some ((decide ((((List.length y5.1.1):Nat):Int)≤y5.1.2.1)),())) (fun (y6:Empty)=>xe y6))):=by kernel_rfl
theorem R_3 (x:(Y5×Unit)):F_e x =
 xb (xloop (S:=((Int×Unit)×(T3×Unit))) (R:=(T0 ⊕ Tg)) (fun (s0:((Int×Unit)×(T3×Unit)))=>xbr (decide (s0.1.1<(((List.length s0.2.1.1.1.2.2.2.1):Nat):Int))) (gd (inR s0.1.1 (List.length s0.2.1.1.1.2.2.2.1)) (gd (decide ((Int.toNat s0.1.1)<(List.length s0.2.1.1.1.2.2.2.1))) (xb (F_w ((List.getD s0.2.1.1.1.2.2.2.1 (Int.toNat s0.1.1) ([],((0:Int),()))).1,((20:Int),()))) (fun (y1:(Bool×Unit))=>xbr (!y1.1) (some (.inr (.inl ((false,()),((),()))))) (gd (inI (s0.1.1+(1:Int))) (some (.inl (((s0.1.1+(1:Int)),()),s0.2)))))))) (some (.inr (.inr (.inl ((),s0.2)))))) xmany (((0:Int),()),((x,()),()))) (fun (y2:(T0 ⊕ Tg))=>xs y2 (fun (y3:T0)=>some y3.1) (fun (y4:Tg)=>xs y4 (fun (y5:(Unit×(T3×Unit)))=>xbr ((decide ((((List.length y5.2.1.1.1.2.2.2.1):Nat):Int)≤(10:Int)))==true) (some ((decide ((((List.length y5.2.1.1.1.2.1):Nat):Int)≤(10:Int))),())) (some (false,()))) (fun (y6:Empty)=>xe y6))):=by kernel_rfl
theorem R_4 (x:(Y7×Unit)):F_W x =
 xbr ((decide ((((List.length x.1.2.2.2.2.1):Nat):Int)≤(20:Int)))==true) (xb (F_e ((((0:Int),((0:Int),((0:Int),((0:Int),((0:Int),((0:Int),((0:Int),((0:Int),())))))))),([],(((0:Int),((0:Int),())),(x.1.2.2.2.2.2.1,())))),())) (fun (y0:(Bool×Unit))=>xbr (y0.1==true) (some ((decide ((((List.length x.1.2.2.2.2.2.2.1.2.2.1):Nat):Int)≤(100:Int))),())) (some (false,())))) (some (false,())):=by kernel_rfl
theorem R_5 (x:T7):F_F x =
 xb (xloop (S:=(((List Y4)×(Int×Unit))×(Unit×T7))) (R:=(Tr ⊕ Empty)) (fun (s0:(((List Y4)×(Int×Unit))×(Unit×T7)))=>xbr (decide (s0.1.2.1<(((List.length s0.1.1):Nat):Int))) (gd (inR s0.1.2.1 (List.length s0.1.1)) (gd (decide ((Int.toNat s0.1.2.1)<(List.length s0.1.1))) (gd ((Nat.ble ((List.length s0.2.2.1)+(List.length ((List.getD s0.1.1 (Int.toNat s0.1.2.1) ([],((0:Int),())))::[]))) 9223372036854775807)&&(Nat.ble (((List.length s0.2.2.1)+(List.length ((List.getD s0.1.1 (Int.toNat s0.1.2.1) ([],((0:Int),())))::[])))*(32:Nat)) (140737488355328:Nat))) (gd (inI (s0.1.2.1+(1:Int))) (some (.inl ((s0.1.1,((s0.1.2.1+(1:Int)),())),((),((s0.2.2.1++((List.getD s0.1.1 (Int.toNat s0.1.2.1) ([],((0:Int),())))::[])),()))))))))) (some (.inr (.inl ((),((),s0.2.2)))))) xmany ((x.1,((0:Int),())),((),([],())))) (fun (y1:(Tr ⊕ Empty))=>xs y1 (fun (y2:Tr)=>some y2.2.2) (fun (y3:Empty)=>xe y3)):=by kernel_rfl
theorem R_6 (x:(Y5×Unit)):F_4 x =
 xb (F_F x.1.2.2.2) (fun (y0:T7)=>some ((x.1.1,(x.1.2.1,(x.1.2.2.1,y0))),())):=by kernel_rfl
theorem R_7 (x:(Y7×Unit)):F_6 x =
 xb (F_F (x.1.2.2.2.2.2.1,())) (fun (y0:T7)=>some ((x.1.1,(x.1.2.1,(x.1.2.2.1,(x.1.2.2.2.1,(x.1.2.2.2.2.1,(y0.1,x.1.2.2.2.2.2.2)))))),())):=by kernel_rfl
theorem R_8 (x:T7):F_C x =
 xb (clF x.1) (fun (y0:(List Y4))=>xb (xloop (S:=(Y3×(Unit×T7))) (R:=(Tr ⊕ Empty)) (fun (s1:(Y3×(Unit×T7)))=>xbr (decide (s1.1.2.1<s1.1.1)) (gd (inR s1.1.2.1 (List.length s1.2.2.1)) (gd (decide ((Int.toNat s1.1.2.1)<(List.length s1.2.2.1))) (xb (clF (List.getD s1.2.2.1 (Int.toNat s1.1.2.1) ([],((0:Int),()))).1) (fun (y2:(List Y1))=>xb (xloop (S:=(Y16×Te)) (R:=((Y14×Te) ⊕ Empty)) (fun (s3:(Y16×Te))=>xbr (decide (s3.1.2.2.2.2.1<s3.1.2.2.2.1)) (gd (inR s3.1.2.2.2.2.1 (List.length s3.2.2.2.1)) (gd (decide ((Int.toNat s3.1.2.2.2.2.1)<(List.length s3.2.2.2.1))) (xb (clF (List.getD s3.2.2.2.1 (Int.toNat s3.1.2.2.2.2.1) ((0:Int),((0:Int),([],())))).2.2.1) (fun (y4:(List Y0))=>gd (inR s3.1.2.2.2.2.1 (List.length s3.2.2.2.1)) (gd (decide ((Int.toNat s3.1.2.2.2.2.1)<(List.length s3.2.2.2.1))) (gd (inI (s3.1.2.2.2.2.1+(1:Int))) (some (.inl ((s3.1.1,(s3.1.2.1,(s3.1.2.2.1,(s3.1.2.2.2.1,((s3.1.2.2.2.2.1+(1:Int)),()))))),((),(s3.2.2.1,((List.set s3.2.2.2.1 (Int.toNat s3.1.2.2.2.2.1) ((List.getD s3.2.2.2.1 (Int.toNat s3.1.2.2.2.2.1) ((0:Int),((0:Int),([],())))).1,((List.getD s3.2.2.2.1 (Int.toNat s3.1.2.2.2.2.1) ((0:Int),((0:Int),([],())))).2.1,(y4,())))),())))))))))))) (some (.inr (.inl ((s3.1.1,(s3.1.2.1,(s3.1.2.2.1,()))),((),s3.2.2)))))) xmany ((s1.1.2.1,(s1.1.1,(s1.1.2.1,((((List.length y2):Nat):Int),((0:Int),()))))),((),(s1.2.2.1,(y2,()))))) (fun (y5:((Y14×Te) ⊕ Empty))=>xs y5 (fun (y6:(Y14×Te))=>gd (inR y6.1.1 (List.length y6.2.2.1)) (gd (decide ((Int.toNat y6.1.1)<(List.length y6.2.2.1))) (gd (inI (y6.1.2.2.1+(1:Int))) (some (.inl ((y6.1.2.1,((y6.1.2.2.1+(1:Int)),())),((),((List.set y6.2.2.1 (Int.toNat y6.1.1) (y6.2.2.2.1,(List.getD y6.2.2.1 (Int.toNat y6.1.1) ([],((0:Int),()))).2)),())))))))) (fun (y7:Empty)=>xe y7)))))) (some (.inr (.inl ((),((),s1.2.2)))))) xmany (((((List.length y0):Nat):Int),((0:Int),())),((),(y0,())))) (fun (y8:(Tr ⊕ Empty))=>xs y8 (fun (y9:Tr)=>some y9.2.2) (fun (y10:Empty)=>xe y10))):=by kernel_rfl
theorem R_9 (x:(Y7×Unit)):F_D x =
 xb (clF x.1.2.2.2.2.1) (fun (y0:(List Int))=>xb (F_C (x.1.2.2.2.2.2.1,())) (fun (y1:T7)=>xb (clF x.1.2.2.2.2.2.2.1.2.2.1) (fun (y2:(List Y0))=>some ((x.1.1,(x.1.2.1,(x.1.2.2.1,(x.1.2.2.2.1,(y0,(y1.1,((x.1.2.2.2.2.2.2.1.1,(x.1.2.2.2.2.2.2.1.2.1,(y2,x.1.2.2.2.2.2.2.1.2.2.2))),()))))))),())))):=by kernel_rfl
theorem R_a (x:(Y5×Unit)):F_E x =
 xb (clF x.1.2.1) (fun (y0:(List Int))=>xb (F_C x.1.2.2.2) (fun (y1:T7)=>some ((x.1.1,(y0,(x.1.2.2.1,y1))),()))):=by kernel_rfl
theorem R_b (x:Ta):F_m x =
 xbr ((decide ((0:Int)≤x.2.1))==true) (some ((decide (x.2.1<(((List.length x.1):Nat):Int))),())) (some (false,())):=by kernel_rfl
theorem R_c (x:Ta):F_f x =
 xb (F_m x) (fun (y0:(Bool×Unit))=>xbr (y0.1==true) (gd (inR x.2.1 (List.length x.1)) (gd (decide ((Int.toNat x.2.1)<(List.length x.1))) (some (((List.getD x.1 (Int.toNat x.2.1) (0:Int))==(0:Int)),())))) (some (false,()))):=by kernel_rfl
theorem R_d (x:(Int×Unit)):F_n x =
 some ((decide (x.1≥(1:Int))),()):=by kernel_rfl
theorem R_e (x:Ti):F_o x =
 xb (F_n x.2.2) (fun (y0:(Bool×Unit))=>xbr (y0.1==true) (gd (inR x.2.1 (List.length x.1)) (gd (decide ((Int.toNat x.2.1)<(List.length x.1))) (some (((List.getD x.1 (Int.toNat x.2.1) (0:Int))==x.2.2.1),())))) (some (false,()))):=by kernel_rfl
theorem R_f (x:Ti):F_01 x =
 xb (F_o x) (fun (y0:(Bool×Unit))=>some ((!y0.1),())):=by kernel_rfl
theorem R_g (x:Ti):F_B x =
 xb (clF x.1) (fun (y0:(List Int))=>gd (inR x.2.1 (List.length y0)) (gd (decide ((Int.toNat x.2.1)<(List.length y0))) (some ((List.set y0 (Int.toNat x.2.1) x.2.2.1),())))):=by kernel_rfl
theorem R_h (x:Ti):F_03 x =
 xb (F_m (x.1,(x.2.1,()))) (fun (y0:(Bool×Unit))=>xbr ((!y0.1)==false) (xb (F_n x.2.2) (fun (y1:(Bool×Unit))=>xbr (!y1.1) (xb (clF x.1) (fun (y2:(List Int))=>some (y2,((1:Int),())))) (xb (F_f (x.1,(x.2.1,()))) (fun (y3:(Bool×Unit))=>xbr (!y3.1) (xb (clF x.1) (fun (y4:(List Int))=>some (y4,((6:Int),())))) (xb (F_B x) (fun (y5:Tb)=>some (y5.1,((0:Int),())))))))) (xb (clF x.1) (fun (y6:(List Int))=>some (y6,((1:Int),()))))):=by kernel_rfl
theorem R_i (x:Ti):F_04 x =
 xb (F_m (x.1,(x.2.1,()))) (fun (y0:(Bool×Unit))=>xbr ((!y0.1)==false) (xb (F_n x.2.2) (fun (y1:(Bool×Unit))=>xbr (!y1.1) (xb (clF x.1) (fun (y2:(List Int))=>some (y2,((1:Int),())))) (xb (F_o x) (fun (y3:(Bool×Unit))=>xbr (!y3.1) (xb (clF x.1) (fun (y4:(List Int))=>some (y4,((7:Int),())))) (xb (F_B (x.1,(x.2.1,((0:Int),())))) (fun (y5:Tb)=>some (y5.1,((0:Int),())))))))) (xb (clF x.1) (fun (y6:(List Int))=>some (y6,((1:Int),()))))):=by kernel_rfl
theorem R_j (x:(Y5×Unit)):F_A x =
 xb (F_X (x.1.1,())) (fun (y0:(Bool×Unit))=>xbr ((!y0.1)==false) (xbr (((((List.length x.1.2.1):Nat):Int) != x.1.1.1)==false) (xbr ((((List.length x.1.2.2.2.1):Nat):Int) != x.1.1.1) (some (false,())) (xb (xloop (S:=(Y3×(T3×Unit))) (R:=(T0 ⊕ Tg)) (fun (s1:(Y3×(T3×Unit)))=>xbr (decide (s1.1.2.1<s1.1.1)) (gd (inR s1.1.2.1 (List.length s1.2.1.1.1.2.1)) (gd (decide ((Int.toNat s1.1.2.1)<(List.length s1.2.1.1.1.2.1))) (xbr ((decide ((List.getD s1.2.1.1.1.2.1 (Int.toNat s1.1.2.1) (0:Int))<(0:Int)))==false) (gd (inR s1.1.2.1 (List.length s1.2.1.1.1.2.2.2.1)) (gd (decide ((Int.toNat s1.1.2.1)<(List.length s1.2.1.1.1.2.2.2.1))) (xb (F_z ((List.getD s1.2.1.1.1.2.2.2.1 (Int.toNat s1.1.2.1) ([],((0:Int),()))),(s1.1.2.1,(s1.2.1.1.1.1,())))) (fun (y2:(Bool×Unit))=>xbr (!y2.1) (some (.inr (.inl ((false,()),((),()))))) (gd (inI (s1.1.2.1+(1:Int))) (some (.inl ((s1.1.1,((s1.1.2.1+(1:Int)),())),s1.2)))))))) (some (.inr (.inl ((false,()),((),())))))))) (some (.inr (.inr (.inl ((),s1.2)))))) xmany ((x.1.1.1,((0:Int),())),((x,()),()))) (fun (y3:(T0 ⊕ Tg))=>xs y3 (fun (y4:T0)=>some y4.1) (fun (y5:Tg)=>xs y5 (fun (y6:(Unit×(T3×Unit)))=>xbr ((y6.2.1.1.1.2.2.1.2.1==y6.2.1.1.1.1.2.2.1)==true) (xbr ((decide ((0:Int)≤y6.2.1.1.1.2.2.1.1))==true) (some ((decide (y6.2.1.1.1.2.2.1.1≤y6.2.1.1.1.1.2.2.1)),())) (some (false,()))) (some (false,()))) (fun (y7:Empty)=>xe y7))))) (some (false,()))) (some (false,()))):=by kernel_rfl
theorem R_k (x:(Y4×(Int×(Y2×Unit)))):F_z x =
 xbr ((decide (x.1.2.1<(0:Int)))==false) (xbr (decide (x.1.2.1>(1099511627776:Int))) (some (false,())) (xb (xloop (S:=((Int×((List Y1)×Y3))×Th)) (R:=(T0 ⊕ T2)) (fun (s0:((Int×((List Y1)×Y3))×Th))=>xbr (decide (s0.1.2.2.2.1<s0.1.2.2.1)) (gd (inR s0.1.2.2.2.1 (List.length s0.1.2.1)) (gd (decide ((Int.toNat s0.1.2.2.2.1)<(List.length s0.1.2.1))) (xbr ((decide (s0.1.2.2.2.1>(0:Int)))==true) (gd (inI (s0.1.2.2.2.1 - (1:Int))) (gd (inR (s0.1.2.2.2.1 - (1:Int)) (List.length s0.2.1.1.1.1)) (gd (decide ((Int.toNat (s0.1.2.2.2.1 - (1:Int)))<(List.length s0.2.1.1.1.1))) (xbr (decide ((List.getD s0.1.2.1 (Int.toNat s0.1.2.2.2.1) ((0:Int),((0:Int),([],())))).1≤(List.getD s0.2.1.1.1.1 (Int.toNat (s0.1.2.2.2.1 - (1:Int))) ((0:Int),((0:Int),([],())))).1)) (some (.inr (.inl ((false,()),((),()))))) (xb (F_l ((List.getD s0.1.2.1 (Int.toNat s0.1.2.2.2.1) ((0:Int),((0:Int),([],())))),(s0.2.1.2.1.1.2.2.2.1,()))) (fun (y1:(Bool×Unit))=>xbr ((!y1.1)==false) (xb (F_y ((List.getD s0.1.2.1 (Int.toNat s0.1.2.2.2.1) ((0:Int),((0:Int),([],())))),())) (fun (y2:(Bool×Unit))=>xbr (y2.1==false) (xb (F_s ((List.getD s0.1.2.1 (Int.toNat s0.1.2.2.2.1) ((0:Int),((0:Int),([],())))).1,(s0.2.1.2.1.1.1,()))) (fun (y3:(Int×Unit))=>xbr (y3.1 != s0.1.1) (some (.inr (.inl ((false,()),((),()))))) (gd (inI (s0.1.2.2.2.1+(1:Int))) (some (.inl ((s0.1.1,(s0.1.2.1,(s0.1.2.2.1,((s0.1.2.2.2.1+(1:Int)),())))),s0.2)))))) (some (.inr (.inl ((false,()),((),()))))))) (some (.inr (.inl ((false,()),((),()))))))))))) (xb (F_l ((List.getD s0.1.2.1 (Int.toNat s0.1.2.2.2.1) ((0:Int),((0:Int),([],())))),(s0.2.1.2.1.1.2.2.2.1,()))) (fun (y4:(Bool×Unit))=>xbr ((!y4.1)==false) (xb (F_y ((List.getD s0.1.2.1 (Int.toNat s0.1.2.2.2.1) ((0:Int),((0:Int),([],())))),())) (fun (y5:(Bool×Unit))=>xbr (y5.1==false) (xb (F_s ((List.getD s0.1.2.1 (Int.toNat s0.1.2.2.2.1) ((0:Int),((0:Int),([],())))).1,(s0.2.1.2.1.1.1,()))) (fun (y6:(Int×Unit))=>xbr (y6.1 != s0.1.1) (some (.inr (.inl ((false,()),((),()))))) (gd (inI (s0.1.2.2.2.1+(1:Int))) (some (.inl ((s0.1.1,(s0.1.2.1,(s0.1.2.2.1,((s0.1.2.2.2.1+(1:Int)),())))),s0.2)))))) (some (.inr (.inl ((false,()),((),()))))))) (some (.inr (.inl ((false,()),((),())))))))))) (some (.inr (.inr (.inl ((),((),()))))))) xmany ((x.2.1,(x.1.1,((((List.length x.1.1):Nat):Int),((0:Int),())))),(((x.1,()),(x.2.2,())),()))) (fun (y7:(T0 ⊕ T2))=>xs y7 (fun (y8:T0)=>some y8.1) (fun (y9:T2)=>xs y9 (fun (y10:Tc)=>some (true,())) (fun (y11:Empty)=>xe y11))))) (some (false,())):=by kernel_rfl
theorem R_l (x:(Y1×Unit)):F_y x =
 xbr ((decide (x.1.2.1≤(0:Int)))==true) (some (((((List.length x.1.2.2.1):Nat):Int)==(0:Int)),())) (some (false,())):=by kernel_rfl
theorem R_m (x:(Y1×(Int×Unit))):F_l x =
 xb (F_k (x.1.1,((0:Int),((255:Int),())))) (fun (y0:(Bool×Unit))=>xbr ((!y0.1)==false) (xb (F_k (x.1.2.1,((0:Int),((4294967295:Int),())))) (fun (y1:(Bool×Unit))=>xbr ((!y1.1)==false) (xb (F_k (x.2.1,((1:Int),((16:Int),())))) (fun (y2:(Bool×Unit))=>xbr (!y2.1) (some (false,())) (xbr ((decide ((((List.length x.1.2.2.1):Nat):Int)≤x.2.1))==true) (xb (F_Y (x.1,())) (fun (y3:(Bool×Unit))=>some y3)) (some (false,()))))) (some (false,())))) (some (false,()))):=by kernel_rfl
theorem R_n (x:(Int×(Int×(Int×Unit)))):F_k x =
 xbr ((decide (x.2.1≤x.1))==true) (some ((decide (x.1≤x.2.2.1)),())) (some (false,())):=by kernel_rfl
theorem R_o (x:(Y1×Unit)):F_Y x =
 xb (xloop (S:=((Int×((List Y0)×Y3))×Ts)) (R:=(T0 ⊕ T2)) (fun (s0:((Int×((List Y0)×Y3))×Ts))=>xbr (decide (s0.1.2.2.2.1<s0.1.2.2.1)) (gd (inR s0.1.2.2.2.1 (List.length s0.1.2.1)) (gd (decide ((Int.toNat s0.1.2.2.2.1)<(List.length s0.1.2.1))) (xb (F_U ((List.getD s0.1.2.1 (Int.toNat s0.1.2.2.2.1) ((0:Int),((0:Int),((0:Int),((0:Int),((0:Int),(ByteArray.empty,()))))))),())) (fun (y1:(Bool×Unit))=>xbr ((!y1.1)==false) (xbr (((List.getD s0.1.2.1 (Int.toNat s0.1.2.2.2.1) ((0:Int),((0:Int),((0:Int),((0:Int),((0:Int),(ByteArray.empty,()))))))).1 != s0.2.1.1.1.1)==false) (xbr (decide ((List.getD s0.1.2.1 (Int.toNat s0.1.2.2.2.1) ((0:Int),((0:Int),((0:Int),((0:Int),((0:Int),(ByteArray.empty,()))))))).2.1<s0.1.1)) (some (.inr (.inl ((false,()),((),()))))) (gd (inI ((List.getD s0.1.2.1 (Int.toNat s0.1.2.2.2.1) ((0:Int),((0:Int),((0:Int),((0:Int),((0:Int),(ByteArray.empty,()))))))).2.1+(1:Int))) (gd (inI (s0.1.2.2.2.1+(1:Int))) (some (.inl ((((List.getD s0.1.2.1 (Int.toNat s0.1.2.2.2.1) ((0:Int),((0:Int),((0:Int),((0:Int),((0:Int),(ByteArray.empty,()))))))).2.1+(1:Int)),(s0.1.2.1,(s0.1.2.2.1,((s0.1.2.2.2.1+(1:Int)),())))),s0.2)))))) (some (.inr (.inl ((false,()),((),())))))) (some (.inr (.inl ((false,()),((),()))))))))) (some (.inr (.inr (.inl ((),((),()))))))) xmany ((x.1.2.1,(x.1.2.2.1,((((List.length x.1.2.2.1):Nat):Int),((0:Int),())))),((x,()),()))) (fun (y2:(T0 ⊕ T2))=>xs y2 (fun (y3:T0)=>some y3.1) (fun (y4:T2)=>xs y4 (fun (y5:Tc)=>some (true,())) (fun (y6:Empty)=>xe y6))):=by kernel_rfl
theorem R_p (x:(Y2×Unit)):F_X x =
 xb (F_7 (x.1.1,((1:Int),((8:Int),())))) (fun (y0:(Bool×Unit))=>xbr (y0.1==true) (xb (F_7 (x.1.2.2.1,((1:Int),((1000:Int),())))) (fun (y1:(Bool×Unit))=>xbr (y1.1==true) (xb (F_7 (x.1.2.1,((0:Int),(x.1.2.2.1,())))) (fun (y2:(Bool×Unit))=>xbr (y2.1==true) (xb (F_7 (x.1.2.2.2.1,((1:Int),((16:Int),())))) (fun (y3:(Bool×Unit))=>xbr (y3.1==true) (xb (F_7 (x.1.2.2.2.2.1,((0:Int),((100:Int),())))) (fun (y4:(Bool×Unit))=>xbr (y4.1==true) (xb (F_7 (x.1.2.2.2.2.2.1,((1:Int),((16:Int),())))) (fun (y5:(Bool×Unit))=>xbr (y5.1==true) (xb (F_7 (x.1.2.2.2.2.2.2.1,((1:Int),((4:Int),())))) (fun (y6:(Bool×Unit))=>xbr (y6.1==true) (xb (F_7 (x.1.2.2.2.2.2.2.2.1,((1:Int),((8:Int),())))) (fun (y7:(Bool×Unit))=>some y7)) (some (false,())))) (some (false,())))) (some (false,())))) (some (false,())))) (some (false,())))) (some (false,())))) (some (false,()))):=by kernel_rfl
theorem R_q (x:(Int×(Int×(Int×Unit)))):F_7 x =
 xbr ((decide (x.2.1≤x.1))==true) (some ((decide (x.1≤x.2.2.1)),())) (some (false,())):=by kernel_rfl
theorem R_r (x:Ta):F_Z x =
 xb (xloop (S:=(((List Int)×Y14)×(Unit×Unit))) (R:=(Tp ⊕ T2)) (fun (s0:(((List Int)×Y14)×(Unit×Unit)))=>xbr (decide (s0.1.2.2.2.1<s0.1.2.2.1)) (gd (inR s0.1.2.2.2.1 (List.length s0.1.1)) (gd (decide ((Int.toNat s0.1.2.2.2.1)<(List.length s0.1.1))) (xbr (s0.1.2.1==(List.getD s0.1.1 (Int.toNat s0.1.2.2.2.1) (0:Int))) (some (.inr (.inl (s0.1.2.2.2,((),()))))) (gd (inI (s0.1.2.2.2.1+(1:Int))) (some (.inl ((s0.1.1,(s0.1.2.1,(s0.1.2.2.1,((s0.1.2.2.2.1+(1:Int)),())))),((),())))))))) (some (.inr (.inr (.inl ((),((),()))))))) xmany ((x.1,(x.2.1,((((List.length x.1):Nat):Int),((0:Int),())))),((),()))) (fun (y1:(Tp ⊕ T2))=>xs y1 (fun (y2:Tp)=>some y2.1) (fun (y3:T2)=>xs y3 (fun (y4:Tc)=>some ((-1:Int),())) (fun (y5:Empty)=>xe y5))):=by kernel_rfl
theorem R_s (x:Ta):F_00 x =
 xb (F_Z x) (fun (y0:(Int×Unit))=>some ((decide (y0.1≥(0:Int))),())):=by kernel_rfl
theorem R_t (x:Ta):F_02 x =
 xb (F_d (x.1,((0:Int),(x.2.1,((Value.func (.func 95) #[] #[]),()))))) (fun (y0:(Int×Unit))=>xb (xloop (S:=(((List Int)×Y3)×(Unit×Tb))) (R:=((Unit×(Unit×Tb)) ⊕ Empty)) (fun (s1:(((List Int)×Y3)×(Unit×Tb)))=>xbr (decide (s1.1.2.2.1<(((List.length s1.1.1):Nat):Int))) (gd ((Nat.ble ((List.length s1.2.2.1)+(List.length (s1.1.2.2.1::[]))) 9223372036854775807)&&(Nat.ble (((List.length s1.2.2.1)+(List.length (s1.1.2.2.1::[])))*(8:Nat)) (140737488355328:Nat))) (gd (inI (s1.1.2.2.1+(1:Int))) (xb (F_d (s1.1.1,((s1.1.2.2.1+(1:Int)),(s1.1.2.1,((Value.func (.func 95) #[] #[]),()))))) (fun (y2:(Int×Unit))=>some (.inl ((s1.1.1,(s1.1.2.1,y2)),((),((s1.2.2.1++(s1.1.2.2.1::[])),())))))))) (some (.inr (.inl ((),((),s1.2.2)))))) xmany ((x.1,(x.2.1,y0)),((),([],())))) (fun (y3:((Unit×(Unit×Tb)) ⊕ Empty))=>xs y3 (fun (y4:(Unit×(Unit×Tb)))=>some y4.2.2) (fun (y5:Empty)=>xe y5))):=by kernel_rfl
theorem R_u (x:Ta):F_05 x =
 xb (F_d (x.1,((0:Int),(x.2.1,((Value.func (.func 93) #[] #[]),()))))) (fun (y0:(Int×Unit))=>some y0):=by kernel_rfl
theorem R_v (x:Tf):F_9 x =
 xbr ((decide (x.2.1<(1:Int)))==false) (xb (F_A x.2.2) (fun (y0:(Bool×Unit))=>xbr (!y0.1) (some (false,())) (xbr (x.1.2.1==(0:Int)) (xbr ((decide ((0:Int)≤x.1.2.2.1))==true) (some ((decide (x.1.2.2.1<(((List.length x.2.2.1.2.2.2.1):Nat):Int))),())) (some (false,()))) (xbr (x.1.2.1==(1:Int)) (xbr ((decide ((0:Int)≤x.1.2.2.1))==true) (some ((decide (x.1.2.2.1<(((List.length x.2.2.1.2.2.2.1):Nat):Int))),())) (some (false,()))) (xbr (x.1.2.1==(2:Int)) (xbr ((decide ((0:Int)≤x.1.2.2.1))==true) (some ((decide (x.1.2.2.1<(((List.length x.2.2.1.2.2.2.1):Nat):Int))),())) (some (false,()))) (xbr (x.1.2.1==(3:Int)) (xb (F_f (x.2.2.1.2.1,(x.1.2.2.1,()))) (fun (y1:(Bool×Unit))=>some y1)) (xbr (x.1.2.1==(4:Int)) (xb (F_05 (x.2.2.1.2.1,(x.2.1,()))) (fun (y2:(Int×Unit))=>some ((y2.1==(((List.length x.2.2.1.2.1):Nat):Int)),()))) (xbr (x.1.2.1==(5:Int)) (xb (F_02 (x.2.2.1.2.1,(x.2.1,()))) (fun (y3:Tb)=>xb (F_00 (y3.1,(x.1.2.2.1,()))) (fun (y4:(Bool×Unit))=>some y4))) (some (false,())))))))))) (some (false,())):=by kernel_rfl
theorem R_w (x:(Int×Unit)):F_3 x =
 some ((x.1,((0:Int),((0:Int),((0:Int),([],([],(((0:Int),(((0:Int),((0:Int),((0:Int),((0:Int),((0:Int),(ByteArray.empty,())))))),([],((0:Int),())))),()))))))),()):=by kernel_rfl
theorem R_x (x:T1):F_8 x =
 gd (inI (x.1.2.2.1+(1:Int))) (xbr ((x.1.2.2.1+(1:Int))==x.2.1.1.1) (gd (inI (x.1.2.1+(1:Int))) (some ((x.1.1,((x.1.2.1+(1:Int)),((0:Int),x.1.2.2.2))),()))) (some ((x.1.1,(x.1.2.1,((x.1.2.2.1+(1:Int)),x.1.2.2.2))),()))):=by kernel_rfl
theorem R_y (x:(Y7×Unit)):F_i x =
 xbr (decide ((IntKind.wrap IntKind.i64 (x.1.2.2.2.1+(1:Int)))≥(2:Int))) (some ((x.1.1,((3:Int),((0:Int),((IntKind.wrap IntKind.i64 (x.1.2.2.2.1+(1:Int))),([],([],x.1.2.2.2.2.2.2)))))),())) (some ((x.1.1,((0:Int),((0:Int),((IntKind.wrap IntKind.i64 (x.1.2.2.2.1+(1:Int))),([],([],x.1.2.2.2.2.2.2)))))),())):=by kernel_rfl
theorem R_z (x:Tf):F_O x =
 xb (F_f (x.2.2.1.2.1,(x.1.2.2.1,()))) (fun (y0:(Bool×Unit))=>xbr (!y0.1) (xb (F_i (x.1,())) (fun (y1:(Y7×Unit))=>some (y1.1,(x.2.2.1,((0:Int),()))))) (xb (gd (inR x.1.2.2.1 (List.length x.2.2.1.2.2.2.1)) (gd (decide ((Int.toNat x.1.2.2.1)<(List.length x.2.2.1.2.2.2.1))) (@both ((DenL []×(DenLL [[.int,.int,.int,.int,(.row z4),.int,.int,.int,.int,.int,.int,.str,(.row z0),.int],[z5],[z7],[z5]]×DenL [(.row .int)]))) inferInstance (xb (clF x.1.2.2.2.2.1) (fun (y2:(List Int))=>gd ((Nat.ble ((List.length y2)+(List.length ((List.getD x.2.2.1.2.2.2.1 (Int.toNat x.1.2.2.1) ([],((0:Int),()))).2.1::[]))) 9223372036854775807)&&(Nat.ble (((List.length y2)+(List.length ((List.getD x.2.2.1.2.2.2.1 (Int.toNat x.1.2.2.1) ([],((0:Int),()))).2.1::[])))*(8:Nat)) (140737488355328:Nat))) (some ((),(((x.1.1,(x.1.2.1,(x.1.2.2.1,(x.1.2.2.2.1,(x.1.2.2.2.2.2.1,(x.1.2.2.2.2.2.2.1.1,(x.1.2.2.2.2.2.2.1.2.1.1,(x.1.2.2.2.2.2.2.1.2.1.2.1,(x.1.2.2.2.2.2.2.1.2.1.2.2.1,(x.1.2.2.2.2.2.2.1.2.1.2.2.2.1,(x.1.2.2.2.2.2.2.1.2.1.2.2.2.2.1,(x.1.2.2.2.2.2.2.1.2.1.2.2.2.2.2.1,x.1.2.2.2.2.2.2.1.2.2)))))))))))),(x.2.2,((((0:Int),((0:Int),((0:Int),((0:Int),([],([],(((0:Int),(((0:Int),((0:Int),((0:Int),((0:Int),((0:Int),(ByteArray.empty,())))))),([],((0:Int),())))),()))))))),()),(((((0:Int),((0:Int),((0:Int),((0:Int),((0:Int),((0:Int),((0:Int),((0:Int),())))))))),([],(((0:Int),((0:Int),())),([],())))),()),())))),((y2++((List.getD x.2.2.1.2.2.2.1 (Int.toNat x.1.2.2.1) ([],((0:Int),()))).2.1::[])),())))))) (xb (clF x.1.2.2.2.2.1) (fun (y3:(List Int))=>gd ((Nat.ble ((List.length y3)+(List.length ((List.getD x.2.2.1.2.2.2.1 (Int.toNat x.1.2.2.1) ([],((0:Int),()))).2.1::[]))) 9223372036854775807)&&(Nat.ble (((List.length y3)+(List.length ((List.getD x.2.2.1.2.2.2.1 (Int.toNat x.1.2.2.1) ([],((0:Int),()))).2.1::[])))*(8:Nat)) (140737488355328:Nat))) (some ((),(((x.1.1,(x.1.2.1,(x.1.2.2.1,(x.1.2.2.2.1,(x.1.2.2.2.2.2.1,(x.1.2.2.2.2.2.2.1.1,(x.1.2.2.2.2.2.2.1.2.1.1,(x.1.2.2.2.2.2.2.1.2.1.2.1,(x.1.2.2.2.2.2.2.1.2.1.2.2.1,(x.1.2.2.2.2.2.2.1.2.1.2.2.2.1,(x.1.2.2.2.2.2.2.1.2.1.2.2.2.2.1,(x.1.2.2.2.2.2.2.1.2.1.2.2.2.2.2.1,x.1.2.2.2.2.2.2.1.2.2)))))))))))),(x.2.2,((((0:Int),((0:Int),((0:Int),((0:Int),([],([],(((0:Int),(((0:Int),((0:Int),((0:Int),((0:Int),((0:Int),(ByteArray.empty,())))))),([],((0:Int),())))),()))))))),()),(((((0:Int),((0:Int),((0:Int),((0:Int),((0:Int),((0:Int),((0:Int),((0:Int),())))))))),([],(((0:Int),((0:Int),())),([],())))),()),())))),((y3++((List.getD x.2.2.1.2.2.2.1 (Int.toNat x.1.2.2.1) ([],((0:Int),()))).2.1::[])),()))))))))) (fun (y4:(Unit×(((Int×(Int×(Int×(Int×((List Y4)×(Int×(Int×(Int×(Int×(Int×(Int×(ByteArray×Td))))))))))))×T6)×Tb)))=>xb (F_8 ((y4.2.1.1.1,(y4.2.1.1.2.1,(y4.2.1.1.2.2.1,(y4.2.1.1.2.2.2.1,(y4.2.2.1,(y4.2.1.1.2.2.2.2.1,((y4.2.1.1.2.2.2.2.2.1,((y4.2.1.1.2.2.2.2.2.2.1,(y4.2.1.1.2.2.2.2.2.2.2.1,(y4.2.1.1.2.2.2.2.2.2.2.2.1,(y4.2.1.1.2.2.2.2.2.2.2.2.2.1,(y4.2.1.1.2.2.2.2.2.2.2.2.2.2.1,(y4.2.1.1.2.2.2.2.2.2.2.2.2.2.2.1,())))))),y4.2.1.1.2.2.2.2.2.2.2.2.2.2.2.2)),()))))))),y4.2.1.2.1)) (fun (y5:(Y7×Unit))=>some (y5.1,(y4.2.1.2.1.1,((0:Int),()))))))):=by kernel_rfl
theorem R_A (x:Tf):F_P x =
 xb (gd (inR x.1.2.2.1 (List.length x.2.2.1.2.2.2.1)) (gd (decide ((Int.toNat x.1.2.2.1)<(List.length x.2.2.1.2.2.2.1))) (@both ((DenL []×(DenLL [[.int,.int,.int,.int,(.row .int),.int,.int,.int,.int,.int,.int,.str,(.row z0),.int],[z5],[z7],[z5]]×DenL [(.row z4)]))) inferInstance (xb (clF x.1.2.2.2.2.2.1) (fun (y0:(List Y4))=>gd ((Nat.ble ((List.length y0)+(List.length ((List.getD x.2.2.1.2.2.2.1 (Int.toNat x.1.2.2.1) ([],((0:Int),())))::[]))) 9223372036854775807)&&(Nat.ble (((List.length y0)+(List.length ((List.getD x.2.2.1.2.2.2.1 (Int.toNat x.1.2.2.1) ([],((0:Int),())))::[])))*(32:Nat)) (140737488355328:Nat))) (some ((),(((x.1.1,(x.1.2.1,(x.1.2.2.1,(x.1.2.2.2.1,(x.1.2.2.2.2.1,(x.1.2.2.2.2.2.2.1.1,(x.1.2.2.2.2.2.2.1.2.1.1,(x.1.2.2.2.2.2.2.1.2.1.2.1,(x.1.2.2.2.2.2.2.1.2.1.2.2.1,(x.1.2.2.2.2.2.2.1.2.1.2.2.2.1,(x.1.2.2.2.2.2.2.1.2.1.2.2.2.2.1,(x.1.2.2.2.2.2.2.1.2.1.2.2.2.2.2.1,x.1.2.2.2.2.2.2.1.2.2)))))))))))),(x.2.2,((((0:Int),((0:Int),((0:Int),((0:Int),([],([],(((0:Int),(((0:Int),((0:Int),((0:Int),((0:Int),((0:Int),(ByteArray.empty,())))))),([],((0:Int),())))),()))))))),()),(((((0:Int),((0:Int),((0:Int),((0:Int),((0:Int),((0:Int),((0:Int),((0:Int),())))))))),([],(((0:Int),((0:Int),())),([],())))),()),())))),((y0++((List.getD x.2.2.1.2.2.2.1 (Int.toNat x.1.2.2.1) ([],((0:Int),())))::[])),())))))) (xb (clF x.1.2.2.2.2.2.1) (fun (y1:(List Y4))=>gd ((Nat.ble ((List.length y1)+(List.length ((List.getD x.2.2.1.2.2.2.1 (Int.toNat x.1.2.2.1) ([],((0:Int),())))::[]))) 9223372036854775807)&&(Nat.ble (((List.length y1)+(List.length ((List.getD x.2.2.1.2.2.2.1 (Int.toNat x.1.2.2.1) ([],((0:Int),())))::[])))*(32:Nat)) (140737488355328:Nat))) (some ((),(((x.1.1,(x.1.2.1,(x.1.2.2.1,(x.1.2.2.2.1,(x.1.2.2.2.2.1,(x.1.2.2.2.2.2.2.1.1,(x.1.2.2.2.2.2.2.1.2.1.1,(x.1.2.2.2.2.2.2.1.2.1.2.1,(x.1.2.2.2.2.2.2.1.2.1.2.2.1,(x.1.2.2.2.2.2.2.1.2.1.2.2.2.1,(x.1.2.2.2.2.2.2.1.2.1.2.2.2.2.1,(x.1.2.2.2.2.2.2.1.2.1.2.2.2.2.2.1,x.1.2.2.2.2.2.2.1.2.2)))))))))))),(x.2.2,((((0:Int),((0:Int),((0:Int),((0:Int),([],([],(((0:Int),(((0:Int),((0:Int),((0:Int),((0:Int),((0:Int),(ByteArray.empty,())))))),([],((0:Int),())))),()))))))),()),(((((0:Int),((0:Int),((0:Int),((0:Int),((0:Int),((0:Int),((0:Int),((0:Int),())))))))),([],(((0:Int),((0:Int),())),([],())))),()),())))),((y1++((List.getD x.2.2.1.2.2.2.1 (Int.toNat x.1.2.2.1) ([],((0:Int),())))::[])),()))))))))) (fun (y2:(Unit×((T4×T6)×T7)))=>xb (F_8 ((y2.2.1.1.1,(y2.2.1.1.2.1,(y2.2.1.1.2.2.1,(y2.2.1.1.2.2.2.1,(y2.2.1.1.2.2.2.2.1,(y2.2.2.1,((y2.2.1.1.2.2.2.2.2.1,((y2.2.1.1.2.2.2.2.2.2.1,(y2.2.1.1.2.2.2.2.2.2.2.1,(y2.2.1.1.2.2.2.2.2.2.2.2.1,(y2.2.1.1.2.2.2.2.2.2.2.2.2.1,(y2.2.1.1.2.2.2.2.2.2.2.2.2.2.1,(y2.2.1.1.2.2.2.2.2.2.2.2.2.2.2.1,())))))),y2.2.1.1.2.2.2.2.2.2.2.2.2.2.2.2)),()))))))),y2.2.1.2.1)) (fun (y3:(Y7×Unit))=>some (y3.1,(y2.2.1.2.1.1,((0:Int),()))))):=by kernel_rfl
theorem R_B (x:T1):F_q x =
 xb (F_f (x.2.1.2.1,(x.1.2.2.1,()))) (fun (y0:(Bool×Unit))=>xbr (y0.1==true) (xbr ((decide (x.1.2.2.1<(((List.length x.1.2.2.2.2.1):Nat):Int)))==true) (gd (inR x.1.2.2.1 (List.length x.1.2.2.2.2.1)) (gd (decide ((Int.toNat x.1.2.2.1)<(List.length x.1.2.2.2.2.1))) (gd (inR x.1.2.2.1 (List.length x.2.1.2.2.2.1)) (gd (decide ((Int.toNat x.1.2.2.1)<(List.length x.2.1.2.2.2.1))) (some (((List.getD x.1.2.2.2.2.1 (Int.toNat x.1.2.2.1) (0:Int))==(List.getD x.2.1.2.2.2.1 (Int.toNat x.1.2.2.1) ([],((0:Int),()))).2.1),())))))) (some (false,()))) (some (false,()))):=by kernel_rfl
theorem R_C (x:(Y7×T7)):F_j x =
 xb (F_u x.2) (fun (y0:((List Y1)×Unit))=>xb (F_t (y0.1,(x.1.1,()))) (fun (y1:((List Y0)×Unit))=>some (((0:Int),(((0:Int),((0:Int),((0:Int),((0:Int),((0:Int),(ByteArray.empty,())))))),(y1.1,((0:Int),())))),()))):=by kernel_rfl
theorem R_D (x:Tf):F_Q x =
 xbr (x.1.2.2.1==(0:Int)) (xb (F_q (x.1,x.2.2)) (fun (y0:(Bool×Unit))=>xbr (!y0.1) (xb (F_i (x.1,())) (fun (y1:(Y7×Unit))=>some (y1.1,(x.2.2.1,((1:Int),()))))) (xb (F_8 (x.1,x.2.2)) (fun (y2:(Y7×Unit))=>xbr (y2.1.2.1 != (2:Int)) (xb (F_j (y2.1,(y2.1.2.2.2.2.2.1,()))) (fun (y3:(Y6×Unit))=>some ((y2.1.1,((6:Int),(y2.1.2.2.1,(y2.1.2.2.2.1,(y2.1.2.2.2.2.1,(y2.1.2.2.2.2.2.1,y3)))))),(x.2.2.1,((1:Int),()))))) (some (y2.1,(x.2.2.1,((1:Int),())))))))) (xb (F_q (x.1,x.2.2)) (fun (y4:(Bool×Unit))=>xbr (!y4.1) (xb (F_i (x.1,())) (fun (y5:(Y7×Unit))=>some (y5.1,(x.2.2.1,((0:Int),()))))) (xb (F_8 (x.1,x.2.2)) (fun (y6:(Y7×Unit))=>xbr (y6.1.2.1 != (2:Int)) (xb (F_j (y6.1,(y6.1.2.2.2.2.2.1,()))) (fun (y7:(Y6×Unit))=>some ((y6.1.1,((6:Int),(y6.1.2.2.1,(y6.1.2.2.2.1,(y6.1.2.2.2.2.1,(y6.1.2.2.2.2.2.1,y7)))))),(x.2.2.1,((0:Int),()))))) (some (y6.1,(x.2.2.1,((0:Int),())))))))):=by kernel_rfl
theorem R_E (x:Tf):F_0a x =
 xb (F_03 (x.2.2.1.2.1,(x.1.2.2.1,(x.2.1,())))) (fun (y0:Ta)=>xb (F_8 (x.1,((x.2.2.1.1,(y0.1,x.2.2.1.2.2)),()))) (fun (y1:(Y7×Unit))=>some (y1.1,((x.2.2.1.1,(y0.1,x.2.2.1.2.2)),((0:Int),()))))):=by kernel_rfl
theorem R_F (x:Tf):F_0b x =
 xb (F_j (x.1,x.2.2.1.2.2.2)) (fun (y0:(Y6×Unit))=>some ((x.1.1,((5:Int),((0:Int),(x.1.2.2.2.1,(x.1.2.2.2.2.1,(x.1.2.2.2.2.2.1,y0)))))),(x.2.2.1,((2:Int),())))):=by kernel_rfl
theorem R_G (x:Tf):F_0c x =
 xb (F_04 (x.2.2.1.2.1,(x.1.2.2.1,(x.2.1,())))) (fun (y0:Ta)=>xb (F_8 (x.1,((x.2.2.1.1,(y0.1,x.2.2.1.2.2)),()))) (fun (y1:(Y7×Unit))=>some (y1.1,((x.2.2.1.1,(y0.1,x.2.2.1.2.2)),((0:Int),()))))):=by kernel_rfl
theorem R_H (x:(Y7×Unit)):F_N x =
 xb (xloop (S:=((Int×Unit)×(((Y7×Unit)×Tq)×T7))) (R:=((Unit×(Tq×T7)) ⊕ Empty)) (fun (s0:((Int×Unit)×(((Y7×Unit)×Tq)×T7)))=>xbr (decide (s0.1.1<(((List.length s0.2.1.1.1.2.2.2.2.2.1):Nat):Int))) (gd (inR s0.1.1 (List.length s0.2.1.1.1.2.2.2.2.2.1)) (gd (decide ((Int.toNat s0.1.1)<(List.length s0.2.1.1.1.2.2.2.2.2.1))) (gd ((Nat.ble ((List.length s0.2.2.1)+(List.length ((List.getD s0.2.1.1.1.2.2.2.2.2.1 (Int.toNat s0.1.1) ([],((0:Int),())))::[]))) 9223372036854775807)&&(Nat.ble (((List.length s0.2.2.1)+(List.length ((List.getD s0.2.1.1.1.2.2.2.2.2.1 (Int.toNat s0.1.1) ([],((0:Int),())))::[])))*(32:Nat)) (140737488355328:Nat))) (gd (inI (s0.1.1+(1:Int))) (some (.inl (((s0.1.1+(1:Int)),()),(s0.2.1,((s0.2.2.1++((List.getD s0.2.1.1.1.2.2.2.2.2.1 (Int.toNat s0.1.1) ([],((0:Int),())))::[])),()))))))))) (some (.inr (.inl ((),(s0.2.1.2,s0.2.2)))))) xmany (((0:Int),()),((x,((((0:Int),((0:Int),((0:Int),((0:Int),([],([],(((0:Int),(((0:Int),((0:Int),((0:Int),((0:Int),((0:Int),(ByteArray.empty,())))))),([],((0:Int),())))),()))))))),()),((x.1.1,(x.1.2.1,(x.1.2.2.1,(x.1.2.2.2.1,(x.1.2.2.2.2.1,(x.1.2.2.2.2.2.2.1.1,(x.1.2.2.2.2.2.2.1.2.1.1,(x.1.2.2.2.2.2.2.1.2.1.2.1,(x.1.2.2.2.2.2.2.1.2.1.2.2.1,(x.1.2.2.2.2.2.2.1.2.1.2.2.2.1,(x.1.2.2.2.2.2.2.1.2.1.2.2.2.2.1,(x.1.2.2.2.2.2.2.1.2.1.2.2.2.2.2.1,x.1.2.2.2.2.2.2.1.2.2)))))))))))),()))),([],())))) (fun (y1:((Unit×(Tq×T7)) ⊕ Empty))=>xs y1 (fun (y2:(Unit×(Tq×T7)))=>some ((y2.2.1.2.1.1,(y2.2.1.2.1.2.1,(y2.2.1.2.1.2.2.1,(y2.2.1.2.1.2.2.2.1,(y2.2.1.2.1.2.2.2.2.1,(y2.2.2.1,((y2.2.1.2.1.2.2.2.2.2.1,((y2.2.1.2.1.2.2.2.2.2.2.1,(y2.2.1.2.1.2.2.2.2.2.2.2.1,(y2.2.1.2.1.2.2.2.2.2.2.2.2.1,(y2.2.1.2.1.2.2.2.2.2.2.2.2.2.1,(y2.2.1.2.1.2.2.2.2.2.2.2.2.2.2.1,(y2.2.1.2.1.2.2.2.2.2.2.2.2.2.2.2.1,())))))),y2.2.1.2.1.2.2.2.2.2.2.2.2.2.2.2.2)),()))))))),())) (fun (y3:Empty)=>xe y3)):=by kernel_rfl
theorem R_I (x:(Y5×Unit)):F_p x =
 xb (xloop (S:=((Int×Unit)×(((Y5×Unit)×T5)×T7))) (R:=((Unit×(T5×T7)) ⊕ Empty)) (fun (s0:((Int×Unit)×(((Y5×Unit)×T5)×T7)))=>xbr (decide (s0.1.1<(((List.length s0.2.1.1.1.2.2.2.1):Nat):Int))) (gd (inR s0.1.1 (List.length s0.2.1.1.1.2.2.2.1)) (gd (decide ((Int.toNat s0.1.1)<(List.length s0.2.1.1.1.2.2.2.1))) (gd ((Nat.ble ((List.length s0.2.2.1)+(List.length ((List.getD s0.2.1.1.1.2.2.2.1 (Int.toNat s0.1.1) ([],((0:Int),())))::[]))) 9223372036854775807)&&(Nat.ble (((List.length s0.2.2.1)+(List.length ((List.getD s0.2.1.1.1.2.2.2.1 (Int.toNat s0.1.1) ([],((0:Int),())))::[])))*(32:Nat)) (140737488355328:Nat))) (gd (inI (s0.1.1+(1:Int))) (some (.inl (((s0.1.1+(1:Int)),()),(s0.2.1,((s0.2.2.1++((List.getD s0.2.1.1.1.2.2.2.1 (Int.toNat s0.1.1) ([],((0:Int),())))::[])),()))))))))) (some (.inr (.inl ((),(s0.2.1.2,s0.2.2)))))) xmany (((0:Int),()),((x,(((((0:Int),((0:Int),((0:Int),((0:Int),((0:Int),((0:Int),((0:Int),((0:Int),())))))))),([],(((0:Int),((0:Int),())),([],())))),()),((x.1.1.1,(x.1.1.2.1,(x.1.1.2.2.1,(x.1.1.2.2.2.1,(x.1.1.2.2.2.2.1,(x.1.1.2.2.2.2.2.1,(x.1.1.2.2.2.2.2.2.1,(x.1.1.2.2.2.2.2.2.2.1,(x.1.2.1,x.1.2.2.1))))))))),()))),([],())))) (fun (y1:((Unit×(T5×T7)) ⊕ Empty))=>xs y1 (fun (y2:(Unit×(T5×T7)))=>some (((y2.2.1.2.1.1,(y2.2.1.2.1.2.1,(y2.2.1.2.1.2.2.1,(y2.2.1.2.1.2.2.2.1,(y2.2.1.2.1.2.2.2.2.1,(y2.2.1.2.1.2.2.2.2.2.1,(y2.2.1.2.1.2.2.2.2.2.2.1,(y2.2.1.2.1.2.2.2.2.2.2.2.1,())))))))),(y2.2.1.2.1.2.2.2.2.2.2.2.2.1,(y2.2.1.2.1.2.2.2.2.2.2.2.2.2,y2.2.2))),())) (fun (y3:Empty)=>xe y3)):=by kernel_rfl
theorem R_J (x:(Y7×(Y7×Unit))):F_09 x =
 xbr ((x.1.1 != x.2.1.1)==false) (xbr ((x.1.2.1 != x.2.1.2.1)==false) (xbr ((x.1.2.2.1 != x.2.1.2.2.1)==false) (xbr ((x.1.2.2.2.1 != x.2.1.2.2.2.1)==false) (xb (F_G (x.1.2.2.2.2.1,(x.2.1.2.2.2.2.1,()))) (fun (y0:(Bool×Unit))=>xbr ((!y0.1)==false) (xbr (((((List.length x.1.2.2.2.2.2.1):Nat):Int) != (((List.length x.2.1.2.2.2.2.2.1):Nat):Int))==false) (xb (F_08 (x.1.2.2.2.2.2.2.1,x.2.1.2.2.2.2.2.2)) (fun (y1:(Bool×Unit))=>xbr (!y1.1) (some (false,())) (xb (xloop (S:=((Int×Unit)×(((Y7×Unit)×To)×Unit))) (R:=(T0 ⊕ T2)) (fun (s2:((Int×Unit)×(((Y7×Unit)×To)×Unit)))=>xbr (decide (s2.1.1<(((List.length s2.2.1.1.1.2.2.2.2.2.1):Nat):Int))) (gd (inR s2.1.1 (List.length s2.2.1.1.1.2.2.2.2.2.1)) (gd (decide ((Int.toNat s2.1.1)<(List.length s2.2.1.1.1.2.2.2.2.2.1))) (gd (inR s2.1.1 (List.length s2.2.1.2.1.1.2.2.2.2.2.1)) (gd (decide ((Int.toNat s2.1.1)<(List.length s2.2.1.2.1.1.2.2.2.2.2.1))) (xb (F_g ((List.getD s2.2.1.1.1.2.2.2.2.2.1 (Int.toNat s2.1.1) ([],((0:Int),()))),((List.getD s2.2.1.2.1.1.2.2.2.2.2.1 (Int.toNat s2.1.1) ([],((0:Int),()))),()))) (fun (y3:(Bool×Unit))=>xbr (!y3.1) (some (.inr (.inl ((false,()),((),()))))) (gd (inI (s2.1.1+(1:Int))) (some (.inl (((s2.1.1+(1:Int)),()),s2.2)))))))))) (some (.inr (.inr (.inl ((),((),()))))))) xmany (((0:Int),()),(((x.1,()),(x.2,())),()))) (fun (y4:(T0 ⊕ T2))=>xs y4 (fun (y5:T0)=>some y5.1) (fun (y6:T2)=>xs y6 (fun (y7:Tc)=>some (true,())) (fun (y8:Empty)=>xe y8)))))) (some (false,()))) (some (false,())))) (some (false,()))) (some (false,()))) (some (false,()))) (some (false,())):=by kernel_rfl
theorem R_K (x:(Y5×(Y5×Unit))):F_h x =
 xbr ((!((x.1.1.1==x.2.1.1.1)&&((x.1.1.2.1==x.2.1.1.2.1)&&((x.1.1.2.2.1==x.2.1.1.2.2.1)&&((x.1.1.2.2.2.1==x.2.1.1.2.2.2.1)&&((x.1.1.2.2.2.2.1==x.2.1.1.2.2.2.2.1)&&((x.1.1.2.2.2.2.2.1==x.2.1.1.2.2.2.2.2.1)&&((x.1.1.2.2.2.2.2.2.1==x.2.1.1.2.2.2.2.2.2.1)&&((x.1.1.2.2.2.2.2.2.2.1==x.2.1.1.2.2.2.2.2.2.2.1)&&true)))))))))==false) (xbr ((!((x.1.2.2.1.1==x.2.1.2.2.1.1)&&((x.1.2.2.1.2.1==x.2.1.2.2.1.2.1)&&true)))==false) (xb (F_G (x.1.2.1,(x.2.1.2.1,()))) (fun (y0:(Bool×Unit))=>xbr ((!y0.1)==false) (xbr ((((List.length x.1.2.2.2.1):Nat):Int) != (((List.length x.2.1.2.2.2.1):Nat):Int)) (some (false,())) (xb (xloop (S:=((Int×Unit)×Tl)) (R:=(T0 ⊕ T2)) (fun (s1:((Int×Unit)×Tl))=>xbr (decide (s1.1.1<(((List.length s1.2.1.1.1.2.2.2.1):Nat):Int))) (gd (inR s1.1.1 (List.length s1.2.1.1.1.2.2.2.1)) (gd (decide ((Int.toNat s1.1.1)<(List.length s1.2.1.1.1.2.2.2.1))) (gd (inR s1.1.1 (List.length s1.2.1.2.1.1.2.2.2.1)) (gd (decide ((Int.toNat s1.1.1)<(List.length s1.2.1.2.1.1.2.2.2.1))) (xb (F_g ((List.getD s1.2.1.1.1.2.2.2.1 (Int.toNat s1.1.1) ([],((0:Int),()))),((List.getD s1.2.1.2.1.1.2.2.2.1 (Int.toNat s1.1.1) ([],((0:Int),()))),()))) (fun (y2:(Bool×Unit))=>xbr (!y2.1) (some (.inr (.inl ((false,()),((),()))))) (gd (inI (s1.1.1+(1:Int))) (some (.inl (((s1.1.1+(1:Int)),()),s1.2)))))))))) (some (.inr (.inr (.inl ((),((),()))))))) xmany (((0:Int),()),(((x.1,()),(x.2,())),()))) (fun (y3:(T0 ⊕ T2))=>xs y3 (fun (y4:T0)=>some y4.1) (fun (y5:T2)=>xs y5 (fun (y6:Tc)=>some (true,())) (fun (y7:Empty)=>xe y7))))) (some (false,())))) (some (false,()))) (some (false,())):=by kernel_rfl
theorem R_L (x:(Y6×(Y6×Unit))):F_08 x =
 xbr ((x.1.1==x.2.1.1)==true) (xbr (((x.1.2.1.1==x.2.1.2.1.1)&&((x.1.2.1.2.1==x.2.1.2.1.2.1)&&((x.1.2.1.2.2.1==x.2.1.2.1.2.2.1)&&((x.1.2.1.2.2.2.1==x.2.1.2.1.2.2.2.1)&&((x.1.2.1.2.2.2.2.1==x.2.1.2.1.2.2.2.2.1)&&((eqBy x.1.2.1.2.2.2.2.2.1 x.2.1.2.1.2.2.2.2.2.1)&&true))))))==true) (xbr ((x.1.2.2.2.1==x.2.1.2.2.2.1)==true) (xb (F_H (x.1.2.2.1,(x.2.1.2.2.1,()))) (fun (y0:(Bool×Unit))=>some y0)) (some (false,()))) (some (false,()))) (some (false,())):=by kernel_rfl
theorem R_M (x:(Y4×(Y4×Unit))):F_g x =
 xbr ((x.1.2.1==x.2.1.2.1)==true) (xb (F_06 (x.1.1,(x.2.1.1,()))) (fun (y0:(Bool×Unit))=>some y0)) (some (false,())):=by kernel_rfl
theorem R_N (x:((List Y1)×((List Y1)×Unit))):F_06 x =
 xbr ((((List.length x.1):Nat):Int) != (((List.length x.2.1):Nat):Int)) (some (false,())) (xb (xloop (S:=(((List Y1)×Y4)×(Unit×Unit))) (R:=(T0 ⊕ T2)) (fun (s0:(((List Y1)×Y4)×(Unit×Unit)))=>xbr (decide (s0.1.2.2.1<(((List.length s0.1.1):Nat):Int))) (gd (inR s0.1.2.2.1 (List.length s0.1.1)) (gd (decide ((Int.toNat s0.1.2.2.1)<(List.length s0.1.1))) (gd (inR s0.1.2.2.1 (List.length s0.1.2.1)) (gd (decide ((Int.toNat s0.1.2.2.1)<(List.length s0.1.2.1))) (xb (F_I ((List.getD s0.1.1 (Int.toNat s0.1.2.2.1) ((0:Int),((0:Int),([],())))),((List.getD s0.1.2.1 (Int.toNat s0.1.2.2.1) ((0:Int),((0:Int),([],())))),()))) (fun (y1:(Bool×Unit))=>xbr (!y1.1) (some (.inr (.inl ((false,()),((),()))))) (gd (inI (s0.1.2.2.1+(1:Int))) (some (.inl ((s0.1.1,(s0.1.2.1,((s0.1.2.2.1+(1:Int)),()))),((),()))))))))))) (some (.inr (.inr (.inl ((),((),()))))))) xmany ((x.1,(x.2.1,((0:Int),()))),((),()))) (fun (y2:(T0 ⊕ T2))=>xs y2 (fun (y3:T0)=>some y3.1) (fun (y4:T2)=>xs y4 (fun (y5:Tc)=>some (true,())) (fun (y6:Empty)=>xe y6)))):=by kernel_rfl
theorem R_O (x:(Y1×(Y1×Unit))):F_I x =
 xbr ((x.1.1==x.2.1.1)==true) (xbr ((x.1.2.1==x.2.1.2.1)==true) (xb (F_H (x.1.2.2.1,x.2.1.2.2)) (fun (y0:(Bool×Unit))=>some y0)) (some (false,()))) (some (false,())):=by kernel_rfl
theorem R_P (x:((List Y0)×((List Y0)×Unit))):F_H x =
 xbr ((((List.length x.1):Nat):Int) != (((List.length x.2.1):Nat):Int)) (some (false,())) (xb (xloop (S:=(((List Y0)×Td)×(Unit×Unit))) (R:=(T0 ⊕ T2)) (fun (s0:(((List Y0)×Td)×(Unit×Unit)))=>xbr (decide (s0.1.2.2.1<(((List.length s0.1.1):Nat):Int))) (gd (inR s0.1.2.2.1 (List.length s0.1.1)) (gd (decide ((Int.toNat s0.1.2.2.1)<(List.length s0.1.1))) (gd (inR s0.1.2.2.1 (List.length s0.1.2.1)) (gd (decide ((Int.toNat s0.1.2.2.1)<(List.length s0.1.2.1))) (xbr (!(((List.getD s0.1.1 (Int.toNat s0.1.2.2.1) ((0:Int),((0:Int),((0:Int),((0:Int),((0:Int),(ByteArray.empty,()))))))).1==(List.getD s0.1.2.1 (Int.toNat s0.1.2.2.1) ((0:Int),((0:Int),((0:Int),((0:Int),((0:Int),(ByteArray.empty,()))))))).1)&&(((List.getD s0.1.1 (Int.toNat s0.1.2.2.1) ((0:Int),((0:Int),((0:Int),((0:Int),((0:Int),(ByteArray.empty,()))))))).2.1==(List.getD s0.1.2.1 (Int.toNat s0.1.2.2.1) ((0:Int),((0:Int),((0:Int),((0:Int),((0:Int),(ByteArray.empty,()))))))).2.1)&&(((List.getD s0.1.1 (Int.toNat s0.1.2.2.1) ((0:Int),((0:Int),((0:Int),((0:Int),((0:Int),(ByteArray.empty,()))))))).2.2.1==(List.getD s0.1.2.1 (Int.toNat s0.1.2.2.1) ((0:Int),((0:Int),((0:Int),((0:Int),((0:Int),(ByteArray.empty,()))))))).2.2.1)&&(((List.getD s0.1.1 (Int.toNat s0.1.2.2.1) ((0:Int),((0:Int),((0:Int),((0:Int),((0:Int),(ByteArray.empty,()))))))).2.2.2.1==(List.getD s0.1.2.1 (Int.toNat s0.1.2.2.1) ((0:Int),((0:Int),((0:Int),((0:Int),((0:Int),(ByteArray.empty,()))))))).2.2.2.1)&&(((List.getD s0.1.1 (Int.toNat s0.1.2.2.1) ((0:Int),((0:Int),((0:Int),((0:Int),((0:Int),(ByteArray.empty,()))))))).2.2.2.2.1==(List.getD s0.1.2.1 (Int.toNat s0.1.2.2.1) ((0:Int),((0:Int),((0:Int),((0:Int),((0:Int),(ByteArray.empty,()))))))).2.2.2.2.1)&&((eqBy (List.getD s0.1.1 (Int.toNat s0.1.2.2.1) ((0:Int),((0:Int),((0:Int),((0:Int),((0:Int),(ByteArray.empty,()))))))).2.2.2.2.2.1 (List.getD s0.1.2.1 (Int.toNat s0.1.2.2.1) ((0:Int),((0:Int),((0:Int),((0:Int),((0:Int),(ByteArray.empty,()))))))).2.2.2.2.2.1)&&true))))))) (some (.inr (.inl ((false,()),((),()))))) (gd (inI (s0.1.2.2.1+(1:Int))) (some (.inl ((s0.1.1,(s0.1.2.1,((s0.1.2.2.1+(1:Int)),()))),((),())))))))))) (some (.inr (.inr (.inl ((),((),()))))))) xmany ((x.1,(x.2.1,((0:Int),()))),((),()))) (fun (y1:(T0 ⊕ T2))=>xs y1 (fun (y2:T0)=>some y2.1) (fun (y3:T2)=>xs y3 (fun (y4:Tc)=>some (true,())) (fun (y5:Empty)=>xe y5)))):=by kernel_rfl
theorem R_Q (x:((List Int)×Tb)):F_G x =
 xbr ((((List.length x.1):Nat):Int) != (((List.length x.2.1):Nat):Int)) (some (false,())) (xb (xloop (S:=(((List Int)×Ta)×(Unit×Unit))) (R:=(T0 ⊕ T2)) (fun (s0:(((List Int)×Ta)×(Unit×Unit)))=>xbr (decide (s0.1.2.2.1<(((List.length s0.1.1):Nat):Int))) (gd (inR s0.1.2.2.1 (List.length s0.1.1)) (gd (decide ((Int.toNat s0.1.2.2.1)<(List.length s0.1.1))) (gd (inR s0.1.2.2.1 (List.length s0.1.2.1)) (gd (decide ((Int.toNat s0.1.2.2.1)<(List.length s0.1.2.1))) (xbr ((List.getD s0.1.1 (Int.toNat s0.1.2.2.1) (0:Int)) != (List.getD s0.1.2.1 (Int.toNat s0.1.2.2.1) (0:Int))) (some (.inr (.inl ((false,()),((),()))))) (gd (inI (s0.1.2.2.1+(1:Int))) (some (.inl ((s0.1.1,(s0.1.2.1,((s0.1.2.2.1+(1:Int)),()))),((),())))))))))) (some (.inr (.inr (.inl ((),((),()))))))) xmany ((x.1,(x.2.1,((0:Int),()))),((),()))) (fun (y1:(T0 ⊕ T2))=>xs y1 (fun (y2:T0)=>some y2.1) (fun (y3:T2)=>xs y3 (fun (y4:Tc)=>some (true,())) (fun (y5:Empty)=>xe y5)))):=by kernel_rfl
end Go.Proofs.YtdbjakibneeeiaaGreatDoor.Ex
namespace Go.Proofs.YtdbjakibneeeiaaGreatDoor.Ex
open Go.RowKit Sx
theorem Tells.of {R:Type} {Q:R→Prop} {o o':Option R} (h:o=o') (k:Tells o' Q):Tells o Q:=h▸k
theorem not_f {b:Bool} (h:(!b)=false):b=true:=by cases b with | true=>rfl | false=>cases h
theorem getD_lt {A:Type} {L:List A} {d:A} {k:Nat} (h:k<L.length):L.getD k d=L[k]:=by simp [List.getD,List.getElem?_eq_getElem h]
theorem xmany_gt {n:Nat} (h:n≤9223372036854775807):n<xmany:=by unfold xmany;omega
theorem inI_of {x:Int} (h : -9223372036854775808≤x) (k:x≤9223372036854775807):inI x=true:=inI_iff.2 ⟨h,k⟩
theorem inI_nat {k n:Nat} (h:k<n) (hn:n≤9223372036854775807):inI ((k:Int)+1)=true:=inI_of (by omega) (by omega)
theorem inR_of {n:Nat} {k:Nat} (h:k<n):inR (k:Int) n=true:=inR_iff.2 ⟨by omega,by omega⟩
theorem ltN_of {n:Nat} {k:Nat} (h:k<n):decide ((k:Int)<(n:Int))=true:=decide_eq_true (by omega)
theorem ltN_no {n:Nat}:decide ((n:Int)<(n:Int))=false:=decide_eq_false (by omega)
theorem ltT_of {n:Nat} {k:Nat} (h:k<n):decide (Int.toNat (k:Int)<n)=true:=decide_eq_true (by omega)
theorem Tells.idx {S R:Type} {Q:R→Prop} {step:S→Option (S ⊕ R)} (mk:Nat→S) (I:Nat→Prop) (n:Nat) (hn:n≤9223372036854775807) (h0:I 0) (h:∀k,k<n→I k→Tells (step (mk k)) fun x=>match x with | .inl s=>s=mk (k+1)∧I (k+1) | .inr r=>Q r) (he:I n→Tells (step (mk n)) fun x=>match x with | .inl _=>False | .inr r=>Q r) {s:S} (hs:s=mk 0) :
  Tells (xloop step xmany s) Q:=by
 have key:∀j k,k+j=n→I k→∀m,j<m→Tells (xloop step m (mk k)) Q:=by
  intro j
  induction j with
  | zero=>
   intro k hk hI m hm
   obtain rfl:k=n:=by omega
   obtain ⟨x,e,hx⟩:=he hI
   obtain ⟨m,rfl⟩:∃m',m=m'+1:=⟨m - 1,by omega⟩
   cases x with
   | inl s=>exact hx.elim
   | inr r=>exact ⟨r,by rw [xloop_step,e],hx⟩
  | succ j ih=>
   intro k hk hI m hm
   obtain ⟨x,e,hx⟩:=h k (by omega) hI
   obtain ⟨m,rfl⟩:∃m',m=m'+1:=⟨m - 1,by omega⟩
   cases x with
   | inl s=>
    obtain ⟨rfl,hI'⟩:=hx
    obtain ⟨r,e2,hr⟩:=ih (k+1) (by omega) hI' m (by omega)
    exact ⟨r,by rw [xloop_step,e];exact e2,hr⟩
   | inr r=>exact ⟨r,by rw [xloop_step,e],hx⟩
 subst hs
 exact key n 0 (by omega) h0 xmany (xmany_gt hn)
theorem Tells.all {S R A:Type} {step:S→Option (S ⊕ R)} {L:List A} {d:A} (hL:L.length≤9223372036854775807) (mk:Nat→S) (no out:R) (test:A→Option (DenL [.bool])) (P:A→Prop)
  (hstep:∀k,k<L.length→step (mk k)=xb (test (L.getD k d)) fun y=>xbr (!y.1) (some (.inr no)) (some (.inl (mk (k+1))))) (hend:step (mk L.length)=some (.inr out))
  (ht:∀a∈L,Tells (test a) fun y=>y.1=true→P a) {s:S} (hs:s=mk 0):Tells (xloop step xmany s) fun r=>r=no∨(r=out∧∀a∈L,P a):=by
 refine Tells.idx mk (fun k=>∀a∈L.take k,P a) L.length hL (by simp) (fun k hk hI=>?_) (fun hI=>?_) hs
 ·rw [hstep k hk]
  have hm:L.getD k d∈L:=by rw [getD_lt hk];exact List.getElem_mem hk
  obtain ⟨y,e,hy⟩:=ht _ hm
  rw [e]
  obtain ⟨b,u⟩:=y
  cases b with
  | false=>exact ⟨_,rfl,.inl rfl⟩
  | true=>
   refine ⟨_,rfl,rfl,fun a ha=>?_⟩
   rw [List.take_succ_eq_append_getElem hk,List.mem_append] at ha
   rcases ha with ha | ha
   ·exact hI a ha
   ·rw [List.mem_singleton] at ha
    subst ha
    have:=hy rfl
    rwa [getD_lt hk] at this
 ·rw [hend]
  refine ⟨_,rfl,.inr ⟨rfl,fun a ha=>hI a (by simpa using ha)⟩⟩
theorem few04 (L:List P_4) (most:Int) (hL:L.length≤9223372036854775807):Tells (F_v (L,most,())) fun r=>r.1=true→(∀t∈L,ByteArray.size t.2.2.2.2.2.1≤500)∧(L.length:Int)≤most:=by
 refine Tells.of (R_1 (L,most,())) ?_
 refine Tells.xb (Tells.all (L:=L) (d:=((0,0,0,0,0,ByteArray.empty,()):P_4)) hL (fun k=>((L,most,(k:Int),()),(),())) (.inl ((false,()),(),())) (.inr (.inl ((L,most,()),(),()))) (fun t=>F_V (t,())) (fun t=>ByteArray.size t.2.2.2.2.2.1≤500) (fun k hk=>?_) ?_ (fun t ht=>?_) rfl) (fun y hy=>?_)
 ·simp only [ltN_of hk,xbr_true,inR_of hk,gd_true,ltT_of hk,inI_nat hk hL,Int.toNat_natCast,decide_eq_true hk,Int.natCast_add,Int.natCast_one]
  rfl
 ·simp only [ltN_no,xbr_false]
 ·refine Tells.of (R_0 (t,())) ?_
  refine ⟨_,rfl,fun h=>?_⟩
  exact Int.ofNat_le.1 (of_decide_eq_true h)
 ·rcases hy with rfl | ⟨rfl,h⟩
  ·exact ⟨_,rfl,fun h=>by cases h⟩
  ·exact ⟨_,rfl,fun h2=>⟨h,of_decide_eq_true h2⟩⟩
def AcOk (a:P_3):Prop:=List.length a.2.2.1≤20∧∀t:P_4,t∈a.2.2.1→ByteArray.size t.2.2.2.2.2.1≤500
def ShOk (c:P_0):Prop:=List.length c.1≤20∧∀a:P_3,a∈c.1→AcOk a
theorem few11 (L:List P_3) (most:Int) (hL:L.length≤9223372036854775807) (hA:∀a∈L,List.length a.2.2.1≤9223372036854775807):Tells (F_w (L,most,())) fun r=>r.1=true→(∀a∈L,AcOk a)∧(L.length:Int)≤most:=by
 refine Tells.of (R_2 (L,most,())) ?_
 refine Tells.xb (Tells.all (L:=L) (d:=((0,0,[],()):P_3)) hL (fun k=>((L,most,(k:Int),()),(),())) (.inl ((false,()),(),())) (.inr (.inl ((L,most,()),(),()))) (fun a=>F_v (a.2.2.1,(20:Int),())) AcOk (fun k hk=>?_) ?_ (fun a ha=>?_) rfl) (fun y hy=>?_)
 ·simp only [ltN_of hk,xbr_true,inR_of hk,gd_true,ltT_of hk,inI_nat hk hL,Int.toNat_natCast,decide_eq_true hk,Int.natCast_add,Int.natCast_one]
  rfl
 ·simp only [ltN_no,xbr_false]
 ·refine (few04 _ _ (hA a ha)).mono fun r hr h=>?_
  obtain ⟨h1,h2⟩:=hr h
  exact ⟨Int.ofNat_le.1 h2,fun t ht=>h1 t ht⟩
 ·rcases hy with rfl | ⟨rfl,h⟩
  ·exact ⟨_,rfl,fun h=>by cases h⟩
  ·exact ⟨_,rfl,fun h2=>⟨h,of_decide_eq_true h2⟩⟩
def ShsLen (L:List P_0):Prop:=L.length≤9223372036854775807∧∀c∈L,List.length c.1≤9223372036854775807∧∀a:P_3,a∈c.1→List.length a.2.2.1≤9223372036854775807
def SgOk (s:P_2):Prop:=List.length s.2.1≤10∧List.length s.2.2.2.1≤10∧∀c:P_0,c∈s.2.2.2.1→ShOk c
theorem small16 (s:P_2) (hs:ShsLen s.2.2.2.1):Tells (F_e (s,())) fun r=>r.1=true→SgOk s:=by
 refine Tells.of (R_3 (s,())) ?_
 refine Tells.xb (Tells.all (L:=s.2.2.2.1) (d:=(([],0,()):P_0)) hs.1 (fun k=>(((k:Int),()),((s,()),()),())) (.inl ((false,()),(),())) (.inr (.inl ((),((s,()),()),()))) (fun c=>F_w (c.1,(20:Int),())) ShOk (fun k hk=>?_) ?_ (fun c hc=>?_) rfl) (fun y hy=>?_)
 ·simp only [ltN_of hk,xbr_true,inR_of hk,gd_true,ltT_of hk,inI_nat hk hs.1,Int.toNat_natCast,decide_eq_true hk,Int.natCast_add,Int.natCast_one]
  rfl
 ·simp only [ltN_no,xbr_false]
 ·refine (few11 _ _ (hs.2 c hc).1 (hs.2 c hc).2).mono fun r hr h=>?_
  obtain ⟨h1,h2⟩:=hr h
  exact ⟨Int.ofNat_le.1 h2,fun a ha=>h1 a ha⟩
 ·rcases hy with rfl | ⟨rfl,h⟩
  ·exact ⟨_,rfl,fun h=>by cases h⟩
  ·refine Tells.br (fun h1=>?_) (fun _=>⟨_,rfl,fun h=>by cases h⟩)
   refine ⟨_,rfl,fun h2=>⟨Int.ofNat_le.1 (of_decide_eq_true h2),Int.ofNat_le.1 (of_decide_eq_true (by simpa using h1)),h⟩⟩
def TkOk (v:P_1):Prop:=List.length v.2.2.2.2.1≤20∧List.length v.2.2.2.2.2.1≤10∧(∀c:P_0,c∈v.2.2.2.2.2.1→ShOk c)∧List.length v.2.2.2.2.2.2.1.2.2.1≤100
theorem few18 (v:P_1) (hv:ShsLen v.2.2.2.2.2.1):Tells (F_W (v,())) fun r=>r.1=true→TkOk v:=by
 refine Tells.of (R_4 (v,())) ?_
 refine Tells.br (fun h1=>?_) (fun _=>⟨_,rfl,fun h=>by cases h⟩)
 refine Tells.xb (small16 _ hv) (fun y hy=>?_)
 refine Tells.br (fun h2=>?_) (fun _=>⟨_,rfl,fun h=>by cases h⟩)
 obtain ⟨_,h3,h4⟩:=hy ((beq_iff_eq (α:=Bool)).1 h2)
 exact ⟨_,rfl,fun h5=>⟨Int.ofNat_le.1 (of_decide_eq_true (by simpa using h1)),h3,h4,Int.ofNat_le.1 (of_decide_eq_true h5)⟩⟩
end Go.Proofs.YtdbjakibneeeiaaGreatDoor.Ex
namespace Go.Proofs.YtdbjakibneeeiaaGreatDoor.Ex
open Go.RowKit Sx snapw queue
abbrev TkA:List Sh:=[Q_1,.int,Q_0]
abbrev TkR:List Sh:=[Q_1,Q_0,.int]
noncomputable def snapWay (ph:Int) (y:DenL TkA):Option (DenL TkR):=
 bif ph==0 then F_O y else bif ph==1 then F_P y else bif ph==2 then F_Q y else bif ph==3 then F_0a y else bif ph==4 then F_0b y else bif ph==5 then F_0c y else none
noncomputable def snapEnd (v:Den Q_1) (s:Den Q_0) (k:Int):Option (DenL TkR):=xb (F_D (v,())) fun c=>xb (F_E (s,())) fun d=>some (c.1,d.1,k,())
@[irreducible] noncomputable def F_2 (x:DenL TkA):Option (DenL TkR):=
 xb (F_9 x) fun a=>xbr a.1 (xb (snapWay x.1.2.1 x) fun r=>snapEnd r.1 r.2.1 r.2.2.1) (snapEnd x.1 x.2.2.1 0)
noncomputable def s_0:ESm:=⟨TkA,TkR,F_2⟩
theorem xb_some_iff {α R:Type} {m:Option α} {k:α→Option R} {r:R}:xb m k=some r↔∃y,m=some y∧k y=some r:=by
 cases m with
 | none=>exact ⟨fun h=>(by cases h),fun ⟨y,h,_⟩=>(by cases h)⟩
 | some y=>exact ⟨fun h=>⟨y,rfl,h⟩,fun ⟨z,h,k⟩=>by cases h;exact k⟩
theorem pre_of {ps rs:List Sh} {F:DenL ps→Option (DenL rs)} {x:DenL ps} {r:DenL rs} (h:F x=some r):(ESm.toS ⟨ps,rs,F⟩).pre x∧(ESm.toS ⟨ps,rs,F⟩).F x=r:=by
 constructor
 ·show (F x).isSome=true
  rw [h];rfl
 ·show (F x).getD _=r
  rw [h];rfl
theorem tA_fn {f:FuncId} {S:ESm} (h:lk tA.toD.sm f=some S.toS):callable Tryz.prog f=true∧S.toS.Ok Tryz.prog txn.Most f:=tA_ok.ok.sm f _ h
theorem snapWay_cases {ph:Int} {y:DenL TkA} {r:DenL TkR} (h:snapWay ph y=some r):(ph=0∧s_i.F y=some r)∨(ph=1∧s_j.F y=some r)∨(ph=2∧s_k.F y=some r)∨(ph=3∧s_l.F y=some r)∨(ph=4∧s_m.F y=some r)∨(ph=5∧s_n.F y=some r):=by
 unfold snapWay at h
 by_cases h0:ph=0
 ·rw [h0,beq_self_eq_true,cond_true] at h;exact .inl ⟨h0,h⟩
 rw [beq_false_of_ne h0,cond_false] at h
 by_cases h1:ph=1
 ·rw [h1,beq_self_eq_true,cond_true] at h;exact .inr (.inl ⟨h1,h⟩)
 rw [beq_false_of_ne h1,cond_false] at h
 by_cases h2:ph=2
 ·rw [h2,beq_self_eq_true,cond_true] at h;exact .inr (.inr (.inl ⟨h2,h⟩))
 rw [beq_false_of_ne h2,cond_false] at h
 by_cases h3:ph=3
 ·rw [h3,beq_self_eq_true,cond_true] at h;exact .inr (.inr (.inr (.inl ⟨h3,h⟩)))
 rw [beq_false_of_ne h3,cond_false] at h
 by_cases h4:ph=4
 ·rw [h4,beq_self_eq_true,cond_true] at h;exact .inr (.inr (.inr (.inr (.inl ⟨h4,h⟩))))
 rw [beq_false_of_ne h4,cond_false] at h
 by_cases h5:ph=5
 ·rw [h5,beq_self_eq_true,cond_true] at h;exact .inr (.inr (.inr (.inr (.inr ⟨h5,h⟩))))
 rw [beq_false_of_ne h5,cond_false] at h
 cases h
theorem meetWays {W:World} {Q:Ending→World→Prop} {ds:List Deferred} {args:List Sx.T} {m:M} {k:Value→List Fact→Tree} {g ph i tr:Int} {a1:Option Addr} {n1 c1:Nat} {a2:Option Addr} {n2 c2:Nat} {er s n t c gs:Int} {d:ByteArray} {a3:Option Addr} {n3 c3:Nat} {sl:Int} (hv:valsOf args=some [tkV g ph i tr a1 n1 c1 a2 n2 c2 er s n t c gs d a3 n3 c3 sl])
  (h:∀q,W.heap.size≤q→(k (.map (some q)) [mapF q (waysM (tkV g ph i tr a1 n1 c1 a2 n2 c2 er s n t c gs d a3 n3 c3 sl))]).wpD Tryz.prog W none Q ds):(Tree.call 37 args m k).wpD Tryz.prog W none Q ds:=
 ⟨by kernel_rfl,fun β ρ w us hM hr=>by
  rw [valsOf_spec _ _ _ hv hr]
  refine (snapw.ways g ph i tr a1 n1 c1 a2 n2 c2 er s n t c gs d a3 n3 c3 sl w).mono ?_
  rintro e w' ⟨q,rfl,hb,hf⟩
  refine ⟨_,_,rfl,hb,fun φ hφ g hg=>?_,h q ?_⟩
  ·obtain ⟨h1,h2⟩:=hf φ hφ g hg
   exact ⟨.inr (.inl h1),h2⟩
  ·exact Nat.le_trans hM.below.size (hf _ (.head _) q rfl).1⟩
theorem newF_one {W:World} {N:Nat→Prop} {q:Nat} (hq:W.heap.size≤q) (l:List (Int×Value)) {fs:List Fact} (h:NewF W N fs):NewF W N (mapF q l::fs):=fun φ hφ g hg=>by
 rcases List.mem_cons.1 hφ with rfl | hφ
 ·cases hg;exact .inl hq
 ·exact h φ hφ g hg
theorem got_facts {W:World} {O:Nat→Prop} {gs:List Fact} (h:Got (AtO W O) gs):NewF W O gs:=fun φ hφ g hg=>by
 obtain ⟨a,ys,rfl,h3,h4⟩:=h φ hφ
 exact .inr (h4 g hg)
theorem snap_Step_ok:s_0.toS.Ok Tryz.prog txn.Most 13:=by
 intro O w x vs hw hp hl
 have hp:(F_2 x).isSome=true:=hp
 obtain ⟨r,hr⟩:=Option.isSome_iff_exists.1 hp
 obtain ⟨gs,h1,h2⟩:=LieA.got hl
 have hN:=(got_facts (W:=w) h2).dum
 have h1:=LieA.mono inF_dum h1
 have hB:∀w',Below w.heap.size w w'→txn.Most w':=fun w' h=>hw.later h
 have hF:s_0.toS.F x=r:=(pre_of hr).2
 rw [hF]
 clear hF hp
 obtain ⟨v,k,s,u⟩:=x
 obtain ⟨y1,us1,rfl,k1,y2,us2,rfl,k2,y3,us3,rfl,k3,k4⟩:=h1
 have k2:y2=.int .i64 k:=k2
 have k4:us3=[]:=k4
 subst k2 k4
 obtain ⟨sl,e1,e2⟩:=valW_of k1
 obtain ⟨a1,n1,c1,a2,n2,c2,a3,n3,c3,rfl⟩:=len3 e1
 obtain ⟨sl,e3,e4⟩:=valW_of k3
 obtain ⟨a4,n4,c4,a5,n5,c5,rfl⟩:=len2 e3
 subst e2 e4
 obtain ⟨g,ph,i,tr,vs,cp,⟨er,⟨ts,tn,tt,tc,tg,td,u1⟩,tx,sl0,u2⟩,u3⟩:=v
 obtain ⟨⟨g1,g2,g3,g4,g5,g6,g7,g8,u4⟩,lk,⟨p1,p2,u5⟩,shs,u6⟩:=s
 unfold F_2 at hr
 obtain ⟨⟨b,ub⟩,ha,hr⟩:=xb_some_iff.1 hr
 refine calls_of_exec Sxz.env_ok.keeps Tryz.func13 rfl [(3,(.one 0 (.one 2 (.one 3 (.one 5 (.one 6 (.one 1 (.now 4 (.one 7 (.one 8 (.one 9 (.one 10 (.one 11 (.last 12 (.last 13 (.last 14 .done)))))))))))))),[])),(4,(lineT [0,2,4,1,3] [5,6,7],[]))] (by kernel_rfl) (dumF::gs) (fun φ hφ g hg=>by
  rcases List.mem_cons.1 hφ with rfl | hφ
  ·cases hg
  ·obtain ⟨a,ys,rfl,h3,h4⟩:=h2 φ hφ;exact h3 g hg) ?_
 conv=>arg 5;whnf
 conv=>arg 5;whnf
 refine meetE (S:=s_h) (vs:=[(valW Q_1 (g,ph,i,tr,vs,cp,(er,(ts,tn,tt,tc,tg,td,u1),tx,sl0,u2),u3) [⟨a1,n1,c1⟩,⟨a2,n2,c2⟩,⟨a3,n3,c3⟩]),.int .i64 k,(valW Q_0 ((g1,g2,g3,g4,g5,g6,g7,g8,u4),lk,(p1,p2,u5),shs,u6) [⟨a4,n4,c4⟩,⟨a5,n5,c5⟩])]) ha (tA_fn (by kernel_rfl)) hB hN ⟨_,_,rfl,k1,_,_,rfl,rfl,_,_,rfl,k3,rfl⟩ rfl (fun us gs1 hu hN1=>?_)
 obtain ⟨y,us,rfl,q1,q2⟩:=hu
 have q1:y=.bool b:=q1
 have q2:us=[]:=q2
 subst q1 q2
 have hr:xbr b (xb (snapWay ph (((g,ph,i,tr,vs,cp,(er,(ts,tn,tt,tc,tg,td,u1),tx,sl0,u2),u3),k,((g1,g2,g3,g4,g5,g6,g7,g8,u4),lk,(p1,p2,u5),shs,u6),u):DenL TkA)) fun r=>snapEnd r.1 r.2.1 r.2.2.1) (snapEnd (g,ph,i,tr,vs,cp,(er,(ts,tn,tt,tc,tg,td,u1),tx,sl0,u2),u3) ((g1,g2,g3,g4,g5,g6,g7,g8,u4),lk,(p1,p2,u5),shs,u6) 0)=some r:=hr
 cases b with
 | false=>
  have hr:snapEnd (g,ph,i,tr,vs,cp,(er,(ts,tn,tt,tc,tg,td,u1),tx,sl0,u2),u3) ((g1,g2,g3,g4,g5,g6,g7,g8,u4),lk,(p1,p2,u5),shs,u6) 0=some r:=hr
  unfold snapEnd at hr
  obtain ⟨⟨c,uc⟩,hc,hr⟩:=xb_some_iff.1 hr
  obtain ⟨⟨d,ud⟩,hd,hr⟩:=xb_some_iff.1 hr
  have hr:(c,d,(0:Int),())=r:=Option.some.inj hr
  conv=>arg 5;whnf
  have k1:=k1.mono (R':=inF (dumF::gs1++(dumF::gs))) (inF_mono fun _ h=>List.mem_append_right _ h)
  refine meetE (S:=s_f) (vs:=[(valW Q_1 (g,ph,i,tr,vs,cp,(er,(ts,tn,tt,tc,tg,td,u1),tx,sl0,u2),u3) [⟨a1,n1,c1⟩,⟨a2,n2,c2⟩,⟨a3,n3,c3⟩])]) hc (tA_fn (by kernel_rfl)) hB (hN1.app hN) ⟨_,_,rfl,k1,rfl⟩ rfl (fun us gs2 hu hN2=>?_)
  obtain ⟨y2,us,rfl,q3,q2⟩:=hu
  have q2:us=[]:=q2
  subst q2
  conv=>arg 5;whnf
  have k3:=k3.mono (R':=inF (dumF::gs2++(dumF::gs1++(dumF::gs)))) (inF_mono fun _ h=>List.mem_append_right _ (List.mem_append_right _ h))
  refine meetE (S:=s_g) (vs:=[(valW Q_0 ((g1,g2,g3,g4,g5,g6,g7,g8,u4),lk,(p1,p2,u5),shs,u6) [⟨a4,n4,c4⟩,⟨a5,n5,c5⟩])]) hd (tA_fn (by kernel_rfl)) hB (hN2.app (hN1.app hN)) ⟨_,_,rfl,k3,rfl⟩ rfl (fun us gs3 hu hN3=>?_)
  obtain ⟨y3,us,rfl,q4,q2⟩:=hu
  have q2:us=[]:=q2
  subst q2
  have q3:=q3.mono (R':=inF (dumF::gs3++(dumF::gs2++(dumF::gs1++(dumF::gs))))) (inF_mono fun _ h=>List.mem_append_right _ (List.mem_append_left _ h))
  have q4:=q4.mono (R':=inF (dumF::gs3++(dumF::gs2++(dumF::gs1++(dumF::gs))))) (inF_mono fun _ h=>List.mem_append_left _ h)
  obtain ⟨sl,e5,e6⟩:=valW_of q3
  obtain ⟨b1,m1,d1,b2,m2,d2,b3,m3,d3,rfl⟩:=len3 e5
  obtain ⟨sl,e7,e8⟩:=valW_of q4
  obtain ⟨b4,m4,d4,b5,m5,d5,rfl⟩:=len2 e7
  subst e6 e8
  conv=>arg 5;whnf
  subst hr
  exact wp_back fun β ρ w' hM'=>⟨[_,_,.int .i64 0],rfl,hM'.below,lie_end hM' (hN3.app (hN2.app (hN1.app hN))) ⟨_,_,rfl,q3,_,_,rfl,q4,_,_,rfl,rfl,rfl⟩⟩
 | true=>
  have hr:(xb (snapWay ph (((g,ph,i,tr,vs,cp,(er,(ts,tn,tt,tc,tg,td,u1),tx,sl0,u2),u3),k,((g1,g2,g3,g4,g5,g6,g7,g8,u4),lk,(p1,p2,u5),shs,u6),u):DenL TkA)) fun r=>snapEnd r.1 r.2.1 r.2.2.1)=some r:=hr
  obtain ⟨⟨v',s',k',ur⟩,hm,hr⟩:=xb_some_iff.1 hr
  have hr:snapEnd v' s' k'=some r:=hr
  unfold snapEnd at hr
  obtain ⟨⟨c,uc⟩,hc,hr⟩:=xb_some_iff.1 hr
  obtain ⟨⟨d,ud⟩,hd,hr⟩:=xb_some_iff.1 hr
  have hrE:(c,d,k',())=r:=Option.some.inj hr
  rcases snapWay_cases hm with ⟨rfl,hm⟩ | ⟨rfl,hm⟩ | ⟨rfl,hm⟩ | ⟨rfl,hm⟩ | ⟨rfl,hm⟩ | ⟨rfl,hm⟩
  all_goals
   conv=>arg 5;whnf
   refine meetWays (g:=g) (i:=i) (tr:=tr) (a1:=a1) (n1:=n1) (c1:=c1) (a2:=a2) (n2:=n2) (c2:=c2) (er:=er) (s:=ts) (n:=tn) (t:=tt) (c:=tc) (gs:=tg) (d:=td) (a3:=a3) (n3:=n3) (c3:=c3) (sl:=sl0) (by rfl) (fun q hq=>?_)
   conv=>arg 5;whnf
   refine peek_lookup (z:=.nilFunc) (l:=waysM _) Tryz.underlying101 Tryz.underlying3 (fun w=>by kernel_rfl) (by exact .head _) ?_
   conv=>arg 5;whnf
   refine meetE (N:=O) hm (tA_fn (by kernel_rfl)) hB (newF_one hq _ (hN1.app hN)) ⟨_,_,rfl,k1.mono fun a xs h=>h.mono fun φ hφ=>List.Mem.tail _ (List.mem_append_right (dumF::gs1) hφ),_,_,rfl,rfl,_,_,rfl,k3.mono fun a xs h=>h.mono fun φ hφ=>List.Mem.tail _ (List.mem_append_right (dumF::gs1) hφ),rfl⟩ (by rfl) (fun us gs2 hu hN2=>?_)
   obtain ⟨y2,us,rfl,q3,y3,us,rfl,q4,y4,us,rfl,q5,q2⟩:=hu
   have q5:y4=.int .i64 k':=q5
   have q2:us=[]:=q2
   subst q5 q2
   obtain ⟨sl,e5,e6⟩:=valW_of q3
   obtain ⟨b1,m1,d1,b2,m2,d2,b3,m3,d3,rfl⟩:=len3 e5
   obtain ⟨sl,e7,e8⟩:=valW_of q4
   obtain ⟨b4,m4,d4,b5,m5,d5,rfl⟩:=len2 e7
   subst e6 e8
   conv=>arg 5;whnf
   refine meetE (S:=s_f) (vs:=[(valW Q_1 v' [⟨b1,m1,d1⟩,⟨b2,m2,d2⟩,⟨b3,m3,d3⟩])]) hc (tA_fn (by kernel_rfl)) hB (hN2.app (newF_one hq _ (hN1.app hN))) ⟨_,_,rfl,q3.mono fun a xs h=>h.mono fun φ hφ=>List.mem_append_left _ hφ,rfl⟩ rfl (fun us gs3 hu hN4=>?_)
   obtain ⟨y2,us,rfl,q6,q2⟩:=hu
   have q2:us=[]:=q2
   subst q2
   conv=>arg 5;whnf
   refine meetE (S:=s_g) (vs:=[(valW Q_0 s' [⟨b4,m4,d4⟩,⟨b5,m5,d5⟩])]) hd (tA_fn (by kernel_rfl)) hB (hN4.app (hN2.app (newF_one hq _ (hN1.app hN)))) ⟨_,_,rfl,q4.mono fun a xs h=>h.mono fun φ hφ=>List.mem_append_right (dumF::gs3) (List.mem_append_left _ hφ),rfl⟩ rfl (fun us gs4 hu hN5=>?_)
   obtain ⟨y3,us,rfl,q7,q2⟩:=hu
   have q2:us=[]:=q2
   subst q2
   obtain ⟨sl,e5,e6⟩:=valW_of q6
   obtain ⟨f1,o1,r1,f2,o2,r2,f3,o3,r3,rfl⟩:=len3 e5
   obtain ⟨sl,e7,e8⟩:=valW_of q7
   obtain ⟨f4,o4,r4,f5,o5,r5,rfl⟩:=len2 e7
   subst e6 e8
   conv=>arg 5;whnf
   subst hrE
   exact wp_back fun β ρ w' hM'=>⟨[_,_,.int .i64 k'],rfl,hM'.below,lie_end hM' (hN5.app (hN4.app (hN2.app (newF_one hq _ (hN1.app hN))))) ⟨_,_,rfl,q6.mono fun a xs h=>h.mono fun φ hφ=>List.mem_append_right (dumF::gs4) (List.mem_append_left _ hφ),_,_,rfl,q7.mono fun a xs h=>h.mono fun φ hφ=>List.mem_append_left _ hφ,_,_,rfl,rfl,rfl⟩⟩
noncomputable def tH:EE:={ tA with sm:=(13,s_0)::tA.sm }
theorem tH_ok:tH.toD.Oks Sxz.env Tryz.prog txn.Most EN:=EE.leaf_ok tA_ok (by kernel_rfl) (S:=s_0) snap_Step_ok
end Go.Proofs.YtdbjakibneeeiaaGreatDoor.Ex
namespace Go.Proofs.YtdbjakibneeeiaaGreatDoor.Ex
open Go.RowKit Sx
def h_0N:FH:=⟨[(1,(lineT [0,2,1,3] [4,5],[])),(7,(line [0,1,2,3],[2,3]))],[(3,⟨[],0,⟨[.any,.d .int,.any,.any,.p 0 0,.any,.p 1 0,.any,.p 2 0,.p 3 0]++an 5 ([.d .int,.d .int]++an 17 []),[some ([.d z7],50),some ([.d z5],46),some ([.d z7],50),some ([.d z5],46)],[]⟩,[(.exit 0,⟨an 4 ([.p 0 0,.any,.p 1 0,.any,.p 2 0,.p 3 0]++an 24 []),[some ([.d z7],50),some ([.d z5],46),some ([.d z7],50),some ([.d z5],46)],[]⟩)]⟩)],[],[]⟩
@[irreducible] noncomputable def F_0 (x:DenL [z7,.int,z5,.int]):Option (DenL [z7,z5]):=xf tH h_0N 16 x
noncomputable def t_0:EE:=tH.ad 16 ⟨_,_,F_0⟩
theorem t_2S:OkE t_0:=adE tH_ok h_0N (by kernel_rfl) fun x=>by unfold F_0;rfl
def h_1:FH:=⟨[(20,(ones [1] (.fork3 0 (.fork3 2 (ones [3,4,5] (.fork 6 (lineT [7] [8,9]) 7 (lineT [6] [8,9]))) 6 (.fork 2 (lineT [3,4,5,7] [8,9]) 7 (lineT [2,3,4,5] [8,9])) 7 (.fork 2 (lineT [3,4,5,6] [8,9]) 6 (lineT [2,3,4,5] [8,9]))) 6 (.fork 0 (.fork 2 (lineT [3,4,5,7] [8,9]) 7 (lineT [2,3,4,5] [8,9])) 7 (lineT [0,2,3,4,5] [8,9])) 7 (.fork 0 (.fork 2 (lineT [3,4,5,6] [8,9]) 6 (lineT [2,3,4,5] [8,9])) 6 (lineT [0,2,3,4,5] [8,9]))),[]))],[(8,⟨[],0,⟨[.any,.any,.p 0 0]++an 3 ([.p 1 0,.p 2 0,.d .int]++an 186 []),[some ([.d z5],46),some ([.d z11],94),some ([.d z7],50)],[]⟩,[(.exit 0,⟨[.any,.any,.p 0 0]++an 4 ([.p 1 0]++an 187 []),[some ([.d z5],46),some ([.d z7],50)],[]⟩)]⟩)],[],[(20,⟨[.any,.any,.p 0 0]++an 4 ([.p 1 0]++an 5 ([.p 2 0,.any,.d .int,.p 3 0,.p 4 0,.any,.p 5 0]++an 175 [])),[some ([.d z5],46),some ([.d z7],50),some ([.d z7],50),some ([.d z7],50),some ([.d z5],46),some ([.d z7],50)],[]⟩)]⟩
@[irreducible] noncomputable def F_1 (x:DenL []):Option (DenL [.bool]):=xf t_0 h_1 11 x
noncomputable def t_1:EE:=t_0.ad 11 ⟨_,_,F_1⟩
theorem t_2T:OkE t_1:=adE t_2S h_1 (by kernel_rfl) fun x=>by unfold F_1;rfl
def h_2:FH:=⟨[(9,(ones [0,2,3,5,6] (.fork3 1 (.fork3 4 (.fork3 7 (ones [8,9,10] (.fork 11 (lineT [12] [13,14]) 12 (lineT [11] [13,14]))) 11 (.fork 7 (lineT [8,9,10,12] [13,14]) 12 (lineT [7,8,9,10] [13,14])) 12 (.fork 7 (lineT [8,9,10,11] [13,14]) 11 (lineT [7,8,9,10] [13,14]))) 11 (.fork 4 (.fork 7 (lineT [8,9,10,12] [13,14]) 12 (lineT [7,8,9,10] [13,14])) 12 (lineT [4,7,8,9,10] [13,14])) 12 (.fork 4 (.fork 7 (lineT [8,9,10,11] [13,14]) 11 (lineT [7,8,9,10] [13,14])) 11 (lineT [4,7,8,9,10] [13,14]))) 11 (.fork 1 (.fork 4 (.fork 7 (lineT [8,9,10,12] [13,14]) 12 (lineT [7,8,9,10] [13,14])) 12 (lineT [4,7,8,9,10] [13,14])) 12 (lineT [1,4,7,8,9,10] [13,14])) 12 (.fork 1 (.fork 4 (.fork 7 (lineT [8,9,10,11] [13,14]) 11 (lineT [7,8,9,10] [13,14])) 11 (lineT [4,7,8,9,10] [13,14])) 11 (lineT [1,4,7,8,9,10] [13,14]))),[])),(17,(line [0,1,2,3,4,5,6,7,8,9,10,11,12,13,14,15,16,17,18,19,20,21,22,23,24,25,26,27],[]))],[(5,⟨[],0,⟨[.d .int]++an 3 ([.p 0 0,.p 1 0,.any,.d .int,.d .int]++an 134 []),[some ([.d z3],32),some ([.d z5],38)],[]⟩,[(.ret,⟨an 6 ([.d .bool]++an 136 []),[],[]⟩),(.exit 0,⟨[.d .int]++an 3 ([.p 0 0,.p 1 0,.any,.d .int]++an 135 []),[some ([.d z3],32),some ([.d z5],38)],[]⟩)]⟩),(14,⟨[],0,⟨an 5 ([.p 0 0,.any,.d .int,.any,.p 1 0,.any,.p 2 0,.d .int]++an 130 []),[some ([.d z5],38),some ([.d z7],50),some ([.d z5],38)],[]⟩,[(.ret,⟨an 6 ([.d .bool]++an 136 []),[],[]⟩),(.exit 2,⟨an 5 ([.p 0 0]++an 5 ([.p 1 0]++an 131 [])),[some ([.d z5],38),some ([.d z5],38)],[]⟩)]⟩)],[],[(9,⟨an 5 ([.p 0 0,.any,.d .int,.any,.p 1 0,.p 2 0]++an 132 []),[some ([.d z5],38),some ([.d z7],50),some ([.d z5],46)],[]⟩)]⟩
@[irreducible] noncomputable def F_R (x:DenL [.int,z3,z5]):Option (DenL [.bool]):=xf t_1 h_2 5 x
noncomputable def t_2:EE:=t_1.ad 5 ⟨_,_,F_R⟩
theorem t_0W:OkE t_2:=adE t_2T h_2 (by kernel_rfl) fun x=>by unfold F_R;rfl
def h_3:FH:=⟨[(4,(ones [0,2,3,4,5,6] (.fork3 1 (.fork3 7 (ones [8,9,10] (.fork 11 (lineT [12] [13,14]) 12 (lineT [11] [13,14]))) 11 (.fork 7 (lineT [8,9,10,12] [13,14]) 12 (lineT [7,8,9,10] [13,14])) 12 (.fork 7 (lineT [8,9,10,11] [13,14]) 11 (lineT [7,8,9,10] [13,14]))) 11 (.fork 1 (.fork 7 (lineT [8,9,10,12] [13,14]) 12 (lineT [7,8,9,10] [13,14])) 12 (lineT [1,7,8,9,10] [13,14])) 12 (.fork 1 (.fork 7 (lineT [8,9,10,11] [13,14]) 11 (lineT [7,8,9,10] [13,14])) 11 (lineT [1,7,8,9,10] [13,14]))),[])),(6,(ones [0,2,3,4,5,6,7,8,9] (.fork3 1 (.fork3 10 (ones [11,12,13] (.fork 14 (lineT [15] [16,17]) 15 (lineT [14] [16,17]))) 14 (.fork 10 (lineT [11,12,13,15] [16,17]) 15 (lineT [10,11,12,13] [16,17])) 15 (.fork 10 (lineT [11,12,13,14] [16,17]) 14 (lineT [10,11,12,13] [16,17]))) 14 (.fork 1 (.fork 10 (lineT [11,12,13,15] [16,17]) 15 (lineT [10,11,12,13] [16,17])) 15 (lineT [1,10,11,12,13] [16,17])) 15 (.fork 1 (.fork 10 (lineT [11,12,13,14] [16,17]) 14 (lineT [10,11,12,13] [16,17])) 14 (lineT [1,10,11,12,13] [16,17]))),[])),(7,(line [0,2,1,3,4,5,6,8,7,9,10,11,12,13,14,15],[]))],[],[],[(4,⟨an 3 ([.p 0 0,.p 1 0,.any,.any,.p 2 0,.p 3 0,.p 4 0]++an 85 []),[some ([.d z7],31),some ([.d z14],80),some ([.d z5],46),some ([.d z7],50),some ([.d z5],46)],[]⟩),(6,⟨an 10 ([.p 0 0,.p 1 0,.p 2 0,.p 3 0]++an 81 []),[some ([.d z7],50),some ([.d z5],46),some ([.d z7],50),some ([.d z5],46)],[]⟩)]⟩
@[irreducible] noncomputable def F_S (x:DenL [z7,z14,z5]):Option (DenL [.bool]):=xf t_2 h_3 6 x
noncomputable def t_3:EE:=t_2.ad 6 ⟨_,_,F_S⟩
theorem t_0X:OkE t_3:=adE t_0W h_3 (by kernel_rfl) fun x=>by unfold F_S;rfl
def h_4:FH:=⟨[],[(8,⟨[],0,⟨an 4 ([.p 0 0,.any,.any,.p 1 0,.p 2 0,.d .int,.d .int,.d .int]++an 104 []),[some ([.d z3],32),some ([.d z7],50),some ([.d z5],46)],[]⟩,[(.ret,⟨an 6 ([.d .bool]++an 109 []),[],[]⟩),(.exit 0,⟨an 9 ([.d .int,.d .int]++an 105 []),[],[]⟩)]⟩)],[],[]⟩
@[irreducible] noncomputable def F_T (x:DenL [.int,z3,z5]):Option (DenL [.bool]):=xf t_3 h_4 8 x
noncomputable def t_2U:EE:=t_3.ad 8 ⟨_,_,F_T⟩
theorem t_2V:OkE t_2U:=adE t_0X h_4 (by kernel_rfl) fun x=>by unfold F_T;rfl
end Go.Proofs.YtdbjakibneeeiaaGreatDoor.Ex
