/-
  The program: carryOut, by the expr's type.
-/
import Derived.Test.YtifhgjpglicjbaaGreatDoorReK
import Derived.Test.YtifhgjpglicjbaaGreatDoorRdA
import Derived.Test.YtifhgjpglicjbaaGreatDoorFrN
set_option maxHeartbeats 4000000
set_option maxRecDepth 100000
namespace Go.Proofs.YtifhgjpglicjbaaGreatDoor
open Go.Proofs.Tryz
open Go.RowKit Go.Lib
attribute [local go_sem ↓] Go.wp_at_zero Go.wp_at_succ
theorem tz_Number_Number (x:Value)(w:World):(Instr.typeAssert (.iface 306 x) 64 306 true).run prog w=.ok (.tuple #[x,.bool true]) w:=by kernel_rfl
theorem tz_Text_Number (x:Value)(w:World):(Instr.typeAssert (.iface 308 x) 64 306 true).run prog w=.ok (.tuple #[.agg #[.int .i64 0,.int .i64 0],.bool false]) w:=by kernel_rfl
theorem tz_Text_Text (x:Value)(w:World):(Instr.typeAssert (.iface 308 x) 64 308 true).run prog w=.ok (.tuple #[x,.bool true]) w:=by kernel_rfl
theorem tz_Variable_Number (x:Value)(w:World):(Instr.typeAssert (.iface 277 x) 64 306 true).run prog w=.ok (.tuple #[.agg #[.int .i64 0,.int .i64 0],.bool false]) w:=by kernel_rfl
theorem tz_Variable_Text (x:Value)(w:World):(Instr.typeAssert (.iface 277 x) 64 308 true).run prog w=.ok (.tuple #[.agg #[.int .i64 0,.string ⟨#[]⟩],.bool false]) w:=by kernel_rfl
theorem tz_List_Number (x:Value)(w:World):(Instr.typeAssert (.iface 288 x) 64 306 true).run prog w=.ok (.tuple #[.agg #[.int .i64 0,.int .i64 0],.bool false]) w:=by kernel_rfl
theorem tz_List_Text (x:Value)(w:World):(Instr.typeAssert (.iface 288 x) 64 308 true).run prog w=.ok (.tuple #[.agg #[.int .i64 0,.string ⟨#[]⟩],.bool false]) w:=by kernel_rfl
theorem tz_If_Number (x:Value)(w:World):(Instr.typeAssert (.iface 290 x) 64 306 true).run prog w=.ok (.tuple #[.agg #[.int .i64 0,.int .i64 0],.bool false]) w:=by kernel_rfl
theorem tz_If_Text (x:Value)(w:World):(Instr.typeAssert (.iface 290 x) 64 308 true).run prog w=.ok (.tuple #[.agg #[.int .i64 0,.string ⟨#[]⟩],.bool false]) w:=by kernel_rfl
theorem tz_Let_Number (x:Value)(w:World):(Instr.typeAssert (.iface 279 x) 64 306 true).run prog w=.ok (.tuple #[.agg #[.int .i64 0,.int .i64 0],.bool false]) w:=by kernel_rfl
theorem tz_Let_Text (x:Value)(w:World):(Instr.typeAssert (.iface 279 x) 64 308 true).run prog w=.ok (.tuple #[.agg #[.int .i64 0,.string ⟨#[]⟩],.bool false]) w:=by kernel_rfl
theorem tz_Let_List (x:Value)(w:World):(Instr.typeAssert (.iface 279 x) 64 288 true).run prog w=.ok (.tuple #[.agg #[.int .i64 0,.slice none 0 0],.bool false]) w:=by kernel_rfl
theorem tz_Let_If (x:Value)(w:World):(Instr.typeAssert (.iface 279 x) 64 290 true).run prog w=.ok (.tuple #[.agg #[.int .i64 0,.nilIface,.nilIface,.nilIface],.bool false]) w:=by kernel_rfl
theorem tz_Binary_Number (x:Value)(w:World):(Instr.typeAssert (.iface 295 x) 64 306 true).run prog w=.ok (.tuple #[.agg #[.int .i64 0,.int .i64 0],.bool false]) w:=by kernel_rfl
theorem tz_Binary_Text (x:Value)(w:World):(Instr.typeAssert (.iface 295 x) 64 308 true).run prog w=.ok (.tuple #[.agg #[.int .i64 0,.string ⟨#[]⟩],.bool false]) w:=by kernel_rfl
theorem tz_Len_Number (x:Value)(w:World):(Instr.typeAssert (.iface 297 x) 64 306 true).run prog w=.ok (.tuple #[.agg #[.int .i64 0,.int .i64 0],.bool false]) w:=by kernel_rfl
theorem tz_Len_Text (x:Value)(w:World):(Instr.typeAssert (.iface 297 x) 64 308 true).run prog w=.ok (.tuple #[.agg #[.int .i64 0,.string ⟨#[]⟩],.bool false]) w:=by kernel_rfl
theorem tz_Set_Number (x:Value)(w:World):(Instr.typeAssert (.iface 292 x) 64 306 true).run prog w=.ok (.tuple #[.agg #[.int .i64 0,.int .i64 0],.bool false]) w:=by kernel_rfl
theorem tz_Set_Text (x:Value)(w:World):(Instr.typeAssert (.iface 292 x) 64 308 true).run prog w=.ok (.tuple #[.agg #[.int .i64 0,.string ⟨#[]⟩],.bool false]) w:=by kernel_rfl
theorem tz_Set_Binary (x:Value)(w:World):(Instr.typeAssert (.iface 292 x) 64 295 true).run prog w=.ok (.tuple #[.agg #[.int .i64 0,.string ⟨#[]⟩,.nilIface,.nilIface],.bool false]) w:=by kernel_rfl
theorem tz_Set_Len (x:Value)(w:World):(Instr.typeAssert (.iface 292 x) 64 297 true).run prog w=.ok (.tuple #[.agg #[.int .i64 0,.nilIface],.bool false]) w:=by kernel_rfl
theorem tz_Call_Number (x:Value)(w:World):(Instr.typeAssert (.iface 282 x) 64 306 true).run prog w=.ok (.tuple #[.agg #[.int .i64 0,.int .i64 0],.bool false]) w:=by kernel_rfl
theorem tz_Call_Text (x:Value)(w:World):(Instr.typeAssert (.iface 282 x) 64 308 true).run prog w=.ok (.tuple #[.agg #[.int .i64 0,.string ⟨#[]⟩],.bool false]) w:=by kernel_rfl
theorem tz_Call_List (x:Value)(w:World):(Instr.typeAssert (.iface 282 x) 64 288 true).run prog w=.ok (.tuple #[.agg #[.int .i64 0,.slice none 0 0],.bool false]) w:=by kernel_rfl
theorem tz_Call_If (x:Value)(w:World):(Instr.typeAssert (.iface 282 x) 64 290 true).run prog w=.ok (.tuple #[.agg #[.int .i64 0,.nilIface,.nilIface,.nilIface],.bool false]) w:=by kernel_rfl
theorem tz_Call_Binary (x:Value)(w:World):(Instr.typeAssert (.iface 282 x) 64 295 true).run prog w=.ok (.tuple #[.agg #[.int .i64 0,.string ⟨#[]⟩,.nilIface,.nilIface],.bool false]) w:=by kernel_rfl
theorem tz_Call_Len (x:Value)(w:World):(Instr.typeAssert (.iface 282 x) 64 297 true).run prog w=.ok (.tuple #[.agg #[.int .i64 0,.nilIface],.bool false]) w:=by kernel_rfl
theorem tz_Call_Set (x:Value)(w:World):(Instr.typeAssert (.iface 282 x) 64 292 true).run prog w=.ok (.tuple #[.agg #[.int .i64 0,.nilIface,.nilIface,.nilIface],.bool false]) w:=by kernel_rfl
theorem tz_Map_Number (x:Value)(w:World):(Instr.typeAssert (.iface 286 x) 64 306 true).run prog w=.ok (.tuple #[.agg #[.int .i64 0,.int .i64 0],.bool false]) w:=by kernel_rfl
theorem tz_Map_Text (x:Value)(w:World):(Instr.typeAssert (.iface 286 x) 64 308 true).run prog w=.ok (.tuple #[.agg #[.int .i64 0,.string ⟨#[]⟩],.bool false]) w:=by kernel_rfl
theorem tz_Map_List (x:Value)(w:World):(Instr.typeAssert (.iface 286 x) 64 288 true).run prog w=.ok (.tuple #[.agg #[.int .i64 0,.slice none 0 0],.bool false]) w:=by kernel_rfl
theorem tz_Map_If (x:Value)(w:World):(Instr.typeAssert (.iface 286 x) 64 290 true).run prog w=.ok (.tuple #[.agg #[.int .i64 0,.nilIface,.nilIface,.nilIface],.bool false]) w:=by kernel_rfl
theorem tz_Map_Binary (x:Value)(w:World):(Instr.typeAssert (.iface 286 x) 64 295 true).run prog w=.ok (.tuple #[.agg #[.int .i64 0,.string ⟨#[]⟩,.nilIface,.nilIface],.bool false]) w:=by kernel_rfl
theorem tz_Map_Len (x:Value)(w:World):(Instr.typeAssert (.iface 286 x) 64 297 true).run prog w=.ok (.tuple #[.agg #[.int .i64 0,.nilIface],.bool false]) w:=by kernel_rfl
theorem tz_Map_Set (x:Value)(w:World):(Instr.typeAssert (.iface 286 x) 64 292 true).run prog w=.ok (.tuple #[.agg #[.int .i64 0,.nilIface,.nilIface,.nilIface],.bool false]) w:=by kernel_rfl
attribute [local go_sem] tz_Number_Number tz_Text_Number tz_Text_Text tz_Variable_Number tz_Variable_Text ta_Variable_Variable tz_List_Number tz_List_Text ta_List_Variable ta_List_List tz_If_Number tz_If_Text ta_If_Variable ta_If_List ta_If_If tz_Let_Number tz_Let_Text ta_Let_Variable tz_Let_List tz_Let_If ta_Let_Let tz_Binary_Number tz_Binary_Text ta_Binary_Variable ta_Binary_List ta_Binary_If ta_Binary_Let ta_Binary_Binary tz_Len_Number tz_Len_Text ta_Len_Variable ta_Len_List ta_Len_If ta_Len_Let ta_Len_Binary ta_Len_Len tz_Set_Number tz_Set_Text ta_Set_Variable ta_Set_List ta_Set_If ta_Set_Let tz_Set_Binary tz_Set_Len ta_Set_Set tz_Call_Number tz_Call_Text ta_Call_Variable tz_Call_List tz_Call_If ta_Call_Let tz_Call_Binary tz_Call_Len tz_Call_Set ta_Call_Call tz_Map_Number tz_Map_Text ta_Map_Variable tz_Map_List tz_Map_If ta_Map_Let tz_Map_Binary tz_Map_Len tz_Map_Set ta_Map_Call ta_Map_Map
theorem cr_from {D:Nat→Prop}{mb:Nat}{fns:List Fn}{o:Option (PV×Nat)}{w w1 w':World}{e:Ending}(hb:Below w.heap.size w w1)(h:crPost D mb fns o w1 e w'):crPost D mb fns o w e w':=⟨(Touch.of_below hb).trans h.1,h.2⟩
theorem below0 (w:World):Below w.heap.size w w:=Below.refl _ _
section
variable {D:Nat→Prop} {mb:Nat} {fns:List Fn} {R:Option (PV×Nat)}
theorem cy_num (w:World)(sp x:Int)(m o:Option Addr):Calls prog 111 #[.pointer m,.iface 306 (.agg #[.int .i64 sp,.int .i64 x]),.pointer o] w fun e w'=>e=.returned (.tuple #[.iface 190 (.int .i64 x),.nilIface])∧Below w.heap.size w w':=by
 go_enter func111,ntmps111
 go_wp2_with fail
 go_ret2
 exact⟨rfl,by first | exact below0 w | exact below1 w _⟩
theorem cy_txt (w:World)(sp:Int)(b:ByteArray)(m o:Option Addr):Calls prog 111 #[.pointer m,.iface 308 (.agg #[.int .i64 sp,.string b]),.pointer o] w fun e w'=>e=.returned (.tuple #[.iface 193 (.string b),.nilIface])∧Below w.heap.size w w':=by
 go_enter func111,ntmps111
 go_wp2_with fail
 go_ret2
 exact⟨rfl,by first | exact below0 w | exact below1 w _⟩
theorem cy_var (w:World)(sp:Int)(b:ByteArray)(m o:Option Addr)(V:Option PV)(C:∀X,Below w.heap.size w X→Calls prog 147 #[.pointer o,.string b] X (vePost D X V)):Calls prog 111 #[.pointer m,.iface 277 (.agg #[.int .i64 sp,.string b]),.pointer o] w (vePost D w V):=by
 have C2:Hid (∀X,Below w.heap.size w X→Calls prog 147 #[.pointer o,.string b] X fun e w'=>(∃u f,e=.returned (.tuple #[u,f]))∧vePost D w V e w'):=fun X hX=>(C X hX).mono fun e w' h=>⟨ve_tup h,hX.trans (h.1.mono hX.size),h.2⟩
 clear C
 go_enter func111,ntmps111
 go_wp2_with (go_at_call 147;refine (C2.out _ (by first | exact below0 w | exact below1 w _)).mono ?_;rintro e w1 ⟨⟨u1,f1,rfl⟩,hr1⟩)
 go_ret2
 exact hr1
theorem cy_choose (w:World)(sp:Int)(t1 t2 t3:TypeId)(y1 y2 y3:Value)(m o:Option Addr)(C:∀X,Below w.heap.size w X→Calls prog 149 #[.pointer m,.agg #[.int .i64 sp,.iface t1 y1,.iface t2 y2,.iface t3 y3],.pointer o] X (crPost D mb fns R X)):Calls prog 111 #[.pointer m,.iface 290 (.agg #[.int .i64 sp,.iface t1 y1,.iface t2 y2,.iface t3 y3]),.pointer o] w (crPost D mb fns R w):=by
 have C2:Hid (∀X,Below w.heap.size w X→Calls prog 149 #[.pointer m,.agg #[.int .i64 sp,.iface t1 y1,.iface t2 y2,.iface t3 y3],.pointer o] X fun e w'=>(∃u f,e=.returned (.tuple #[u,f]))∧crPost D mb fns R w e w'):=fun X hX=>(C X hX).mono fun e w' h=>⟨cr_tup h,cr_from hX h⟩
 clear C
 go_enter func111,ntmps111
 go_wp2_with (go_at_call 149;refine (C2.out _ (by first | exact below0 w | exact below1 w _)).mono ?_;rintro e w1 ⟨⟨u1,f1,rfl⟩,hr1⟩)
 go_ret2
 exact hr1
theorem cy_let (w:World)(sp:Int)(nb:ByteArray)(pl:Int)(t1 t2:TypeId)(y1 y2:Value)(m o:Option Addr)(C:∀X,Below w.heap.size w X→Calls prog 150 #[.pointer m,.agg #[.int .i64 sp,.string nb,.int .i64 pl,.iface t1 y1,.iface t2 y2],.pointer o] X (crPost D mb fns R X)):Calls prog 111 #[.pointer m,.iface 279 (.agg #[.int .i64 sp,.string nb,.int .i64 pl,.iface t1 y1,.iface t2 y2]),.pointer o] w (crPost D mb fns R w):=by
 have C2:Hid (∀X,Below w.heap.size w X→Calls prog 150 #[.pointer m,.agg #[.int .i64 sp,.string nb,.int .i64 pl,.iface t1 y1,.iface t2 y2],.pointer o] X fun e w'=>(∃u f,e=.returned (.tuple #[u,f]))∧crPost D mb fns R w e w'):=fun X hX=>(C X hX).mono fun e w' h=>⟨cr_tup h,cr_from hX h⟩
 clear C
 go_enter func111,ntmps111
 go_wp2_with (go_at_call 150;refine (C2.out _ (by first | exact below0 w | exact below1 w _)).mono ?_;rintro e w1 ⟨⟨u1,f1,rfl⟩,hr1⟩)
 go_ret2
 exact hr1
theorem cy_binary (w:World)(sp:Int)(nb:ByteArray)(t1 t2:TypeId)(y1 y2:Value)(m o:Option Addr)(C:∀X,Below w.heap.size w X→Calls prog 151 #[.pointer m,.agg #[.int .i64 sp,.string nb,.iface t1 y1,.iface t2 y2],.pointer o] X (crPost D mb fns R X)):Calls prog 111 #[.pointer m,.iface 295 (.agg #[.int .i64 sp,.string nb,.iface t1 y1,.iface t2 y2]),.pointer o] w (crPost D mb fns R w):=by
 have C2:Hid (∀X,Below w.heap.size w X→Calls prog 151 #[.pointer m,.agg #[.int .i64 sp,.string nb,.iface t1 y1,.iface t2 y2],.pointer o] X fun e w'=>(∃u f,e=.returned (.tuple #[u,f]))∧crPost D mb fns R w e w'):=fun X hX=>(C X hX).mono fun e w' h=>⟨cr_tup h,cr_from hX h⟩
 clear C
 go_enter func111,ntmps111
 go_wp2_with (go_at_call 151;refine (C2.out _ (by first | exact below0 w | exact below1 w _)).mono ?_;rintro e w1 ⟨⟨u1,f1,rfl⟩,hr1⟩)
 go_ret2
 exact hr1
theorem cy_length (w:World)(sp:Int)(t1:TypeId)(y1:Value)(m o:Option Addr)(C:∀X,Below w.heap.size w X→Calls prog 152 #[.pointer m,.agg #[.int .i64 sp,.iface t1 y1],.pointer o] X (crPost D mb fns R X)):Calls prog 111 #[.pointer m,.iface 297 (.agg #[.int .i64 sp,.iface t1 y1]),.pointer o] w (crPost D mb fns R w):=by
 have C2:Hid (∀X,Below w.heap.size w X→Calls prog 152 #[.pointer m,.agg #[.int .i64 sp,.iface t1 y1],.pointer o] X fun e w'=>(∃u f,e=.returned (.tuple #[u,f]))∧crPost D mb fns R w e w'):=fun X hX=>(C X hX).mono fun e w' h=>⟨cr_tup h,cr_from hX h⟩
 clear C
 go_enter func111,ntmps111
 go_wp2_with (go_at_call 152;refine (C2.out _ (by first | exact below0 w | exact below1 w _)).mono ?_;rintro e w1 ⟨⟨u1,f1,rfl⟩,hr1⟩)
 go_ret2
 exact hr1
theorem cy_set (w:World)(sp:Int)(t1 t2 t3:TypeId)(y1 y2 y3:Value)(m o:Option Addr)(C:∀X,Below w.heap.size w X→Calls prog 153 #[.pointer m,.agg #[.int .i64 sp,.iface t1 y1,.iface t2 y2,.iface t3 y3],.pointer o] X (crPost D mb fns R X)):Calls prog 111 #[.pointer m,.iface 292 (.agg #[.int .i64 sp,.iface t1 y1,.iface t2 y2,.iface t3 y3]),.pointer o] w (crPost D mb fns R w):=by
 have C2:Hid (∀X,Below w.heap.size w X→Calls prog 153 #[.pointer m,.agg #[.int .i64 sp,.iface t1 y1,.iface t2 y2,.iface t3 y3],.pointer o] X fun e w'=>(∃u f,e=.returned (.tuple #[u,f]))∧crPost D mb fns R w e w'):=fun X hX=>(C X hX).mono fun e w' h=>⟨cr_tup h,cr_from hX h⟩
 clear C
 go_enter func111,ntmps111
 go_wp2_with (go_at_call 153;refine (C2.out _ (by first | exact below0 w | exact below1 w _)).mono ?_;rintro e w1 ⟨⟨u1,f1,rfl⟩,hr1⟩)
 go_ret2
 exact hr1
theorem cy_call (w:World)(sp:Int)(nb:ByteArray)(pl:Int)(ad:Option Addr)(n cap:Nat)(m o:Option Addr)(C:∀X,Below w.heap.size w X→Calls prog 154 #[.pointer m,.agg #[.int .i64 sp,.string nb,.int .i64 pl,.slice ad n cap],.pointer o] X (crPost D mb fns R X)):Calls prog 111 #[.pointer m,.iface 282 (.agg #[.int .i64 sp,.string nb,.int .i64 pl,.slice ad n cap]),.pointer o] w (crPost D mb fns R w):=by
 have C2:Hid (∀X,Below w.heap.size w X→Calls prog 154 #[.pointer m,.agg #[.int .i64 sp,.string nb,.int .i64 pl,.slice ad n cap],.pointer o] X fun e w'=>(∃u f,e=.returned (.tuple #[u,f]))∧crPost D mb fns R w e w'):=fun X hX=>(C X hX).mono fun e w' h=>⟨cr_tup h,cr_from hX h⟩
 clear C
 go_enter func111,ntmps111
 go_wp2_with (go_at_call 154;refine (C2.out _ (by first | exact below0 w | exact below1 w _)).mono ?_;rintro e w1 ⟨⟨u1,f1,rfl⟩,hr1⟩)
 go_ret2
 exact hr1
theorem cy_map (w:World)(sp:Int)(nb:ByteArray)(pl:Int)(t1:TypeId)(y1:Value)(m o:Option Addr)(C:∀X,Below w.heap.size w X→Calls prog 155 #[.pointer m,.agg #[.int .i64 sp,.string nb,.int .i64 pl,.iface t1 y1],.pointer o] X (crPost D mb fns R X)):Calls prog 111 #[.pointer m,.iface 286 (.agg #[.int .i64 sp,.string nb,.int .i64 pl,.iface t1 y1]),.pointer o] w (crPost D mb fns R w):=by
 have C2:Hid (∀X,Below w.heap.size w X→Calls prog 155 #[.pointer m,.agg #[.int .i64 sp,.string nb,.int .i64 pl,.iface t1 y1],.pointer o] X fun e w'=>(∃u f,e=.returned (.tuple #[u,f]))∧crPost D mb fns R w e w'):=fun X hX=>(C X hX).mono fun e w' h=>⟨cr_tup h,cr_from hX h⟩
 clear C
 go_enter func111,ntmps111
 go_wp2_with (go_at_call 155;refine (C2.out _ (by first | exact below0 w | exact below1 w _)).mono ?_;rintro e w1 ⟨⟨u1,f1,rfl⟩,hr1⟩)
 go_ret2
 exact hr1
theorem cy_list (w:World)(sp:Int)(ad:Option Addr)(n cap:Nat)(m o:Option Addr)(nn k:Nat)(L:Option (List PV×Nat))(hn:nn≤7000)(C:∀X,Below w.heap.size w X→Calls prog 148 #[.pointer m,.pointer o,.slice ad n cap] X fun e w'=>∃u f,e=.returned (.tuple #[u,f])∧Touch (·=mb) X w'∧alRes D mb fns L nn k u f w'):Calls prog 111 #[.pointer m,.iface 288 (.agg #[.int .i64 sp,.slice ad n cap]),.pointer o] w (crPost D mb fns (lightL L) w):=by
 obtain⟨R,hR⟩:∃R,R=lightL L:=⟨_,rfl⟩
 rw[←hR]
 have HR:Aside (R=lightL L):=hR
 clear hR
 have C2:Hid (∀X,Below w.heap.size w X→Calls prog 148 #[.pointer m,.pointer o,.slice ad n cap] X fun e w'=>∃u f,e=.returned (.tuple #[u,f])∧Touch (·=mb) w w'∧Hid (alRes D mb fns L nn k u f w')):=fun X hX=>(C X hX).mono fun e w' ⟨u,f,h1,h2,h3⟩=>⟨u,f,h1,(Touch.of_below hX).trans h2,h3⟩
 clear C
 go_enter func111,ntmps111
 go_wp2_with fail
 refine (C2.out _ (by first | exact below0 w | exact below1 w _)).mono ?_
 rintro e w1 ⟨u1,f1,rfl,ht1,hr1⟩
 obtain⟨vs,cs,k',hL,rfl,hvl,hfi,hseg,hvs,hM1,_⟩ | ⟨hL,hf,rfl⟩:=hr1.out
 ·have hw:=wtVs_fine vs hfi
  rw[←hvl] at hseg
  have CN:=newList_any D vs u1 cs w1 hseg hvs (by omega)
  obtain⟨ua,uc,rfl⟩:=hseg.slice
  have FIN:Hid (∀X,Below w1.heap.size w1 X→crPost D mb fns R w (.returned (.tuple #[.iface 195 (.agg #[.slice ua vs.length uc,.int .i64 ((wtVs vs:Nat):Int)]),.nilIface])) X):=fun X hX=>cr_ok (v:=.lst vs) (k':=k') (by rw[HR.out,hL];rfl) (by rw[wtV];omega) (ht1.below_at hX) (VL_lst (hseg.below hX) (hvs.below hX)) (hM1.below hX)
  generalize wtVs vs=W at *
  clear C2 hr1 hL hseg hvs hM1 hfi HR hvl
  go_wp2_with (go_at_call 143;refine CN.mono ?_;rintro e w2 ⟨rfl,hb2⟩)
  go_ret2
  exact FIN.out _ hb2
 ·have HO:Hid (R=none):=by rw[HR.out,hL];rfl
  have HF:Hid (FltV f1):=hf
  obtain⟨tf,yf,rfl⟩:=hf.iface
  have CN:=newList_any D [] (.slice none 0 0) [] w1 ⟨rfl,Or.inl ⟨⟨_,_,rfl⟩,rfl⟩⟩ (by rw[VLs]) (by simp[wtVs])
  rw[show wtVs []=0 from rfl] at CN
  clear C2 hr1 hL hf HR
  go_wp2_with (go_at_call 143;refine CN.mono ?_;rintro e w2 ⟨rfl,hb2⟩)
  go_ret2
  exact cr_no HO.out (ht1.below_at hb2) HF.out
end
end Go.Proofs.YtifhgjpglicjbaaGreatDoor
namespace Go.Proofs.YtifhgjpglicjbaaGreatDoor
open Go.Proofs.Tryz
open Go.RowKit Go.Lib
theorem XPo.kid {fns:List Fn}{s:Env}{wd n:List UInt8}{a:Nat}{ks:List Ex}(h:XPo fns s (.form wd n a ks))(h2:wd≠[108,101,116]):∀e∈ks,XPo fns s e:=by
 intro e he
 obtain⟨f,lit,wf,sz,sc,hs⟩:=h
 rw[LitE] at lit
 rw[WfE] at wf
 rw[szE] at sz
 rw[ScE] at hs
 exact⟨f,LitEs_mem lit e he,WfEs_mem wf.2 e he,by have:=szEs_mem he;omega,sc,ScEs_mem (hs.2.2 h2) e he⟩
section
variable {mb k0:Nat} {fns:List Fn} {E:Nat→Env→Ex→Option (PV×Nat)}
theorem evX_list (k:Nat)(s:Env)(n:List UInt8)(a:Nat)(ks:List Ex):evX E fns k s (.form [108,105,115,116] n a ks)=lightL (evL (fun k e=>E k s e) k ks):=by
 simp only[evX]
 rw[if_neg (by decide),if_neg (by decide)]
 cases evL (fun k e=>E k s e) k ks with
 | none=>rfl
 | some x=>rfl
theorem evX_call (k:Nat)(s:Env)(n:List UInt8)(a:Nat)(ks:List Ex):evX E fns k s (.form [99,97,108,108] n a ks)=callR (fun k vs=>evC E fns k n vs) (evL (fun k e=>E k s e) k ks):=by
 simp only[evX]
 rw[if_neg (by decide),if_neg (by decide)]
 cases evL (fun k e=>E k s e) k ks with
 | none=>rfl
 | some x=>rfl
theorem evX_map (k:Nat)(s:Env)(n:List UInt8)(a:Nat)(x:Ex):evX E fns k s (.form [109,97,112] n a [x])=mapR (fun k v=>evC E fns k n [v]) (E k s x):=by
 simp only[evX]
 rw[if_neg (by decide),if_neg (by decide)]
 simp only[evL]
 cases E k s x with
 | none=>rfl
 | some y =>
  obtain⟨v,k1⟩:=y
  cases v<;>rfl
theorem evX_if (k:Nat)(s:Env)(n:List UInt8)(a:Nat)(ks:List Ex):evX E fns k s (.form [105,102] n a ks)=evIf (fun k e=>E k s e) k ks:=by
 simp only[evX]
 rw[if_pos (by decide)]
theorem evX_let (k:Nat)(s:Env)(n:List UInt8)(a:Nat)(ks:List Ex):evX E fns k s (.form [108,101,116] n a ks)=evLet E k s n ks:=by
 simp only[evX]
 rw[if_neg (by decide),if_pos (by decide)]
theorem evX_simple (k:Nat)(s:Env)(wd n:List UInt8)(a:Nat)(ks:List Ex)(h1:wd≠[105,102])(h2:wd≠[108,101,116])(h3:wd≠[108,105,115,116])(h4:wd≠[99,97,108,108])(h5:wd≠[109,97,112]):evX E fns k s (.form wd n a ks)=simR wd (evL (fun k e=>E k s e) k ks):=by
 simp only[evX,if_neg h1,if_neg h2]
 cases evL (fun k e=>E k s e) k ks with
 | none=>rfl
 | some x =>
  simp only[evF,if_neg h3,if_neg h4,if_neg h5]
  rfl
theorem shape2_ne {wd:List UInt8}(h:shapeL wd=some (false,2)):wd≠[105,102]∧wd≠[108,101,116]∧wd≠[108,105,115,116]∧wd≠[99,97,108,108]∧wd≠[109,97,112]:=by
 refine⟨?_,?_,?_,?_,?_⟩<;>(intro e;rw[e] at h;exact absurd h (by decide))
theorem carry_of (hP:ProgOk fns)(IH:RDo mb fns E k0)(good:GoodE E)(w:World)(D:Nat→Prop)(k:Nat)(e:Ex)(x:Value)(s:Env)(y:Value)(hk:k≤k0)(hD:¬ D mb)(hD2:∀g,w.heap.size≤g→D g)(hM:Mach w mb fns k)(hrep:RepE w (·<mb) e x)(hs:SC w D s y)(hx:XPo fns s e):
  Calls prog 111 #[.pointer (some ⟨mb,0,none⟩),x,y] w (crPost D mb fns (evX E fns k s e) w):=by
 obtain⟨o,rfl⟩:=hs.ptr
 have hsf:=hx.fine
 cases e with
 | num b =>
  rw[RepE] at hrep
  obtain⟨sp,rfl⟩:=hrep
  refine (cy_num w _ _ _ _).mono fun e w' ⟨h1,h2⟩=>?_
  subst h1
  exact cr_ok (v:=.num (numVal b)) (k':=k) (by rw[wtV,if_pos (by omega)];rfl) (by rw[wtV];omega) (Touch.of_below h2) (VL_num _ _ _) (hM.below h2)
 | txt b =>
  rw[RepE] at hrep
  obtain⟨sp,bb,rfl,rfl⟩:=hrep
  have hl:=hx.lit
  rw[LitE] at hl
  refine (cy_txt w _ _ _ _).mono fun e w' ⟨h1,h2⟩=>?_
  subst h1
  exact cr_ok (v:=.txt bb.data.toList) (k':=k) (by rw[wtV,if_pos (by omega)];rfl) (by rw[wtV];omega) (Touch.of_below h2) (VL_txt _ _ _) (hM.below h2)
 | var n a =>
  rw[RepE] at hrep
  obtain⟨nb,rfl,rfl⟩:=hrep
  refine (cy_var (D:=D) w _ nb _ o (envOf s nb.data.toList) fun X hX=>scfind_any D s _ nb X (hs.below hX)).mono fun e w' h=>?_
  obtain⟨hb,⟨v,z,h1,h2,h3⟩ | ⟨h1,u,f,hf,h2⟩⟩:=h
  ·subst h2
   have hf:=(hsf.of h1).2
   exact cr_ok (v:=v) (k':=k) (by rw[if_pos hf];show (envOf s nb.data.toList).map _=_;rw[h1];rfl) (by omega) (Touch.of_below hb) h3 (hM.below hb)
  ·subst h2
   exact cr_no (by show (envOf s nb.data.toList).map _=_;rw[h1];rfl) (Touch.of_below hb) hf
 | form wd n a ks =>
  have hwf:=hx.wf
  rw[WfE] at hwf
  have hsz:=hx.sz
  rw[szE] at hsz
  have hkl:=szEs_len ks
  obtain⟨sc,hsc⟩:=hx.sc
  rw[ScE] at hsc
  rw[RepE] at hrep
  obtain⟨sp,vs,hreps,hF⟩:=hrep
  have hvl:=hreps.length
  rcases hF with ⟨rfl,sl,rfl,hrow⟩ | ⟨rfl,nb,sl,hnb,_,rfl,hrow⟩ | ⟨rfl,nb,v0,hnb,_,rfl,rfl⟩ | ⟨rfl,nb,v0,v1,hnb,_,rfl,rfl⟩ | ⟨rfl,v0,v1,v2,rfl,rfl⟩ | ⟨rfl,v0,v1,v2,rfl,rfl⟩ | ⟨rfl,v0,rfl,rfl⟩ | ⟨hsh,ob,v0,v1,hob,rfl,rfl⟩
  ·have hk2:=hx.kid (by decide)
   obtain⟨ad,cap,rfl⟩:=(SegAt.of_row hrow).slice
   rw[evX_list]
   rw[hvl] at hrow ⊢
   exact cy_list w _ ad ks.length cap _ o ks.length k _ (by omega) fun X hX=>all_use IH good w D k ks vs s _ hk hD hD2 hM hreps hs hk2 hsf (by omega) X _ hX ((row_below hrow hX).weaken fun g hg=>by have hg:g<mb:=hg;show g≠mb;omega)
  ·have hk2:=hx.kid (by decide)
   obtain⟨ad,cap,rfl⟩:=(SegAt.of_row hrow).slice
   rw[evX_call]
   rw[hvl] at hrow ⊢
   exact cy_call w _ nb _ ad ks.length cap _ o fun X hX=>callWith_of hP IH good X D k n ks vs _ _ nb ad cap s _ hk hD (fun g hg=>hD2 g (by have:=hX.size;omega)) (hM.below hX) hnb (hsc.1 (Or.inl rfl)) ((hreps.keep fun q _ hlt=>hX.block q hlt).weaken fun q hq=>hq.1) (row_below hrow hX) (hs.below hX) hk2 hsf (by omega)
  ·obtain⟨x0,rfl⟩:∃x0,ks=[x0]:=by
    match ks,hvl with
    | [x0],_=>exact⟨x0,rfl⟩
   have hk2:=hx.kid (by decide)
   have h0:=hreps.at 0 (by simp) (by simp)
   obtain⟨t0,y0,rfl⟩:=h0.iface
   rw[evX_map]
   exact cy_map w _ nb _ t0 y0 _ o fun X hX=>map_of hP IH good X D k n x0 _ _ nb _ s _ hk hD (fun g hg=>hD2 g (by have:=hX.size;omega)) (hM.below hX) hnb (hsc.1 (Or.inr rfl)) (h0.below hX) (hs.below hX) (hk2 x0 (by simp))
  ·obtain⟨x0,x1,rfl⟩:∃x0 x1,ks=[x0,x1]:=by
    match ks,hvl with
    | [x0,x1],_=>exact⟨x0,x1,rfl⟩
   have h0:=hreps.at 0 (by simp) (by simp)
   have h1:=hreps.at 1 (by simp) (by simp)
   obtain⟨t0,y0,rfl⟩:=h0.iface
   obtain⟨t1,y1,rfl⟩:=h1.iface
   have hlet:=hsc.2.1 rfl
   rw[ScLet,ScEs] at hlet
   have hlit:=hx.lit
   rw[LitE,LitEs,LitEs] at hlit
   have hw2:=hwf.2
   rw[WfEs,WfEs] at hw2
   rw[szEs,szEs] at hsz
   rw[evX_let]
   exact cy_let w _ nb _ t0 t1 y0 y1 _ o fun X hX=>let_of IH good X D k n x0 x1 _ _ nb _ _ s _ hk hD (fun g hg=>hD2 g (by have:=hX.size;omega)) (hM.below hX) hnb (h0.below hX) (h1.below hX) (hs.below hX) ⟨hsf,hlit.1,hw2.1,by omega,sc,hlet.1⟩ fun u hu=>⟨hsf.cons hu,hlit.2.1,hw2.2.1,by omega,_,hlet.2.1⟩
  ·obtain⟨x0,x1,x2,rfl⟩:∃x0 x1 x2,ks=[x0,x1,x2]:=by
    match ks,hvl with
    | [x0,x1,x2],_=>exact⟨x0,x1,x2,rfl⟩
   have hk2:=hx.kid (by decide)
   have h0:=hreps.at 0 (by simp) (by simp)
   have h1:=hreps.at 1 (by simp) (by simp)
   have h2:=hreps.at 2 (by simp) (by simp)
   obtain⟨t0,y0,rfl⟩:=h0.iface
   obtain⟨t1,y1,rfl⟩:=h1.iface
   obtain⟨t2,y2,rfl⟩:=h2.iface
   rw[evX_if]
   exact cy_choose w _ t0 t1 t2 y0 y1 y2 _ o fun X hX=>choose_of IH good X D k x0 x1 x2 _ _ _ _ s _ hk hD (fun g hg=>hD2 g (by have:=hX.size;omega)) (hM.below hX) (h0.below hX) (h1.below hX) (h2.below hX) (hs.below hX) (hk2 x0 (by simp)) (hk2 x1 (by simp)) (hk2 x2 (by simp))
  ·obtain⟨x0,x1,x2,rfl⟩:∃x0 x1 x2,ks=[x0,x1,x2]:=by
    match ks,hvl with
    | [x0,x1,x2],_=>exact⟨x0,x1,x2,rfl⟩
   have hk2:=hx.kid (by decide)
   obtain⟨t0,y0,rfl⟩:=(hreps.at 0 (by simp) (by simp)).iface
   obtain⟨t1,y1,rfl⟩:=(hreps.at 1 (by simp) (by simp)).iface
   obtain⟨t2,y2,rfl⟩:=(hreps.at 2 (by simp) (by simp)).iface
   rw[evX_simple _ _ _ _ _ _ (by decide) (by decide) (by decide) (by decide) (by decide)]
   exact cy_set w _ t0 t1 t2 y0 y1 y2 _ o fun X hX=>set_of IH good X D k _ x0 x1 x2 _ _ _ _ s _ hk hD (fun g hg=>hD2 g (by have:=hX.size;omega)) (hM.below hX) ((hreps.keep fun q _ hlt=>hX.block q hlt).weaken fun q hq=>hq.1) (hs.below hX) hk2 hsf
  ·obtain⟨x0,rfl⟩:∃x0,ks=[x0]:=by
    match ks,hvl with
    | [x0],_=>exact⟨x0,rfl⟩
   have hk2:=hx.kid (by decide)
   have h0:=hreps.at 0 (by simp) (by simp)
   obtain⟨t0,y0,rfl⟩:=h0.iface
   rw[evX_simple _ _ _ _ _ _ (by decide) (by decide) (by decide) (by decide) (by decide)]
   exact cy_length w _ t0 y0 _ o fun X hX=>length_of IH good X D k _ x0 _ _ s _ hk hD (fun g hg=>hD2 g (by have:=hX.size;omega)) (hM.below hX) (h0.below hX) (hs.below hX) (hk2 x0 (by simp))
  ·obtain⟨x0,x1,rfl⟩:∃x0 x1,ks=[x0,x1]:=by
    match ks,hvl with
    | [x0,x1],_=>exact⟨x0,x1,rfl⟩
   obtain⟨n1,n2,n3,n4,n5⟩:=shape2_ne hsh
   have hk2:=hx.kid n2
   obtain⟨t0,y0,rfl⟩:=(hreps.at 0 (by simp) (by simp)).iface
   obtain⟨t1,y1,rfl⟩:=(hreps.at 1 (by simp) (by simp)).iface
   rw[evX_simple _ _ _ _ _ _ n1 n2 n3 n4 n5]
   exact cy_binary w _ ob t0 t1 y0 y1 _ o fun X hX=>binary_of IH good X D k _ x0 x1 _ ob _ _ s _ hk hD (fun g hg=>hD2 g (by have:=hX.size;omega)) (hM.below hX) hsh hob ((hreps.keep fun q _ hlt=>hX.block q hlt).weaken fun q hq=>hq.1) (hs.below hX) hk2 hsf
theorem rk_one (hP:ProgOk fns)(good:GoodE E){j:Nat}(IH:RDo mb fns E j)(X:World)(D:Nat→Prop)(e:Ex)(x:Value)(s:Env)(y:Value)(hD:¬ D mb)(hD2:∀g,X.heap.size≤g→D g)(hM:Mach X mb fns (j+1))(hrep:RepE X (·<mb) e x)(hs:SC X D s y)(hx:XPo fns s e):
  Calls prog 76 #[.pointer (some ⟨mb,0,none⟩),x,y] X (rkPost D mb fns (evX E fns j s e) X) :=
 reckon_of D hM x y hrep.place hs.ptr _ fun Y hY hMY=>carry_of hP IH good Y D j e x s y (Nat.le_refl _) hD (fun g hg=>hD2 g (by have:=hY.size;omega)) hMY (hrep.touch hY) (hs.touch hY fun q hq e=>hD (by have e:q=mb:=e;rw[←e];exact hq)) hx
theorem rk_all (hP:ProgOk fns):∀f k,k≤f→RDo mb fns (evE fns f) k
 | 0,k,hk=>fun X D k' e x s y hk' hD hD2 hM hrep hs hx=>by
  have h0:k'=0:=by omega
  subst h0
  exact reckon_steps D hM x y hrep.place hs.ptr
 | f+1,k,hk=>fun X D k' e x s y hk' hD hD2 hM hrep hs hx=>by
  cases k' with
  | zero=>exact reckon_steps D hM x y hrep.place hs.ptr
  | succ j=>exact rk_one hP (evE_good hP.lit f) (rk_all hP f j (by omega)) X D e x s y hD hD2 hM hrep hs hx
end
end Go.Proofs.YtifhgjpglicjbaaGreatDoor
namespace Go.Proofs.YtifhgjpglicjbaaGreatDoor
open Go.Proofs.Tryz
open Go.RowKit Go.Lib
attribute [local go_sem ↓] Go.wp_at_zero Go.wp_at_succ
theorem findF_uniq {n:List UInt8}{k:Nat}:∀{fns:List Fn},UniqF fns→findF fns n k=match fns.find? (fun f=>f.name==n) with | none=>none | some f=>if f.params.length=k then some f else none
 | [],_=>rfl
 | f::r,h=>by
  obtain⟨h1,h2⟩:=List.pairwise_cons.1 h
  have ih:=findF_uniq (n:=n) (k:=k) h2
  unfold findF at ih ⊢
  by_cases hn:f.name=n
  ·have hb:(f.name==n)=true:=by simpa using hn
   simp only[List.find?_cons,hb,Bool.true_and]
   by_cases hk:f.params.length=k
   ·have hb2:(f.params.length==k)=true:=by simpa using hk
    rw[hb2]
    simp[hk]
   ·have hb2:(f.params.length==k)=false:=by simpa using hk
    rw[hb2]
    simp only[if_neg hk]
    rw[List.find?_eq_none]
    intro x hx
    have:=h1 x hx
    rw[hn] at this
    simp[Ne.symm this]
  ·have hb:(f.name==n)=false:=by simpa using hn
   simp only[List.find?_cons,hb,Bool.false_and]
   exact ih
theorem reckP_eq {fns:List Fn}(h:UniqF fns)(n:List UInt8)(vs:List PV):reckP fns n vs=(evCA (evE fns 20000) fns 20000 n vs).map (·.1):=by
 unfold reckP evCA
 rw[findF_uniq h]
 cases fns.find? (fun f=>f.name==n) with
 | none=>rfl
 | some f =>
  simp only
  by_cases hk:f.params.length=vs.length
  ·rw[if_pos hk,if_pos hk]
  ·rw[if_neg hk,if_neg hk]
   rfl
set_option maxRecDepth 8000 in
theorem named_D {fns:List Fn}(hP:ProgOk fns)(hU:UniqF fns)(w:World)(D D0:Nat→Prop)(nm:ByteArray)(vs:List PV)(cs:List Value)(sl:Value)(ad:Option Addr)(n cap:Nat)(hprog:ProgAt w D (.slice ad n cap) fns)(hG:FltG w)(hm:15≤w.heap.size)
  (hseg:SegAt w D0 74 1 sl vs.length cs) (hvs:VLs w D0 vs cs) (hf:∀v∈vs,Fine v) (hl:vs.length≤100000000) (hD0:∀g,w.heap.size≤g→D0 g) :
  Calls prog 28 #[.agg #[.slice ad n cap],.string nm,sl] w (vePost D0 w (reckP fns nm.data.toList vs)):=by
 obtain⟨R,hR⟩:∃R,R=reckP fns nm.data.toList vs:=⟨_,rfl⟩
 rw[←hR]
 have CC:Hid (∀(Z:World) (mb:Nat),Below w.heap.size w Z→w.heap.size≤mb→Z.heap[mb]?=some (.cells #[.slice ad n cap,.int .i64 0] 127)→Calls prog 54 #[.pointer (some ⟨mb,0,none⟩),.string nm,sl] Z fun e w'=>(∃u f,e=.returned (.tuple #[u,f]))∧vePost D0 w R e w'):=fun Z mb hZ hmb hblk=>by
  have hlt:=block_lt hblk
  have hMZ:Mach Z mb fns 20000:=⟨⟨ad,n,cap,0,hblk,by omega,(hprog.keep fun q _ hq=>hZ.block q hq).weaken fun q hq=>by have:=hq.2;show q<mb;omega⟩,Nat.le_refl _,hG.below hZ,by omega⟩
  have hsZ:SegAt Z (fun q=>D0 q∧q≠mb) 74 1 sl vs.length cs:=(hseg.keep fun q _ hq=>hZ.block q hq).weaken fun q hq=>by have:=hq.2;exact⟨hq.1,by omega⟩
  have hvZ:VLs Z (fun q=>D0 q∧q≠mb) vs cs:=hvs.map fun _ _ _ g=>(g.keep fun q _ hq=>hZ.block q hq).weaken fun q hq=>by have:=hq.2;exact⟨hq.1,by omega⟩
  refine (call_of hP (rk_all (mb:=mb) hP 20000 20000 (Nat.le_refl _)) Z (fun q=>D0 q∧q≠mb) 20000 nm vs cs sl (Nat.le_refl _) (fun h=>h.2 rfl) (fun g hg=>⟨hD0 g (by have:=hZ.size;omega),by omega⟩) hMZ hsZ hvZ hf hl).mono fun e w' h=>⟨rk_tup h,?_⟩
  obtain⟨ht,h2⟩:=h
  have hb:Below w.heap.size w w':=Touch.fresh hZ ht fun q hq=>by show ¬ q=mb;omega
  rcases h2 with ⟨v,x,k',ho,he,hv,_⟩ | ⟨ho,u,f,hff,he⟩
  ·exact⟨hb,Or.inl ⟨v,x,by rw[hR,reckP_eq hU,ho];rfl,he,hv.weaken fun _ hk=>hk.1⟩⟩
  ·exact⟨hb,Or.inr ⟨by rw[hR,reckP_eq hU,ho];rfl,u,f,hff,he⟩⟩
 obtain⟨sad,scap,rfl⟩:=hseg.slice
 clear hseg hvs hprog hG hR hf
 go_enter func28,ntmps28
 go_wp2_with (go_at_call 54;go_loud (refine (CC.out _ _ (by first | exact below1 w _ | exact (below1 w _).alloc (by simp) _) (by simp) (by first | exact blk2 _ _ _ | exact heap_alloc_new _ _)).mono ?_;rintro e w1 ⟨⟨u1,f1,rfl⟩,hr1⟩))
 go_ret2
 exact hr1
theorem named_any {fns:List Fn}(hP:ProgOk fns)(hU:UniqF fns)(w:World)(D D0:Nat→Prop)(nm:ByteArray)(vs:List PV)(cs:List Value)(sl:Value)(ad:Option Addr)(n cap:Nat)(hprog:ProgAt w D (.slice ad n cap) fns)(hG:FltG w)(hm:15≤w.heap.size)
  (hseg:SegAt w D0 74 1 sl vs.length cs) (hvs:VLs w D0 vs cs) (hf:∀v∈vs,Fine v) (hl:vs.length≤100000000) :
  Calls prog 28 #[.agg #[.slice ad n cap],.string nm,sl] w (vePost (fun _=>True) w (reckP fns nm.data.toList vs)) :=
 named_D hP hU w D (fun _=>True) nm vs cs sl ad n cap hprog hG hm (hseg.weaken fun _ _=>trivial) (hvs.weaken fun _ _=>trivial) hf hl fun _ _=>trivial
end Go.Proofs.YtifhgjpglicjbaaGreatDoor
namespace Go.Proofs.YtifhgjpglicjbaaGreatDoor
open Go.Proofs.Tryz
open Go.Lib
inductive Ln where
 | txt (s:List UInt8)
 | el (tag:List UInt8) (ats:List (List UInt8×List UInt8)) (hs:List Hd) (ks:List Ln)
 | ky (tag:List UInt8) (ats:List (List UInt8×List UInt8)) (hs:List Hd) (keys:List (List UInt8)) (ks:List Ln)
 | tg (f:List UInt8) (n:Ln)
 | lz (f:List UInt8) (args:List PV) (n:Ln)
 | old (n:An)
def againA (f:List UInt8)(args:List PV):Option An→Option An
 | some (.lz b g as0 n)=>if g=f∧sameVs as0 args=true then some (.lz b g as0 n) else none
 | _=>none
abbrev LkS:=Nat→Nat→PV→Option An→Option (Ln×Nat×Nat)
def lookL (S:LkS)(k:Kd)(o:Option An):Nat→Nat→Nat→List PV→Option (List Ln×Nat×Nat)
 | _,c,z,[]=>some ([],c,z)
 | i,c,z,v::r=>match S c z v (oppA k o i) with
  | none=>none
  | some (n,c1,z1)=>match lookL S k o (i+1) c1 z1 r with
   | none=>none
   | some (ns,c2,z2)=>some (n::ns,c2,z2)
def lookE (S:LkS)(c z:Nat)(o:Option An)(l:List PV):Option (Ln×Nat×Nat) :=
 match elOf l with
 | none=>none
 | some (t,ats,hs,ks)=>match lookL S (.el t) o 0 c z ks with
  | none=>none
  | some (ns,c',z')=>some (.el t ats hs ns,c',z')
def lookK (S:LkS)(c z:Nat)(o:Option An)(l:List PV):Option (Ln×Nat×Nat) :=
 match elOf l with
 | none=>none
 | some (t,ats,hs,ps)=>match pairL [] [] ps with
  | none=>none
  | some (keys,ks)=>match lookL S (.ky t keys) o 0 c z ks with
   | none=>none
   | some (ns,c',z')=>some (.ky t ats hs keys ns,c',z')
def lookT (fns:List Fn)(S:LkS)(c z:Nat)(o:Option An)(l:List PV):Option (Ln×Nat×Nat) :=
 match headV l with
 | some (f,[v])=>if (findF fns f 1).isSome then match S c z v (oppA .tg o 0) with
   | none=>none
   | some (n,c',z')=>some (.tg f n,c',z')
  else none
 | _=>none
def lookN (fns:List Fn)(S:LkS)(c z:Nat)(o:Option An)(f:List UInt8)(args:List PV):Option (Ln×Nat×Nat) :=
 match reckP fns f args with
 | none=>none
 | some v=>match S c (z+1) v (oppA .lz o 0) with
  | none=>none
  | some (n,c',z')=>some (.lz f args n,c',z')
def lookZ (fns:List Fn)(S:LkS)(c z:Nat)(o:Option An)(l:List PV):Option (Ln×Nat×Nat) :=
 match headV l with
 | none=>none
 | some (f,args)=>if (findF fns f args.length).isSome then match againA f args o with
   | some n=>if 100<c+(sizeA n-1) then none else some (.old n,c+(sizeA n-1),z)
   | none=>lookN fns S c z o f args
  else none
def lookX (fns:List Fn)(S:LkS)(c z:Nat)(o:Option An)(l:List PV):Option (Ln×Nat×Nat) :=
 match headV l with
 | none=>none
 | some (w,r) =>
  if w=[101,108] then lookE S c z o r
  else if w=[107,101,121,101,100] then lookK S c z o r
  else if w=[116,97,103] then lookT fns S c z o r
  else if w=[108,97,122,121] then lookZ fns S c z o r
  else none
def lookA (fns:List Fn):Nat→LkS
 | 0,_,_,_,_=>none
 | f+1,c,z,v,o=>if 100≤c then none else match v with
  | .num i=>some (.txt (itoa i),c+1,z)
  | .txt b=>some (.txt b,c+1,z)
  | .lst l=>lookX fns (lookA fns f) (c+1) z o l
mutual
def Made:Ln→An→List Nat→Prop
 | .txt s,n,F=>∃b,n=.txt b mk0 s∧F=[b]
 | .el t ats hs ks,n,F=>∃b ns G,n=.el b mk0 t ats hs ns∧F=b::G∧MadeL ks ns G
 | .ky t ats hs keys ks,n,F=>∃b ns G,n=.ky b mk0 t ats hs keys ns∧F=b::G∧MadeL ks ns G
 | .tg f k,n,F=>∃b m G,n=.tg b f m∧F=b::G∧Made k m G
 | .lz f args k,n,F=>∃b m G,n=.lz b f args m∧F=b::G∧Made k m G
 | .old a,n,F=>n=a∧F=[]
def MadeL:List Ln→List An→List Nat→Prop
 | [],ns,F=>ns=[]∧F=[]
 | k::r,ns,F=>∃m ms F1 F2,ns=m::ms∧F=F1++F2∧Made k m F1∧MadeL r ms F2
end
theorem MadeL.snoc {k:Ln}{m:An}{F2:List Nat}(hk:Made k m F2):∀{l:List Ln} {ns:List An} {F:List Nat},MadeL l ns F→MadeL (l++[k]) (ns++[m]) (F++F2)
 | [],ns,F,h=>by
  rw[MadeL] at h
  obtain⟨rfl,rfl⟩:=h
  simp only[List.nil_append]
  rw[MadeL]
  exact⟨m,[],F2,[],rfl,by simp,hk,by rw[MadeL];exact⟨rfl,rfl⟩⟩
 | a::r,ns,F,h=>by
  rw[MadeL] at h
  obtain⟨x,xs,G1,G2,rfl,rfl,h1,h2⟩:=h
  simp only[List.cons_append]
  rw[MadeL]
  exact⟨x,xs++[m],G1,G2++F2,rfl,by simp,h1,MadeL.snoc hk h2⟩
theorem MadeL.length:∀{l:List Ln} {ns:List An} {F:List Nat},MadeL l ns F→ns.length=l.length
 | [],ns,F,h=>by rw[MadeL] at h;rw[h.1];rfl
 | a::r,ns,F,h=>by
  rw[MadeL] at h
  obtain⟨x,xs,G1,G2,rfl,rfl,h1,h2⟩:=h
  simp[h2.length]
mutual
def sizeLn:Ln→Nat
 | .txt _=>1
 | .el _ _ _ ks=>1+sizeLs ks
 | .ky _ _ _ _ ks=>1+sizeLs ks
 | .tg _ n=>1+sizeLn n
 | .lz _ _ n=>1+sizeLn n
 | .old n=>sizeA n
def sizeLs:List Ln→Nat
 | []=>0
 | n::r=>sizeLn n+sizeLs r
end
def GoodS (S:LkS):Prop:=∀c z v o n c' z',S c z v o=some (n,c',z')→c'=c+sizeLn n∧c'≤100∧z'+c≤z+c'
theorem lookL_good {S:LkS}(hS:GoodS S){k:Kd}{o:Option An}:∀{l:List PV} {i c z:Nat} {ns:List Ln} {c' z':Nat},c≤100→lookL S k o i c z l=some (ns,c',z')→c'=c+sizeLs ns∧c'≤100∧ns.length=l.length∧z'+c≤z+c'
 | [],i,c,z,ns,c',z',hc,h=>by
  rw[lookL] at h
  cases h
  exact⟨by simp[sizeLs],hc,rfl,by omega⟩
 | v::r,i,c,z,ns,c',z',hc,h=>by
  rw[lookL] at h
  cases e:S c z v (oppA k o i) with
  | none=>rw[e] at h;cases h
  | some x =>
   obtain⟨n,c1,z1⟩:=x
   rw[e] at h
   simp only at h
   cases e2:lookL S k o (i+1) c1 z1 r with
   | none=>rw[e2] at h;cases h
   | some y =>
    obtain⟨ns2,c2,z2⟩:=y
    rw[e2] at h
    simp only[Option.some.injEq,Prod.mk.injEq] at h
    obtain⟨rfl,rfl,rfl⟩:=h
    have h1:=hS _ _ _ _ _ _ _ e
    have h2:=lookL_good hS h1.2.1 e2
    refine⟨by rw[sizeLs];omega,h2.2.1,by simp[h2.2.2.1],by omega⟩
theorem lookA_good (fns:List Fn):∀f,GoodS (lookA fns f)
 | 0=>fun c z v o n c' z' h=>by simp[lookA] at h
 | f+1=>fun c z v o n c' z' h=>by
  have ih:=lookA_good fns f
  simp only[lookA] at h
  split at h
  ·cases h
  ·rename_i hc
   cases v with
   | num i =>
    simp only[Option.some.injEq,Prod.mk.injEq] at h
    obtain⟨rfl,rfl,rfl⟩:=h
    exact⟨by simp[sizeLn],by omega,by omega⟩
   | txt i =>
    simp only[Option.some.injEq,Prod.mk.injEq] at h
    obtain⟨rfl,rfl,rfl⟩:=h
    exact⟨by simp[sizeLn],by omega,by omega⟩
   | lst l =>
    simp only at h
    unfold lookX at h
    split at h
    ·cases h
    ·split at h
     ·unfold lookE at h
      split at h
      ·cases h
      ·split at h
       ·cases h
       ·rename_i e
        simp only[Option.some.injEq,Prod.mk.injEq] at h
        obtain⟨rfl,rfl,rfl⟩:=h
        have:=lookL_good ih (by omega) e
        exact⟨by rw[sizeLn];omega,this.2.1,by omega⟩
     ·split at h
      ·unfold lookK at h
       split at h
       ·cases h
       ·split at h
        ·cases h
        ·split at h
         ·cases h
         ·rename_i e
          simp only[Option.some.injEq,Prod.mk.injEq] at h
          obtain⟨rfl,rfl,rfl⟩:=h
          have:=lookL_good ih (by omega) e
          exact⟨by rw[sizeLn];omega,this.2.1,by omega⟩
      ·split at h
       ·unfold lookT at h
        split at h
        ·split at h
         ·split at h
          ·cases h
          ·rename_i e
           simp only[Option.some.injEq,Prod.mk.injEq] at h
           obtain⟨rfl,rfl,rfl⟩:=h
           have:=ih _ _ _ _ _ _ _ e
           exact⟨by rw[sizeLn];omega,this.2.1,by omega⟩
         ·cases h
        ·cases h
       ·split at h
        ·unfold lookZ at h
         split at h
         ·cases h
         ·split at h
          ·split at h
           ·split at h
            ·cases h
            ·simp only[Option.some.injEq,Prod.mk.injEq] at h
             obtain⟨rfl,rfl,rfl⟩:=h
             rename_i m _ _
             have:=sizeA_pos m
             exact⟨by rw[sizeLn];omega,by omega,by omega⟩
           ·unfold lookN at h
            split at h
            ·cases h
            ·split at h
             ·cases h
             ·rename_i e
              simp only[Option.some.injEq,Prod.mk.injEq] at h
              obtain⟨rfl,rfl,rfl⟩:=h
              have:=ih _ _ _ _ _ _ _ e
              exact⟨by rw[sizeLn];omega,this.2.1,by omega⟩
          ·cases h
        ·cases h
mutual
theorem Made.size:∀{k:Ln} {n:An} {F:List Nat},Made k n F→sizeA n=sizeLn k
 | .txt s,n,F,h=>by rw[Made] at h;obtain⟨b,rfl,rfl⟩:=h;simp[sizeA,sizeLn]
 | .el t ats hs ks,n,F,h=>by rw[Made] at h;obtain⟨b,ns,G,rfl,rfl,h⟩:=h;simp[sizeA,sizeLn,h.size]
 | .ky t ats hs keys ks,n,F,h=>by rw[Made] at h;obtain⟨b,ns,G,rfl,rfl,h⟩:=h;simp[sizeA,sizeLn,h.size]
 | .tg f k,n,F,h=>by rw[Made] at h;obtain⟨b,ns,G,rfl,rfl,h⟩:=h;simp[sizeA,sizeLn,h.size]
 | .lz f args k,n,F,h=>by rw[Made] at h;obtain⟨b,ns,G,rfl,rfl,h⟩:=h;simp[sizeA,sizeLn,h.size]
 | .old a,n,F,h=>by rw[Made] at h;obtain⟨rfl,rfl⟩:=h;simp[sizeLn]
theorem MadeL.size:∀{l:List Ln} {ns:List An} {F:List Nat},MadeL l ns F→sizeL ns=sizeLs l
 | [],ns,F,h=>by rw[MadeL] at h;rw[h.1];simp[sizeL,sizeLs]
 | a::r,ns,F,h=>by
  rw[MadeL] at h
  obtain⟨x,xs,G1,G2,rfl,rfl,h1,h2⟩:=h
  simp[sizeL,sizeLs,h1.size,h2.size]
end
mutual
def WfA:An→Prop
 | .txt _ _ _=>True
 | .el _ _ _ _ _ ks=>WfL ks
 | .ky _ _ _ _ _ keys ks=>keys.length=ks.length∧keys.Nodup∧WfL ks
 | .tg _ _ n=>WfA n
 | .lz _ _ args n=>(args.length≤600∧∀v∈args,Fine v)∧WfA n
def WfL:List An→Prop
 | []=>True
 | n::r=>WfA n∧WfL r
end
theorem WfL.at:∀{l:List An},WfL l→∀{i:Nat} {n:An},l[i]?=some n→WfA n
 | [],_,i,n,h=>by simp at h
 | a::r,hw,0,n,h=>by rw[WfL] at hw;simp at h;rw[←h];exact hw.1
 | a::r,hw,i+1,n,h=>by rw[WfL] at hw;exact WfL.at hw.2 (by simpa using h)
def OldOk (lb:Nat)(o:Option An):Prop:=∀n,o=some n→WfA n∧sizeA n≤100∧∀b∈blocksA n,b<lb
theorem sizeL_at:∀{l:List An} {i:Nat} {n:An},l[i]?=some n→sizeA n≤sizeL l∧∀b∈blocksA n,b∈blocksL l
 | [],i,n,h=>by simp at h
 | a::r,0,n,h=>by simp at h;rw[←h,sizeL,blocksL];exact⟨by omega,fun b hb=>by simp[hb]⟩
 | a::r,i+1,n,h=>by
  have:=sizeL_at (l:=r) (i:=i) (by simpa using h)
  rw[sizeL,blocksL]
  exact⟨by omega,fun b hb=>by simp[this.2 b hb]⟩
theorem OldOk.opp {lb:Nat}{o:Option An}(h:OldOk lb o)(k:Kd)(i:Nat):OldOk lb (oppA k o i):=by
 intro n hn
 unfold oppA at hn
 split at hn
 ·rename_i b m u ats hs ks
  split at hn
  ·have:=h _ rfl
   rw[WfA,sizeA,blocksA] at this
   have hz:=sizeL_at hn
   exact⟨this.1.at hn,by omega,fun b hb=>this.2.2 b (by simp[hz.2 b hb])⟩
  ·cases hn
 ·rename_i b m u ats hs keys' ks
  split at hn
  ·have:=h _ rfl
   rw[WfA,sizeA,blocksA] at this
   obtain⟨q,_,hn⟩:=Option.bind_eq_some_iff.1 hn
   obtain⟨j,_,hn⟩:=Option.bind_eq_some_iff.1 hn
   have hz:=sizeL_at hn
   exact⟨this.1.2.2.at hn,by omega,fun b hb=>this.2.2 b (by simp[hz.2 b hb])⟩
  ·cases hn
 ·have:=h _ rfl
  rw[WfA,sizeA,blocksA] at this
  cases hn
  exact⟨this.1,by omega,fun b hb=>this.2.2 b (by simp[hb])⟩
 ·have:=h _ rfl
  rw[WfA,sizeA,blocksA] at this
  cases hn
  exact⟨this.1.2,by omega,fun b hb=>this.2.2 b (by simp[hb])⟩
 ·cases hn
theorem OldOk.bo {lb:Nat}{o:Option An}(h:OldOk lb o):BO o:=by
 unfold BO
 cases o with
 | none=>simp[kidsO,keysA]
 | some n =>
  have:=h _ rfl
  have h1:=sizeA_kids n
  have h2:=sizeL_len (kidsO (some n))
  refine⟨by omega,?_⟩
  cases n with
  | ky b m t ats hs keys ks =>
   rw[WfA] at this
   simp[keysA,kidsO] at *
   omega
  | _=>simp[keysA]
end Go.Proofs.YtifhgjpglicjbaaGreatDoor
