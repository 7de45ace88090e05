/- The library's strconv.ParseInt and FormatInt at base 10, laid over this translation by hand; what the laws keep of the listed variables. -/
import Derived.Shelf.Strconv.ParseIntPublic10
import Derived.Shelf.Strconv.Itoa4
import Derived.Lib.LaidTab
import Derived.Lib.SmallJoins
import Derived.Lib.AtoiErrMem
import Derived.Test.YtkacnnhdfkpenaaGreatDoorSj10
set_option maxRecDepth 100000
set_option maxHeartbeats 4000000
namespace Go.Proofs.YtkacnnhdfkpenaaGreatDoor
open Go.Shelf Go.RowKit Go.Sort
def pIntRen:Go.Shelf.Ren:=⟨fun|129=>366|171=>359|174=>345|205=>358|243=>364|245=>339|246=>355|247=>356|279=>351|280=>352|281=>353|282=>354|283=>360|284=>361|285=>362|286=>363|287=>338|316=>357|317=>365|318=>367|319=>368|320=>369|321=>349|322=>350|337=>370|338=>371|n=>n,fun|0=>0|2=>2|3=>3|4=>4|5=>5|9=>9|20=>20|21=>21|37=>116|46=>159|51=>274|53=>309|75=>121|80=>126|85=>319|127=>191|143=>335|145=>337|167=>322|168=>324|171=>330|173=>333|175=>310|210=>328|212=>339|213=>340|232=>343|233=>344|n=>n,fun|15=>2|16=>3|17=>4|18=>5|19=>6|n=>n⟩
theorem pIntLays0:Go.Proofs.Lays.n174 Tryz.prog pIntRen:={
 mixed:=by kernel_rfl
 f129:=Tryz.func366.trans (congrArg some (by kernel_rfl))
 f171:=Tryz.func359.trans (congrArg some (by kernel_rfl))
 f174:=Tryz.func345.trans (congrArg some (by kernel_rfl))
 f205:=Tryz.func358.trans (congrArg some (by kernel_rfl))
 f243:=Tryz.func364.trans (congrArg some (by kernel_rfl))
 f245:=Tryz.func339.trans (congrArg some (by kernel_rfl))
 f246:=Tryz.func355.trans (congrArg some (by kernel_rfl))
 f247:=Tryz.func356.trans (congrArg some (by kernel_rfl))
 f279:=Tryz.func351.trans (congrArg some (by kernel_rfl))
 f280:=Tryz.func352.trans (congrArg some (by kernel_rfl))
 f281:=Tryz.func353.trans (congrArg some (by kernel_rfl))
 f282:=Tryz.func354.trans (congrArg some (by kernel_rfl))
 f283:=Tryz.func360.trans (congrArg some (by kernel_rfl))
 f284:=Tryz.func361.trans (congrArg some (by kernel_rfl))
 f285:=Tryz.func362.trans (congrArg some (by kernel_rfl))
 f286:=Tryz.func363.trans (congrArg some (by kernel_rfl))
 f287:=Tryz.func338.trans (congrArg some (by kernel_rfl))
 f316:=Tryz.func357.trans (congrArg some (by kernel_rfl))
 f317:=Tryz.func365.trans (congrArg some (by kernel_rfl))
 f318:=Tryz.func367.trans (congrArg some (by kernel_rfl))
 f319:=Tryz.func368.trans (congrArg some (by kernel_rfl))
 f320:=Tryz.func369.trans (congrArg some (by kernel_rfl))
 f321:=Tryz.func349.trans (congrArg some (by kernel_rfl))
 f322:=Tryz.func350.trans (congrArg some (by kernel_rfl))
 f337:=Tryz.func370.trans (congrArg some (by kernel_rfl))
 f338:=Tryz.func371.trans (congrArg some (by kernel_rfl))
 t0:=Tryz.underlying0
 a0:=Tryz.isAgg0
 z0:=Tryz.sizeOf0
 v0:=Tryz.zeroValue0
 t2:=Tryz.underlying2
 a2:=Tryz.isAgg2
 z2:=Tryz.sizeOf2
 v2:=Tryz.zeroValue2
 t3:=Tryz.underlying3
 a3:=Tryz.isAgg3
 z3:=Tryz.sizeOf3
 v3:=Tryz.zeroValue3
 t4:=Tryz.underlying4
 a4:=Tryz.isAgg4
 z4:=Tryz.sizeOf4
 v4:=Tryz.zeroValue4
 t5:=Tryz.underlying5
 a5:=Tryz.isAgg5
 z5:=Tryz.sizeOf5
 v5:=Tryz.zeroValue5
 t9:=Tryz.underlying9
 a9:=Tryz.isAgg9
 z9:=Tryz.sizeOf9
 v9:=Tryz.zeroValue9
 t20:=Tryz.underlying20
 a20:=Tryz.isAgg20
 z20:=Tryz.sizeOf20
 v20:=Tryz.zeroValue20
 t21:=Tryz.underlying21
 a21:=Tryz.isAgg21
 z21:=Tryz.sizeOf21
 v21:=Tryz.zeroValue21
 t37:=Tryz.underlying116
 a37:=Tryz.isAgg116
 z37:=Tryz.sizeOf116
 v37:=Tryz.zeroValue116
 t46:=Tryz.underlying159
 a46:=Tryz.isAgg159
 z46:=Tryz.sizeOf159
 v46:=Tryz.zeroValue159
 t51:=Tryz.underlying274
 a51:=Tryz.isAgg274
 z51:=Tryz.sizeOf274
 v51:=Tryz.zeroValue274
 t53:=Tryz.underlying309
 a53:=Tryz.isAgg309
 z53:=Tryz.sizeOf309
 v53:=Tryz.zeroValue309
 t75:=Tryz.underlying121
 a75:=Tryz.isAgg121
 z75:=Tryz.sizeOf121
 v75:=Tryz.zeroValue121
 t85:=Tryz.underlying319
 a85:=Tryz.isAgg319
 z85:=Tryz.sizeOf319
 v85:=Tryz.zeroValue319
 t127:=Tryz.underlying191
 a127:=Tryz.isAgg191
 z127:=Tryz.sizeOf191
 v127:=Tryz.zeroValue191
 t143:=Tryz.underlying335
 a143:=Tryz.isAgg335
 z143:=Tryz.sizeOf335
 v143:=Tryz.zeroValue335
 t145:=Tryz.underlying337
 a145:=Tryz.isAgg337
 z145:=Tryz.sizeOf337
 v145:=Tryz.zeroValue337
 t167:=Tryz.underlying322
 a167:=Tryz.isAgg322
 z167:=Tryz.sizeOf322
 v167:=Tryz.zeroValue322
 t168:=Tryz.underlying324
 a168:=Tryz.isAgg324
 z168:=Tryz.sizeOf324
 v168:=Tryz.zeroValue324
 t171:=Tryz.underlying330
 a171:=Tryz.isAgg330
 z171:=Tryz.sizeOf330
 v171:=Tryz.zeroValue330
 t173:=Tryz.underlying333
 a173:=Tryz.isAgg333
 z173:=Tryz.sizeOf333
 v173:=Tryz.zeroValue333
 t175:=Tryz.underlying310
 a175:=Tryz.isAgg310
 z175:=Tryz.sizeOf310
 v175:=Tryz.zeroValue310
 t210:=Tryz.underlying328
 a210:=Tryz.isAgg328
 z210:=Tryz.sizeOf328
 v210:=Tryz.zeroValue328
 t212:=Tryz.underlying339
 a212:=Tryz.isAgg339
 z212:=Tryz.sizeOf339
 v212:=Tryz.zeroValue339
 t213:=Tryz.underlying340
 a213:=Tryz.isAgg340
 z213:=Tryz.sizeOf340
 t232:=Tryz.underlying343
 a232:=Tryz.isAgg343
 z232:=Tryz.sizeOf343
 v232:=Tryz.zeroValue343
 t233:=Tryz.underlying344
 a233:=Tryz.isAgg344
 z233:=Tryz.sizeOf344
 v233:=Tryz.zeroValue344
 g15:=by kernel_rfl
 g16:=by kernel_rfl
 g17:=by kernel_rfl
 g18:=by kernel_rfl
 g19:=by kernel_rfl }
theorem pIntLays1:Go.Proofs.LaysM.n174 Tryz.prog pIntRen:={ pIntLays0 with
 t80:=Tryz.underlying126
 a80:=Tryz.isAgg126
 z80:=Tryz.sizeOf126
 v80:=Tryz.zeroValue126
 i0:=by kernel_rfl
 i2:=by kernel_rfl
 i3:=by kernel_rfl
 i4:=by kernel_rfl
 i5:=by kernel_rfl
 i9:=by kernel_rfl
 i20:=by kernel_rfl
 i21:=by kernel_rfl
 i37:=by kernel_rfl
 i46:=by kernel_rfl
 i51:=by kernel_rfl
 i53:=by kernel_rfl
 i75:=by kernel_rfl
 i80:=by kernel_rfl
 i85:=by kernel_rfl
 i127:=by kernel_rfl
 i143:=by kernel_rfl
 i145:=by kernel_rfl
 i167:=by kernel_rfl
 i168:=by kernel_rfl
 i171:=by kernel_rfl
 i173:=by kernel_rfl
 i175:=by kernel_rfl
 i210:=by kernel_rfl
 i212:=by kernel_rfl
 i232:=by kernel_rfl
 i233:=by kernel_rfl
 m15:=by kernel_rfl
 m16:=by kernel_rfl
 m17:=by kernel_rfl
 m18:=by kernel_rfl
 m19:=by kernel_rfl }
theorem pIntLays:Go.Proofs.LaysC.n174 Tryz.prog pIntRen:={ pIntLays1 with
 c0:=by kernel_rfl
 c2:=by kernel_rfl
 c3:=by kernel_rfl
 c4:=by kernel_rfl
 c5:=by kernel_rfl
 c9:=by kernel_rfl
 c20:=by kernel_rfl
 c21:=by kernel_rfl
 c37:=by kernel_rfl
 c46:=by kernel_rfl
 c51:=by kernel_rfl
 c53:=by kernel_rfl
 c75:=by kernel_rfl
 c80:=by kernel_rfl
 c85:=by kernel_rfl
 c127:=by kernel_rfl
 c143:=by kernel_rfl
 c145:=by kernel_rfl
 c167:=by kernel_rfl
 c168:=by kernel_rfl
 c171:=by kernel_rfl
 c173:=by kernel_rfl
 c175:=by kernel_rfl
 c210:=by kernel_rfl
 c212:=by kernel_rfl
 c213:=by kernel_rfl
 c232:=by kernel_rfl
 c233:=by kernel_rfl }
def Laid5 (w : World) : Prop := TabAt w ∧ (∃ te pe, w.cell? ⟨3, 0, none⟩ = some (.iface te pe)) ∧ Lib.TabIs Tryz.prog w "internal/strconv.uint64pow10" .u64 Lib.pow10Tab
theorem gPow : Tryz.prog.globalNamed "internal/strconv.uint64pow10" = some 4 := by kernel_rfl
theorem lt_cell {w:World} {b o:Nat} {v:Value} (h:w.cell? ⟨b,o,none⟩=some v):b < w.heap.size:=World.block_lt_of_cell? w _ h
theorem Laid5.below {w w':World} (h:Laid5 w) (hb:Below w.heap.size w w'):Laid5 w':=by
 obtain ⟨ht,⟨te,pe,hc⟩,hp⟩:=h
 exact ⟨ht.below hb ht.lt,⟨te,pe,(hb.cell (p:=⟨3,0,none⟩) (lt_cell hc)).trans hc⟩,Go.Joins.var_stays gPow hp hb (Nat.le_refl _)⟩
def K5 (w wx:World):Prop:=Laid5 wx∧Below w.heap.size w wx
theorem K5.next {w wx wy:World} (h:K5 w wx) (hb:Below wx.heap.size wx wy):K5 w wy:=⟨h.1.below hb,h.2.trans (hb.mono h.2.size)⟩
theorem K5.alloc {w wx:World} (h:K5 w wx) (o:Obj):K5 w (wx.alloc o):=h.next ((Below.refl _ _).alloc (Nat.le_refl _) o)
theorem parseInt_yes (s:ByteArray) (hs:s.size≤1100000) (hk:kindL s.data.toList=3) (hf:fits64 (intN s.data.toList)=true) (w:World) :
   Calls Tryz.prog 345 #[.string s,.int .i64 10,.int .i64 64] w fun e w'=>e=.returned (.tuple #[.int .i64 (intN s.data.toList),.nilIface])∧Below w.heap.size w w':=by
 have hp:=parse_int hk
 rw [if_pos hf] at hp
 refine (Any.strconv_ParseInt_10_at64_ok pIntLays s (by omega) _ hp w).mono ?_
 rintro e w' ⟨he,h|⟨t,h⟩⟩
 · subst h;exact ⟨he,Below.refl _ _⟩
 · subst h;exact ⟨he,Lib.bytesWorld_below _ _ _⟩
theorem parseInt_no (s:ByteArray) (hs:s.size≤1100000) (hk:kindL s.data.toList=3) (hf:fits64 (intN s.data.toList)=false) (w:World) (hw:Laid5 w) :
  Calls Tryz.prog 345 #[.string s,.int .i64 10,.int .i64 64] w fun e w'=>(∃ z N,e=.returned (.tuple #[.int .i64 z,.iface 324 (.pointer (some ⟨N,0,none⟩))]))∧Below w.heap.size w w':=by
 have hp:=parse_int hk
 rw [if_neg (by rw [hf];simp)] at hp
 obtain ⟨_,⟨te,pe,hc⟩,_⟩:=hw
 refine (Any.strconv_ParseInt_10_at64_range pIntLays s (by omega) hp (.iface te pe) w hc (Or.inr ⟨te,pe,rfl⟩)).mono ?_
 rintro e w' ⟨N,he,_,_,hb⟩
 exact ⟨⟨_,N,he⟩,hb⟩
open Go.RowKit
theorem vnumber_any (s:ByteArray) (w:World) (hs:s.size≤1100000) (hw:Laid5 w):Calls Tryz.prog 334 #[.string s] w fun e w'=>e=.returned (.bool (numB s.data.toList))∧Below w.heap.size w w':=by
 have hN:=vnumberf_any s w hs
 by_cases h4:kindL s.data.toList=4
 · have hr:Hid (numB s.data.toList=true):=Hd (by unfold numB;rw [h4];rfl)
   rw [h4] at hN
   have HN:=Hd hN
   clear hN h4
   go_enter Tryz.func334,Tryz.ntmps334
   go_wp2_with fail
   refine HN.out.mono ?_
   rintro e w1 ⟨rfl,hb⟩
   have HB:=Hd hb
   clear hb
   go_wp2_with fail
   go_ret
   exact ⟨ret_bool hr.out.symm,HB.out⟩
 · by_cases h3:kindL s.data.toList=3
   · cases hf:fits64 (intN s.data.toList) with
     | true =>
       have hr:Hid (numB s.data.toList=false):=Hd (by unfold numB;rw [h3,hf];rfl)
       have HP:=fun wx=>Hd (parseInt_yes s hs h3 hf wx)
       rw [h3] at hN
       have HN:=Hd hN
       clear hN h3 h4 hf
       go_enter Tryz.func334,Tryz.ntmps334
       go_wp2_with fail
       refine HN.out.mono ?_
       rintro e w1 ⟨rfl,hb⟩
       have HB:=Hd hb
       clear hb
       go_wp2_with fail
       refine (HP _).out.mono ?_
       rintro e w2 ⟨rfl,hb⟩
       have HB2:=Hd (HB.out.trans (hb.mono HB.out.size))
       clear hb
       go_wp2_with fail
       go_ret
       exact ⟨ret_bool hr.out.symm,HB2.out⟩
     | false =>
       have hr:Hid (numB s.data.toList=true):=Hd (by unfold numB;rw [h3,hf];rfl)
       have HP:=fun wx (hx:Laid5 wx)=>Hd (parseInt_no s hs h3 hf wx hx)
       rw [h3] at hN
       have HN:=Hd hN
       have HW:=Hd hw
       clear hN h3 h4 hf hw
       go_enter Tryz.func334,Tryz.ntmps334
       go_wp2_with fail
       refine HN.out.mono ?_
       rintro e w1 ⟨rfl,hb⟩
       have HB:=Hd hb
       clear hb
       go_wp2_with fail
       refine (HP _ (HW.out.below HB.out)).out.mono ?_
       rintro e w2 ⟨⟨z,N,rfl⟩,hb⟩
       have HB2:=Hd (HB.out.trans (hb.mono HB.out.size))
       clear hb
       go_wp2_with fail
       go_ret
       exact ⟨ret_bool hr.out.symm,HB2.out⟩
   · have hr:Hid (numB s.data.toList=false):=Hd (by unfold numB;simp [h3,h4])
     obtain ⟨k,hk⟩:∃ k,kindL s.data.toList=k:=⟨_,rfl⟩
     rw [hk] at hN h3 h4
     have g4:(k == 4)=false:=by simpa using h4
     have g3:(k == 3)=false:=by simpa using h3
     have HN:=Hd hN
     clear hN h3 h4 hk
     go_enter Tryz.func334,Tryz.ntmps334
     go_wp2_with fail
     refine HN.out.mono ?_
     rintro e w1 ⟨rfl,hb⟩
     have HB:=Hd hb
     clear hb
     go_wp2_with fail
     go_ret
     exact ⟨ret_bool hr.out.symm,HB.out⟩
theorem enum_said {s:ByteArray} {b0 b1 b2 b3:Bool} (h0:nameB s.data.toList=b0) (h1:(s.toList == [110,117,108,108])=b1) (h2:(s.toList == [116,114,117,101])=b2) (h3:(s.toList == [102,97,108,115,101])=b3) :
  enumB s.data.toList=(b0 && !b1 && !b2 && !b3):=by
 rw [Lib.toList_data] at h1 h2 h3
 unfold enumB
 rw [h0,← h1,← h2,← h3]
 rfl
theorem venum_any (s:ByteArray) (w:World) (hs:s.size≤1100000):Calls Tryz.prog 335 #[.string s] w fun e w'=>e=.returned (.bool (enumB s.data.toList))∧Below w.heap.size w w':=by
 have hN:=fun wx=>name_any s wx hs
 obtain ⟨b0,h0⟩:∃ b,nameB s.data.toList=b:=⟨_,rfl⟩
 obtain ⟨b1,h1⟩:∃ b,(s.toList == [110,117,108,108])=b:=⟨_,rfl⟩
 obtain ⟨b2,h2⟩:∃ b,(s.toList == [116,114,117,101])=b:=⟨_,rfl⟩
 obtain ⟨b3,h3⟩:∃ b,(s.toList == [102,97,108,115,101])=b:=⟨_,rfl⟩
 have hr:=Hd (enum_said h0 h1 h2 h3)
 rw [h0] at hN
 have HN:=fun wx=>Hd (hN wx)
 clear hN h0
 cases b0<;>cases b1<;>cases b2<;>cases b3
 all_goals
  go_enter Tryz.func335,Tryz.ntmps335
  go_wp2_with (go_at_call 95;refine (HN _).out.mono ?_;rintro e w1 ⟨rfl,rfl⟩)
  go_ret
  exact ⟨ret_bool (by rw [hr.out];rfl),Below.refl _ _⟩
def flatV (k n:Int) (s:ByteArray):Value:=.agg #[.int .i64 k,.int .i64 n,.string s,.slice none 0 0,.slice none 0 0]
def wordR (s:ByteArray):Int × Int × ByteArray:=
 if s.data.toList=nullL then (0,0,⟨#[]⟩) else if s.data.toList=trueL then (1,1,⟨#[]⟩) else if s.data.toList=falseL then (1,0,⟨#[]⟩) else (5,0,s)
def singleR (t:Tok):Option (Int × Int × ByteArray):=
 if t.1=2 then some (wordR t.2)
 else if t.1=3 then (if fits64 (intN t.2.data.toList)=true then some (2,intN t.2.data.toList,⟨#[]⟩) else some (3,0,t.2))
 else if t.1=4 then some (3,0,t.2) else if t.1=5 then some (4,0,t.2) else none
theorem eq_list {s:ByteArray} {l:List UInt8} {b:Bool} (h:(s.toList == l)=b):(s.data.toList=l) ↔ b=true:=by
 rw [Lib.toList_data] at h
 rw [← h];simp
theorem wordV_any (s:ByteArray) (w:World):Calls Tryz.prog 344 #[.string s] w fun e w'=>e=.returned (flatV (wordR s).1 (wordR s).2.1 (wordR s).2.2)∧Below w.heap.size w w':=by
 obtain ⟨b1,h1⟩:∃ b,(s.toList == [110,117,108,108])=b:=⟨_,rfl⟩
 obtain ⟨b2,h2⟩:∃ b,(s.toList == [116,114,117,101])=b:=⟨_,rfl⟩
 obtain ⟨b3,h3⟩:∃ b,(s.toList == [102,97,108,115,101])=b:=⟨_,rfl⟩
 have hw:wordR s=if b1=true then (0,0,⟨#[]⟩) else if b2=true then (1,1,⟨#[]⟩) else if b3=true then (1,0,⟨#[]⟩) else (5,0,s):=by
   unfold wordR
   simp only [show (s.data.toList=nullL)=(b1=true) from propext (eq_list h1),show (s.data.toList=trueL)=(b2=true) from propext (eq_list h2),show (s.data.toList=falseL)=(b3=true) from propext (eq_list h3)]
 rw [hw]
 clear hw
 cases b1 with
 | true =>
   go_enter Tryz.func344,Tryz.ntmps344
   go_wp2_with fail
   exact ret_v1 rfl rfl rfl (heap_alloc_last _ _) ⟨rfl,(Below.refl _ _).alloc (Nat.le_refl _) _⟩
 | false =>
 cases b2 with
 | true =>
   go_enter Tryz.func344,Tryz.ntmps344
   go_wp2_with fail
   exact ret_v1 rfl rfl rfl (heap_alloc_last _ _) ⟨rfl,(Below.refl _ _).alloc (Nat.le_refl _) _⟩
 | false =>
 cases b3 with
 | true =>
   go_enter Tryz.func344,Tryz.ntmps344
   go_wp2_with fail
   exact ret_v1 rfl rfl rfl (heap_alloc_last _ _) ⟨rfl,(Below.refl _ _).alloc (Nat.le_refl _) _⟩
 | false =>
   go_enter Tryz.func344,Tryz.ntmps344
   go_wp2_with fail
   exact ret_v1 rfl rfl rfl (heap_alloc_last _ _) ⟨rfl,(Below.refl _ _).alloc (Nat.le_refl _) _⟩
theorem tok_box (w:World) (a b:Value) (o:Obj):((w.alloc (.cells #[a,b] 52)).alloc o).heap[w.heap.size]? = some (.cells #[a,b] 52 (0,0))∧((w.alloc (.cells #[a,b] 52)).alloc o).heap[w.heap.size+1]? = some o∧Below w.heap.size w ((w.alloc (.cells #[a,b] 52)).alloc o):=by
 refine ⟨(Below.heap_alloc _ _ _ (by simp)).trans (heap_alloc_new _ _),?_,((Below.refl _ _).alloc (Nat.le_refl _) _).alloc (by simp) _⟩
 have h2:=heap_alloc_new (w.alloc (.cells #[a,b] 52)) o
 have e:(w.alloc (.cells #[a,b] 52)).heap.size=w.heap.size+1:=by simp
 rwa [e] at h2
theorem five_low {w w2:World} {b:Nat} (h:Below w.heap.size w w2) (hb:w.heap.size≤b) (x0 x1 x2 x3 x4:Value):Below w.heap.size w (((((w2.setCell ⟨b,0,none⟩ x0).setCell ⟨b,1,none⟩ x1).setCell ⟨b,2,none⟩ x2).setCell ⟨b,3,none⟩ x3).setCell ⟨b,4,none⟩ x4):=
 ((((h.setCell hb _).setCell hb _).setCell hb _).setCell hb _).setCell hb _
theorem single_any (t:Tok) (w:World) (hs:t.2.size≤9000) (hk:t.1=3→kindL t.2.data.toList=3) (hw:Laid5 w):Calls Tryz.prog 330 #[.agg #[.int .i64 t.1,.string t.2]] w fun e w'=>match singleR t with
   | some (k,n,s)=>e=.returned (flatV k n s)∧Below w.heap.size w w'
   | none=>e=PanicE 2∧Below w.heap.size w w':=by
 obtain ⟨tk,s⟩:=t
 simp only at hs hk ⊢
 obtain ⟨y0,y1,yb⟩:=tok_box w (.int .i64 tk) (.string s) (.cells #[.int .i64 0,.int .i64 0,.string ⟨#[]⟩,.slice none 0 0,.slice none 0 0] 78)
 have Y:=Hd (And.intro y0 (And.intro y1 yb))
 have hsz:Hid (((w.alloc (.cells #[.int .i64 tk,.string s] 52)).alloc (.cells #[.int .i64 0,.int .i64 0,.string ⟨#[]⟩,.slice none 0 0,.slice none 0 0] 78)).heap.size=w.heap.size+2):=Hd (by simp)
 clear y0 y1 yb
 by_cases h2:tk=2
 · subst h2
   have hr:singleR (2,s)=some (wordR s):=by unfold singleR;rw [if_pos rfl]
   rw [hr]
   have HW:=fun wx=>Hd (wordV_any s wx)
   obtain ⟨⟨k,n,x⟩,hx⟩:∃ p,wordR s=p:=⟨_,rfl⟩
   rw [hx] at HW ⊢
   show Calls _ _ _ _ fun e w'=>e=.returned (flatV k n x)∧Below w.heap.size w w'
   unfold flatV at HW ⊢
   clear hr hx hk
   go_enter Tryz.func330,Tryz.ntmps330
   go_wp2_with fail
   refine (HW _).out.mono ?_
   rintro e w2 ⟨rfl,hb⟩
   have z1:=(hb.block (w.heap.size+1) (by have:=hsz.out;omega)).trans Y.out.2.1
   have Z:=Hd (And.intro z1 (Y.out.2.2.trans (hb.mono (by have:=hsz.out;omega))))
   obtain ⟨g0,g1,g2,g3,g4,gz⟩:=gvc z1
   have z0':=gz 0
   have z1':=gz 1
   have z2':=gz 2
   have z3':=gz 3
   have z4':=gz 4
   clear hb z1 HW gz
   go_wp2_with fail
   exact ret_v1 rfl rfl rfl (five_set Z.out.1) ⟨rfl,five_low Z.out.2 (Nat.le_succ _) _ _ _ _ _⟩
 · have e2:(tk == 2)=false:=by simpa using h2
   by_cases h3:tk=3
   · subst h3
     have hk3:=hk rfl
     cases hf:fits64 (intN s.data.toList) with
     | true =>
       have hr:singleR (3,s)=some (2,intN s.data.toList,⟨#[]⟩):=by unfold singleR;rw [if_neg (by simp),if_pos rfl,if_pos hf]
       rw [hr]
       have HP:=fun wx=>Hd (parseInt_yes s (by omega) hk3 hf wx)
       generalize intN s.data.toList=z at *
       have HI:=fun wx=>Hd (pint_any z wx)
       show Calls _ _ _ _ fun e w'=>e=.returned (flatV 2 z ⟨#[]⟩)∧Below w.heap.size w w'
       unfold flatV
       clear hr hk hk3 hf h2
       obtain ⟨q0,q1,_,_⟩:=two_box Y.out.1
       go_enter Tryz.func330,Tryz.ntmps330
       go_wp2_with fail
       refine (HP _).out.mono ?_
       rintro e w2 ⟨rfl,hb⟩
       clear q0 q1
       have z0:=(hb.block w.heap.size (by have:=hsz.out;omega)).trans Y.out.1
       have z1:=(hb.block (w.heap.size+1) (by have:=hsz.out;omega)).trans Y.out.2.1
       have Z:=Hd (And.intro z1 (Y.out.2.2.trans (hb.mono (by have:=hsz.out;omega))))
       have hlt2:w.heap.size+2≤w2.heap.size:=by have:=hb.size;have:=hsz.out;omega
       obtain ⟨q0,q1,_,_⟩:=two_box z0
       obtain ⟨g0,g1,g2,g3,g4,gz⟩:=gvc z1
       have z0':=gz 0
       have z1':=gz 1
       have z2':=gz 2
       have z3':=gz 3
       have z4':=gz 4
       clear hb z0 z1 gz
       go_wp2_with fail
       refine (HI _).out.mono ?_
       rintro e w3 ⟨rfl,hb3⟩
       have z1:=(hb3.block (w.heap.size+1) (by omega)).trans Z.out.1
       have Z3:=Hd (And.intro z1 (Z.out.2.trans (hb3.mono (by omega))))
       clear q0 q1 g0 g1 g2 g3 g4 z0' z1' z2' z3' z4'
       obtain ⟨g0,g1,g2,g3,g4,gz⟩:=gvc z1
       have z0':=gz 0
       have z1':=gz 1
       have z2':=gz 2
       have z3':=gz 3
       have z4':=gz 4
       clear hb3 z1 gz
       go_wp2_with fail
       exact ret_v1 rfl rfl rfl (five_set Z3.out.1) ⟨rfl,five_low Z3.out.2 (Nat.le_succ _) _ _ _ _ _⟩
     | false =>
       have hr:singleR (3,s)=some (3,0,s):=by unfold singleR;rw [if_neg (by simp),if_pos rfl,if_neg (by rw [hf];simp)]
       rw [hr]
       have HP:=fun wx (hx:Laid5 wx)=>Hd (parseInt_no s (by omega) hk3 hf wx hx)
       have HW:=Hd (hw.below Y.out.2.2)
       show Calls _ _ _ _ fun e w'=>e=.returned (flatV 3 0 s)∧Below w.heap.size w w'
       unfold flatV
       clear hr hk hk3 hf h2
       obtain ⟨q0,q1,_,_⟩:=two_box Y.out.1
       go_enter Tryz.func330,Tryz.ntmps330
       go_wp2_with fail
       refine (HP _ HW.out).out.mono ?_
       rintro e w2 ⟨⟨z,N,rfl⟩,hb⟩
       clear q0 q1
       have z0:=(hb.block w.heap.size (by have:=hsz.out;omega)).trans Y.out.1
       have z1:=(hb.block (w.heap.size+1) (by have:=hsz.out;omega)).trans Y.out.2.1
       have Z:=Hd (And.intro z1 (Y.out.2.2.trans (hb.mono (by have:=hsz.out;omega))))
       have hlt2:w.heap.size+2≤w2.heap.size:=by have:=hb.size;have:=hsz.out;omega
       obtain ⟨q0,q1,_,_⟩:=two_box z0
       obtain ⟨g0,g1,g2,g3,g4,gz⟩:=gvc z1
       have z0':=gz 0
       have z1':=gz 1
       have z2':=gz 2
       have z3':=gz 3
       have z4':=gz 4
       clear hb z0 z1 gz
       go_wp2_with fail
       exact ret_v1 rfl rfl rfl (five_set Z.out.1) ⟨rfl,five_low Z.out.2 (Nat.le_succ _) _ _ _ _ _⟩
   · have e3:(tk == 3)=false:=by simpa using h3
     by_cases h4:tk=4
     · subst h4
       have hr:singleR (4,s)=some (3,0,s):=by unfold singleR;rw [if_neg (by simp),if_neg (by simp),if_pos rfl]
       rw [hr]
       show Calls _ _ _ _ fun e w'=>e=.returned (flatV 3 0 s)∧Below w.heap.size w w'
       unfold flatV
       clear hr hk h2 h3
       go_enter Tryz.func330,Tryz.ntmps330
       go_wp2_with fail
       exact ret_v1 rfl rfl rfl (tok_box w _ _ _).2.1 ⟨rfl,(tok_box w _ _ _).2.2⟩
     · have e4:(tk == 4)=false:=by simpa using h4
       by_cases h5:tk=5
       · subst h5
         have hr:singleR (5,s)=some (4,0,s):=by unfold singleR;rw [if_neg (by simp),if_neg (by simp),if_neg (by simp),if_pos rfl]
         rw [hr]
         have HI:=fun wx=>Hd (ptext_any s wx)
         show Calls _ _ _ _ fun e w'=>e=.returned (flatV 4 0 s)∧Below w.heap.size w w'
         unfold flatV
         clear hr hk h2 h3 h4
         go_enter Tryz.func330,Tryz.ntmps330
         go_wp2_with fail
         refine (HI _).out.mono ?_
         rintro e w2 ⟨rfl,hb⟩
         have z0:=(hb.block w.heap.size (by have:=hsz.out;omega)).trans Y.out.1
         have z1:=(hb.block (w.heap.size+1) (by have:=hsz.out;omega)).trans Y.out.2.1
         have Z:=Hd (And.intro z1 (Y.out.2.2.trans (hb.mono (by have:=hsz.out;omega))))
         have hlt2:w.heap.size+2≤w2.heap.size:=by have:=hb.size;have:=hsz.out;omega
         obtain ⟨q0,q1,_,_⟩:=two_box z0
         obtain ⟨g0,g1,g2,g3,g4,gz⟩:=gvc z1
         have z0':=gz 0
         have z1':=gz 1
         have z2':=gz 2
         have z3':=gz 3
         have z4':=gz 4
         clear hb z0 z1 gz
         go_wp2_with fail
         exact ret_v1 rfl rfl rfl (five_set Z.out.1) ⟨rfl,five_low Z.out.2 (Nat.le_succ _) _ _ _ _ _⟩
       · have e5:(tk == 5)=false:=by simpa using h5
         have hr:singleR (tk,s)=none:=by unfold singleR;rw [if_neg h2,if_neg h3,if_neg h4,if_neg h5]
         rw [hr]
         show Calls _ _ _ _ fun e w'=>e=PanicE 2∧Below w.heap.size w w'
         clear hr hk h2 h3 h4 h5
         go_enter Tryz.func330,Tryz.ntmps330
         go_wp2_with fail
         exact ⟨rfl,rfl,Y.out.2.2⟩
end Go.Proofs.YtkacnnhdfkpenaaGreatDoor
