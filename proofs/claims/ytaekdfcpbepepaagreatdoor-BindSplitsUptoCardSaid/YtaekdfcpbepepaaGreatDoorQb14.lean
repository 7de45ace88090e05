/- Plain facts of tokens that the laws need: units that are written one behind the other, numbers, texts of plain bytes. -/
import Derived.Shelf.Strings.BuilderK
import Derived.Shelf.Strings.BuilderRune
import Derived.Shelf.Strings.Prefix
import Derived.Shelf.Small.Wraps
import Derived.Shelf.Small.Strs
import Derived.Test.YtaekdfcpbepepaaGreatDoorQb13
import Derived.Shelf.Strconv.ParseIntPublic10
import Derived.Shelf.Strconv.Itoa4
import Derived.Lib.LaidTab
import Derived.Lib.SmallJoins
import Derived.Lib.AtoiErrMem
set_option maxRecDepth 100000
set_option maxHeartbeats 4000000
namespace Go.Proofs.YtaekdfcpbepepaaGreatDoor
open Go.Shelf Go.RowKit
open Go.Shelf Go.RowKit
def hasPRen:Go.Shelf.Ren:=⟨fun|99=>146|206=>168|n=>n,fun|3=>3|4=>4|5=>5|9=>9|n=>n,fun  | n=>n⟩
theorem hasPLays:Go.Proofs.Lays.n99 Tryz.prog hasPRen:={
 mixed:=by kernel_rfl
 f99:=Tryz.func146.trans (congrArg some (by kernel_rfl))
 f206:=Tryz.func168.trans (congrArg some (by kernel_rfl))
 t3:=Tryz.underlying3
 a3:=Tryz.isAgg3
 z3:=Tryz.sizeOf3
 v3:=Tryz.zeroValue3
 t4:=Tryz.underlying4
 a4:=Tryz.isAgg4
 z4:=Tryz.sizeOf4
 v4:=Tryz.zeroValue4
 t9:=Tryz.underlying9
 a9:=Tryz.isAgg9
 z9:=Tryz.sizeOf9
 v9:=Tryz.zeroValue9 }
theorem hasPrefix_any (s p:ByteArray) (w:World):Calls Tryz.prog 146 #[.string s,.string p] w fun e w'=>e=.returned (.bool (Lib.hasPrefix s.data.toList p.data.toList))∧w'=w:=Any.strings_HasPrefix hasPLays s p w
def trimPRen:Go.Shelf.Ren:=⟨fun|101=>251|206=>168|208=>262|n=>n,fun|3=>3|4=>4|5=>5|9=>9|n=>n,fun  | n=>n⟩
theorem trimPLays:Go.Proofs.Lays.n101 Tryz.prog trimPRen:={
 mixed:=by kernel_rfl
 f101:=Tryz.func251.trans (congrArg some (by kernel_rfl))
 f206:=Tryz.func168.trans (congrArg some (by kernel_rfl))
 f208:=Tryz.func262.trans (congrArg some (by kernel_rfl))
 t3:=Tryz.underlying3
 a3:=Tryz.isAgg3
 z3:=Tryz.sizeOf3
 v3:=Tryz.zeroValue3
 t4:=Tryz.underlying4
 a4:=Tryz.isAgg4
 z4:=Tryz.sizeOf4
 v4:=Tryz.zeroValue4
 t9:=Tryz.underlying9
 a9:=Tryz.isAgg9
 z9:=Tryz.sizeOf9
 v9:=Tryz.zeroValue9 }
theorem trimPrefix_any (s p:ByteArray) (w:World):Calls Tryz.prog 251 #[.string s,.string p] w fun e w'=>e=.returned (.string ⟨(Lib.trimPrefix s.data.toList p.data.toList).toArray⟩)∧w'=w:=Any.strings_TrimPrefix trimPLays s p w
open Go.RowKit
def IntsAtJ (w:World) (B:Nat) (A:Option Addr) (n:Nat) (zs:List Int):Prop:=
 zs.length=n∧∀ (j:Nat) z,zs[j]? = some z→∃ b o,A=some ⟨b,o,none⟩∧b < B∧w.cell? ⟨b,o+j,none⟩=some (.int .i64 z)
theorem IntsAtJ.below {w w':World} {B:Nat} {A:Option Addr} {n:Nat} {zs:List Int} (h:IntsAtJ w B A n zs) (hb:Below B w w'):IntsAtJ w' B A n zs:=
 ⟨h.1,fun j z hz=>by
  obtain ⟨b,o,e,hlt,hc⟩:=h.2 j z hz
  exact ⟨b,o,e,hlt,(hb.cell (p:=⟨b,o+j,none⟩) hlt).trans hc⟩⟩
theorem IntsAtJ.more {w:World} {B B':Nat} {A:Option Addr} {n:Nat} {zs:List Int} (h:IntsAtJ w B A n zs) (hB:B≤B'):IntsAtJ w B' A n zs:=
 ⟨h.1,fun j z hz=>by
  obtain ⟨b,o,e,hlt,hc⟩:=h.2 j z hz
  exact ⟨b,o,e,by omega,hc⟩⟩
def joinS (zs:List Int):ByteArray:=match joinL zs with|some l=>⟨l.toArray⟩|none=>⟨#[]⟩
def joinOk (zs:List Int):Bool:=(joinL zs).isSome
def JoinTo (zs:List Int) (k:Nat) (done:List UInt8):Prop:=(pairUp (zs.drop k)).map (fun cs=>done++bytesOf cs)=joinL zs
theorem drop_cons {zs:List Int} {k:Nat} {z:Int} (h:zs[k]? = some z):zs.drop k=z :: zs.drop (k+1):=by
 obtain ⟨hlt,rfl⟩:=List.getElem?_eq_some_iff.1 h
 exact List.drop_eq_getElem_cons hlt
theorem JoinTo.one {zs:List Int} {k:Nat} {done:List UInt8} {z:Int} (h:JoinTo zs k done) (hz:zs[k]? = some z) (h0 : ¬ z < 0) (h1 : ¬ 65536≤z) (h2:halfB z=false):JoinTo zs (k+1) (done++Lib.encodeRune z):=by
 unfold JoinTo at *
 rw [drop_cons hz,pairUp_one h0 h1 h2,Option.map_map] at h
 rw [← h]
 congr 1
 funext cs
 simp [bytesOf,List.append_assoc]
theorem JoinTo.done {zs:List Int} {k:Nat} {done:List UInt8} (h:JoinTo zs k done) (hk:zs.length≤k):joinS zs=⟨done.toArray⟩∧joinOk zs=true:=by
 unfold JoinTo at h
 rw [List.drop_eq_nil_of_le hk] at h
 simp [pairUp,bytesOf] at h
 simp [joinS,joinOk,← h]
theorem len_data (s:ByteArray):s.data.toList.length=s.size:=Array.length_toList
theorem ext_size (s:ByteArray) (k:Nat):(s.extract k s.size).size=s.size - k:=by simp
theorem ext_data (s:ByteArray) (k:Nat):(s.extract k s.size).data.toList=s.data.toList.drop k:=by
 simp [ByteArray.data_extract,Array.toList_extract,List.extract]
 rw [← len_data s]
 simp
 exact List.take_of_length_le (by simp)
theorem ext_take (s:ByteArray) (n:Nat):(s.extract 0 n).data.toList=s.data.toList.take n:=by
 simp [ByteArray.data_extract,Array.toList_extract,List.extract]
theorem drop_at (s:ByteArray) (k:Nat) (h:k < s.size):s.data.toList.drop k=s[k] :: s.data.toList.drop (k+1):=by
 have hl:k < s.data.toList.length:=by rw [len_data];exact h
 rw [List.drop_eq_getElem_cons hl]
 rfl
theorem cons_at (s:ByteArray) (h:0 < s.size):s.data.toList=s[0] :: s.data.toList.drop 1:=by
 have:=drop_at s 0 h
 rwa [List.drop_zero] at this
theorem drop_all (s:ByteArray) (k:Nat) (h:s.size≤k):s.data.toList.drop k=[]:=List.drop_eq_nil_of_le (by rw [len_data];exact h)
theorem nil_of_size {s:ByteArray} (h:s.size=0):s.data.toList=[]:=List.eq_nil_of_length_eq_zero (by rw [len_data];exact h)
theorem empty_yes {s:ByteArray} (h:s.size=0):s.toList.isEmpty=true:=by
 rw [Lib.toList_data,nil_of_size h];rfl
theorem empty_no {s:ByteArray} (h:0 < s.size):s.toList.isEmpty=false:=by
 rw [Lib.toList_data,cons_at s h];rfl
theorem size_mk (l:List UInt8):(⟨l.toArray⟩:ByteArray).size=l.length:=by
 show l.toArray.size=_
 simp
theorem mk_of {s:ByteArray} {l:List UInt8} (h:s.data.toList=l):(⟨l.toArray⟩:ByteArray)=s:=by subst h;simp
def headB (p:UInt8→Bool):List UInt8→Bool
 | []=>false
 | b :: _=>p b
theorem ret_b {a b:Bool} {w:World} (h:a=b):Ending.returned (.bool a)=.returned (.bool b)∧w=w:=⟨by rw [h],rfl⟩
theorem ret_i {a b:Int} (h:a=b):Ending.returned (.int .i64 a)=.returned (.int .i64 b):=by rw [h]
theorem digU_and (b:UInt8):digU b=(decide ((48:Int)≤(b.toNat:Int)) && decide ((b.toNat:Int)≤(57:Int))):=by unfold digU digB;rw [Bool.decide_and]
theorem tdigit_any (s:ByteArray) (w:World):Calls Tryz.prog 255 #[.string s] w fun e w'=>e=.returned (.bool (headB digU s.data.toList))∧w=w':=by
 rcases Nat.eq_zero_or_pos s.size with h0|h0
 · have hr:headB digU s.data.toList=false:=by rw [nil_of_size h0];rfl
   have he:=empty_yes h0
   rw [hr]
   clear hr
   go_enter Tryz.func255,Tryz.ntmps255
   go_wp2
   go_ret
   exact ⟨rfl,rfl⟩
 · have hr:headB digU s.data.toList=digU s[0]:=by rw [cons_at s h0];rfl
   have he:=empty_no h0
   rw [hr]
   have HD:Hid (digU s[0]=(decide ((48:Int)≤(s[0].toNat:Int)) && decide ((s[0].toNat:Int)≤(57:Int)))):=Hd (digU_and _)
   clear hr
   by_cases c1:(48:Int)≤(s[0].toNat:Int)
   · by_cases c2:(s[0].toNat:Int)≤(57:Int)
     · go_enter Tryz.func255,Tryz.ntmps255
       go_wp2
       go_ret
       exact ret_b (by rw [HD.out];simp [c1,c2])
     · go_enter Tryz.func255,Tryz.ntmps255
       go_wp2
       go_ret
       exact ret_b (by rw [HD.out];simp [c1,c2])
   · go_enter Tryz.func255,Tryz.ntmps255
     go_wp2
     go_ret
     exact ret_b (by rw [HD.out];simp;omega)
theorem tletter_any (s:ByteArray) (w:World):Calls Tryz.prog 256 #[.string s] w fun e w'=>e=.returned (.bool (headB letU s.data.toList))∧w=w':=by
 rcases Nat.eq_zero_or_pos s.size with h0|h0
 · have hr:headB letU s.data.toList=false:=by rw [nil_of_size h0];rfl
   have he:=empty_yes h0
   rw [hr]
   clear hr
   go_enter Tryz.func256,Tryz.ntmps256
   go_wp2
   go_ret
   exact ⟨rfl,rfl⟩
 · have hr:nameB (s.extract 0 1).data.toList=headB letU s.data.toList:=by rw [ext_take,cons_at s h0];simp [headB,nameB,tailB,letU]
   have he:=empty_no h0
   have h1:1≤s.size:=h0
   have hN:=name_any (s.extract 0 1) w (by simp;omega)
   rw [hr] at hN
   have HN:=Hd hN
   clear hr hN
   go_enter Tryz.func256,Tryz.ntmps256
   go_wp2_with fail
   refine HN.out.mono ?_
   rintro e w1 ⟨rfl,rfl⟩
   go_wp2_with fail
   go_ret
   exact ⟨rfl,rfl⟩
open Go.Shelf Go.RowKit Go.Sort
def pIntRen:Go.Shelf.Ren:=⟨fun|129=>275|171=>267|174=>239|205=>266|243=>268|245=>248|246=>269|247=>247|279=>258|280=>259|281=>260|282=>261|283=>270|284=>271|285=>272|286=>273|287=>257|316=>265|317=>274|318=>276|319=>277|320=>278|321=>263|322=>264|337=>279|338=>280|n=>n,fun|0=>0|2=>2|3=>3|4=>4|5=>5|9=>9|20=>20|21=>21|37=>242|46=>30|51=>260|53=>235|75=>220|80=>266|85=>221|127=>247|143=>248|145=>250|167=>234|168=>238|171=>252|173=>255|175=>236|210=>244|212=>259|213=>261|232=>264|233=>265|n=>n,fun|15=>1|16=>2|17=>3|18=>4|19=>5|n=>n⟩
theorem pIntLays0:Go.Proofs.Lays.n174 Tryz.prog pIntRen:={
 mixed:=by kernel_rfl
 f129:=Tryz.func275.trans (congrArg some (by kernel_rfl))
 f171:=Tryz.func267.trans (congrArg some (by kernel_rfl))
 f174:=Tryz.func239.trans (congrArg some (by kernel_rfl))
 f205:=Tryz.func266.trans (congrArg some (by kernel_rfl))
 f243:=Tryz.func268.trans (congrArg some (by kernel_rfl))
 f245:=Tryz.func248.trans (congrArg some (by kernel_rfl))
 f246:=Tryz.func269.trans (congrArg some (by kernel_rfl))
 f247:=Tryz.func247.trans (congrArg some (by kernel_rfl))
 f279:=Tryz.func258.trans (congrArg some (by kernel_rfl))
 f280:=Tryz.func259.trans (congrArg some (by kernel_rfl))
 f281:=Tryz.func260.trans (congrArg some (by kernel_rfl))
 f282:=Tryz.func261.trans (congrArg some (by kernel_rfl))
 f283:=Tryz.func270.trans (congrArg some (by kernel_rfl))
 f284:=Tryz.func271.trans (congrArg some (by kernel_rfl))
 f285:=Tryz.func272.trans (congrArg some (by kernel_rfl))
 f286:=Tryz.func273.trans (congrArg some (by kernel_rfl))
 f287:=Tryz.func257.trans (congrArg some (by kernel_rfl))
 f316:=Tryz.func265.trans (congrArg some (by kernel_rfl))
 f317:=Tryz.func274.trans (congrArg some (by kernel_rfl))
 f318:=Tryz.func276.trans (congrArg some (by kernel_rfl))
 f319:=Tryz.func277.trans (congrArg some (by kernel_rfl))
 f320:=Tryz.func278.trans (congrArg some (by kernel_rfl))
 f321:=Tryz.func263.trans (congrArg some (by kernel_rfl))
 f322:=Tryz.func264.trans (congrArg some (by kernel_rfl))
 f337:=Tryz.func279.trans (congrArg some (by kernel_rfl))
 f338:=Tryz.func280.trans (congrArg some (by kernel_rfl))
 t0:=Tryz.underlying0
 a0:=Tryz.isAgg0
 z0:=Tryz.sizeOf0
 v0:=Tryz.zeroValue0
 t2:=Tryz.underlying2
 a2:=Tryz.isAgg2
 z2:=Tryz.sizeOf2
 v2:=Tryz.zeroValue2
 t3:=Tryz.underlying3
 a3:=Tryz.isAgg3
 z3:=Tryz.sizeOf3
 v3:=Tryz.zeroValue3
 t4:=Tryz.underlying4
 a4:=Tryz.isAgg4
 z4:=Tryz.sizeOf4
 v4:=Tryz.zeroValue4
 t5:=Tryz.underlying5
 a5:=Tryz.isAgg5
 z5:=Tryz.sizeOf5
 v5:=Tryz.zeroValue5
 t9:=Tryz.underlying9
 a9:=Tryz.isAgg9
 z9:=Tryz.sizeOf9
 v9:=Tryz.zeroValue9
 t20:=Tryz.underlying20
 a20:=Tryz.isAgg20
 z20:=Tryz.sizeOf20
 v20:=Tryz.zeroValue20
 t21:=Tryz.underlying21
 a21:=Tryz.isAgg21
 z21:=Tryz.sizeOf21
 v21:=Tryz.zeroValue21
 t37:=Tryz.underlying242
 a37:=Tryz.isAgg242
 z37:=Tryz.sizeOf242
 v37:=Tryz.zeroValue242
 t46:=Tryz.underlying30
 a46:=Tryz.isAgg30
 z46:=Tryz.sizeOf30
 v46:=Tryz.zeroValue30
 t51:=Tryz.underlying260
 a51:=Tryz.isAgg260
 z51:=Tryz.sizeOf260
 v51:=Tryz.zeroValue260
 t53:=Tryz.underlying235
 a53:=Tryz.isAgg235
 z53:=Tryz.sizeOf235
 v53:=Tryz.zeroValue235
 t75:=Tryz.underlying220
 a75:=Tryz.isAgg220
 z75:=Tryz.sizeOf220
 v75:=Tryz.zeroValue220
 t85:=Tryz.underlying221
 a85:=Tryz.isAgg221
 z85:=Tryz.sizeOf221
 v85:=Tryz.zeroValue221
 t127:=Tryz.underlying247
 a127:=Tryz.isAgg247
 z127:=Tryz.sizeOf247
 v127:=Tryz.zeroValue247
 t143:=Tryz.underlying248
 a143:=Tryz.isAgg248
 z143:=Tryz.sizeOf248
 v143:=Tryz.zeroValue248
 t145:=Tryz.underlying250
 a145:=Tryz.isAgg250
 z145:=Tryz.sizeOf250
 v145:=Tryz.zeroValue250
 t167:=Tryz.underlying234
 a167:=Tryz.isAgg234
 z167:=Tryz.sizeOf234
 v167:=Tryz.zeroValue234
 t168:=Tryz.underlying238
 a168:=Tryz.isAgg238
 z168:=Tryz.sizeOf238
 v168:=Tryz.zeroValue238
 t171:=Tryz.underlying252
 a171:=Tryz.isAgg252
 z171:=Tryz.sizeOf252
 v171:=Tryz.zeroValue252
 t173:=Tryz.underlying255
 a173:=Tryz.isAgg255
 z173:=Tryz.sizeOf255
 v173:=Tryz.zeroValue255
 t175:=Tryz.underlying236
 a175:=Tryz.isAgg236
 z175:=Tryz.sizeOf236
 v175:=Tryz.zeroValue236
 t210:=Tryz.underlying244
 a210:=Tryz.isAgg244
 z210:=Tryz.sizeOf244
 v210:=Tryz.zeroValue244
 t212:=Tryz.underlying259
 a212:=Tryz.isAgg259
 z212:=Tryz.sizeOf259
 v212:=Tryz.zeroValue259
 t213:=Tryz.underlying261
 a213:=Tryz.isAgg261
 z213:=Tryz.sizeOf261
 t232:=Tryz.underlying264
 a232:=Tryz.isAgg264
 z232:=Tryz.sizeOf264
 v232:=Tryz.zeroValue264
 t233:=Tryz.underlying265
 a233:=Tryz.isAgg265
 z233:=Tryz.sizeOf265
 v233:=Tryz.zeroValue265
 g15:=by kernel_rfl
 g16:=by kernel_rfl
 g17:=by kernel_rfl
 g18:=by kernel_rfl
 g19:=by kernel_rfl }
theorem pIntLays1:Go.Proofs.LaysM.n174 Tryz.prog pIntRen:={ pIntLays0 with
 t80:=Tryz.underlying266
 a80:=Tryz.isAgg266
 z80:=Tryz.sizeOf266
 v80:=Tryz.zeroValue266
 i0:=by kernel_rfl
 i2:=by kernel_rfl
 i3:=by kernel_rfl
 i4:=by kernel_rfl
 i5:=by kernel_rfl
 i9:=by kernel_rfl
 i20:=by kernel_rfl
 i21:=by kernel_rfl
 i37:=by kernel_rfl
 i46:=by kernel_rfl
 i51:=by kernel_rfl
 i53:=by kernel_rfl
 i75:=by kernel_rfl
 i80:=by kernel_rfl
 i85:=by kernel_rfl
 i127:=by kernel_rfl
 i143:=by kernel_rfl
 i145:=by kernel_rfl
 i167:=by kernel_rfl
 i168:=by kernel_rfl
 i171:=by kernel_rfl
 i173:=by kernel_rfl
 i175:=by kernel_rfl
 i210:=by kernel_rfl
 i212:=by kernel_rfl
 i232:=by kernel_rfl
 i233:=by kernel_rfl
 m15:=by kernel_rfl
 m16:=by kernel_rfl
 m17:=by kernel_rfl
 m18:=by kernel_rfl
 m19:=by kernel_rfl }
theorem pIntLays:Go.Proofs.LaysC.n174 Tryz.prog pIntRen:={ pIntLays1 with
 c0:=by kernel_rfl
 c2:=by kernel_rfl
 c3:=by kernel_rfl
 c4:=by kernel_rfl
 c5:=by kernel_rfl
 c9:=by kernel_rfl
 c20:=by kernel_rfl
 c21:=by kernel_rfl
 c37:=by kernel_rfl
 c46:=by kernel_rfl
 c51:=by kernel_rfl
 c53:=by kernel_rfl
 c75:=by kernel_rfl
 c80:=by kernel_rfl
 c85:=by kernel_rfl
 c127:=by kernel_rfl
 c143:=by kernel_rfl
 c145:=by kernel_rfl
 c167:=by kernel_rfl
 c168:=by kernel_rfl
 c171:=by kernel_rfl
 c173:=by kernel_rfl
 c175:=by kernel_rfl
 c210:=by kernel_rfl
 c212:=by kernel_rfl
 c213:=by kernel_rfl
 c232:=by kernel_rfl
 c233:=by kernel_rfl }
def Laid5 (w : World) : Prop := TabAt w ∧ (∃ te pe, w.cell? ⟨2, 0, none⟩ = some (.iface te pe)) ∧ Lib.TabIs Tryz.prog w "internal/strconv.uint64pow10" .u64 Lib.pow10Tab
theorem gPow : Tryz.prog.globalNamed "internal/strconv.uint64pow10" = some 3 := by kernel_rfl
theorem lt_cell {w:World} {b o:Nat} {v:Value} (h:w.cell? ⟨b,o,none⟩=some v):b < w.heap.size:=World.block_lt_of_cell? w _ h
theorem Laid5.below {w w':World} (h:Laid5 w) (hb:Below w.heap.size w w'):Laid5 w':=by
 obtain ⟨ht,⟨te,pe,hc⟩,hp⟩:=h
 exact ⟨ht.below hb ht.lt,⟨te,pe,(hb.cell (p:=⟨2,0,none⟩) (lt_cell hc)).trans hc⟩,Go.Joins.var_stays gPow hp hb (Nat.le_refl _)⟩
def K5 (w wx:World):Prop:=Laid5 wx∧Below w.heap.size w wx
theorem parseInt_yes (s:ByteArray) (hs:s.size≤1100000) (hk:kindL s.data.toList=3) (hf:fits64 (intN s.data.toList)=true) (w:World) :
   Calls Tryz.prog 239 #[.string s,.int .i64 10,.int .i64 64] w fun e w'=>e=.returned (.tuple #[.int .i64 (intN s.data.toList),.nilIface])∧Below w.heap.size w w':=by
 have hp:=parse_int hk
 rw [if_pos hf] at hp
 refine (Any.strconv_ParseInt_10_at64_ok pIntLays s (by omega) _ hp w).mono ?_
 rintro e w' ⟨he,h|⟨t,h⟩⟩
 · subst h;exact ⟨he,Below.refl _ _⟩
 · subst h;exact ⟨he,Lib.bytesWorld_below _ _ _⟩
theorem parseInt_no (s:ByteArray) (hs:s.size≤1100000) (hk:kindL s.data.toList=3) (hf:fits64 (intN s.data.toList)=false) (w:World) (hw:Laid5 w) :
  Calls Tryz.prog 239 #[.string s,.int .i64 10,.int .i64 64] w fun e w'=>(∃ z N,e=.returned (.tuple #[.int .i64 z,.iface 238 (.pointer (some ⟨N,0,none⟩))]))∧Below w.heap.size w w':=by
 have hp:=parse_int hk
 rw [if_neg (by rw [hf];simp)] at hp
 obtain ⟨_,⟨te,pe,hc⟩,_⟩:=hw
 refine (Any.strconv_ParseInt_10_at64_range pIntLays s (by omega) hp (.iface te pe) w hc (Or.inr ⟨te,pe,rfl⟩)).mono ?_
 rintro e w' ⟨N,he,_,_,hb⟩
 exact ⟨⟨_,N,he⟩,hb⟩
def RowV (w:World) (B:Nat) (l:VL) (A:Option Addr):Prop:=∀ (j:Nat) v,l.get j=some v→∃ b o c0 c1 c2 c3 c4,A=some ⟨b,o,none⟩∧b < w.heap.size∧Five w b (o+j*5) c0 c1 c2 c3 c4∧VAt w B v c0 c1 c2 c3 c4
theorem RowV.of_list {w:World} {B:Nat} {l:VL} {A:Option Addr} (hB:B≤w.heap.size) (h:LAt w B l A 0):RowV w B l A:=fun j v hv=>by
 obtain ⟨b,o,c0,c1,c2,c3,c4,hA,hlt,hf,hV⟩:=LAt.at h hv
 rw [Nat.zero_add] at hf
 exact ⟨b,o,c0,c1,c2,c3,c4,hA,Nat.lt_of_lt_of_le hlt hB,hf,hV⟩
theorem RowV.below {w w':World} {B:Nat} {l:VL} {A:Option Addr} (h:RowV w B l A) (hB:B≤w.heap.size) (hb:Below w.heap.size w w'):RowV w' B l A:=fun j v hv=>by
 obtain ⟨b,o,c0,c1,c2,c3,c4,hA,hlt,hf,hV⟩:=h j v hv
 exact ⟨b,o,c0,c1,c2,c3,c4,hA,Nat.lt_of_lt_of_le hlt hb.size,hf.below hb hlt,VAt.below (hb.mono hB) _ _ _ _ _ _ hV⟩
def ValsA (w:World) (B:Nat):VL→List Value→Prop
 | .nil,xs=>xs=[]
 | .cons v t,xs=>∃ c0 c1 c2 c3 c4 ys,xs=c0 :: c1 :: c2 :: c3 :: c4 :: ys∧VAt w B v c0 c1 c2 c3 c4∧ValsA w B t ys
theorem ValsA.below {w w':World} {B:Nat} (hb:Below B w w'):∀ {l:VL} {xs:List Value},ValsA w B l xs→ValsA w' B l xs
 | .nil,_,h=>h
 | .cons v t,xs,h=>by
   obtain ⟨c0,c1,c2,c3,c4,ys,e,hv,ht⟩:=h
   exact ⟨c0,c1,c2,c3,c4,ys,e,VAt.below hb _ _ _ _ _ _ hv,ValsA.below hb ht⟩
theorem ValsA.len {w:World} {B:Nat} : ∀ {l:VL} {xs:List Value},ValsA w B l xs→xs.length=l.len*5
 | .nil,xs,h=>by
   have:xs=[]:=h
   rw [this];rfl
 | .cons v t,xs,h=>by
   obtain ⟨c0,c1,c2,c3,c4,ys,rfl,hv,ht⟩:=h
   have:=ValsA.len ht
   simp only [List.length_cons,VL.len];omega
theorem ValsA.app {w:World} {B:Nat} : ∀ {l r:VL} {xs ys:List Value},ValsA w B l xs→ValsA w B r ys→ValsA w B (l.app r) (xs++ys)
 | .nil,r,xs,ys,h,h'=>by
   have:xs=[]:=h
   rw [this];exact h'
 | .cons v t,r,xs,ys,h,h'=>by
   obtain ⟨c0,c1,c2,c3,c4,zs,rfl,hv,ht⟩:=h
   exact ⟨c0,c1,c2,c3,c4,zs++ys,by simp,hv,ValsA.app ht h'⟩
theorem VAt.one {w:World} {B:Nat} {v:VT} {c0 c1 c2 c3 c4:Value} (h:VAt w B v c0 c1 c2 c3 c4):c0.oneCell'=true∧c1.oneCell'=true∧c2.oneCell'=true∧c3.oneCell'=true∧c4.oneCell'=true:=by
 obtain ⟨k,n,s,l,m⟩:=v
 unfold VAt at h
 obtain ⟨rfl,rfl,rfl,_,⟨A,c,rfl,_,_⟩,A',c',rfl,_,_⟩:=h
 exact ⟨rfl,rfl,rfl,rfl,rfl⟩
theorem ValsA.one {w:World} {B:Nat} : ∀ {l:VL} {xs:List Value},ValsA w B l xs→∀ u ∈ xs,u.oneCell'=true
 | .nil,xs,h,u,hu=>by
   have:xs=[]:=h
   rw [this] at hu;simp at hu
 | .cons v t,xs,h,u,hu=>by
   obtain ⟨c0,c1,c2,c3,c4,ys,rfl,hv,ht⟩:=h
   obtain ⟨h0,h1,h2,h3,h4⟩:=hv.one
   simp only [List.mem_cons] at hu
   rcases hu with rfl|rfl|rfl|rfl|rfl|hu
   · exact h0
   · exact h1
   · exact h2
   · exact h3
   · exact h4
   · exact ValsA.one ht u hu
theorem ValsA.get {w:World} {B:Nat} : ∀ {l:VL} {xs:List Value} {j:Nat} {v:VT},ValsA w B l xs→l.get j=some v→∃ c0 c1 c2 c3 c4,VAt w B v c0 c1 c2 c3 c4∧xs[j*5]? = some c0∧xs[j*5+1]? = some c1∧xs[j*5+2]? = some c2∧xs[j*5+3]? = some c3∧xs[j*5+4]? = some c4
 | .nil,_,_,_,_,h=>by simp [VL.get] at h
 | .cons u t,xs,0,v,h,hg=>by
   have:u=v:=by simpa [VL.get] using hg
   subst this
   obtain ⟨c0,c1,c2,c3,c4,ys,rfl,hv,ht⟩:=h
   exact ⟨c0,c1,c2,c3,c4,hv,rfl,rfl,rfl,rfl,rfl⟩
 | .cons u t,xs,j+1,v,h,hg=>by
   obtain ⟨c0,c1,c2,c3,c4,ys,rfl,hv,ht⟩:=h
   obtain ⟨d0,d1,d2,d3,d4,hv',h0,h1,h2,h3,h4⟩:=ValsA.get (l:=t) (j:=j) (v:=v) ht hg
   refine ⟨d0,d1,d2,d3,d4,hv',?_,?_,?_,?_,?_⟩
   · rw [show (j+1)*5=j*5+5 by omega];simpa using h0
   · rw [show (j+1)*5+1=(j*5+1)+5 by omega];simpa using h1
   · rw [show (j+1)*5+2=(j*5+2)+5 by omega];simpa using h2
   · rw [show (j+1)*5+3=(j*5+3)+5 by omega];simpa using h3
   · rw [show (j+1)*5+4=(j*5+4)+5 by omega];simpa using h4
theorem row_vals {w:World} {B b o:Nat} : ∀ (l:VL) (i:Nat),(∀ (j:Nat) v,l.get j=some v→∃ c0 c1 c2 c3 c4,Five w b (o+(i+j)*5) c0 c1 c2 c3 c4∧VAt w B v c0 c1 c2 c3 c4)→∃ xs,ValsA w B l xs∧∀ j u,xs[j]? = some u→w.cell? ⟨b,o+i*5+j,none⟩=some u
 | .nil,_,_=>⟨[],rfl,fun j u h=>by simp at h⟩
 | .cons v t,i,h=>by
   obtain ⟨c0,c1,c2,c3,c4,hf,hv⟩:=h 0 v rfl
   obtain ⟨xs,hx,hc⟩:=row_vals t (i+1) (fun j v hj=>by
     have:=h (j+1) v hj
     rwa [show i+(j+1)=i+1+j by omega] at this)
   refine ⟨c0 :: c1 :: c2 :: c3 :: c4 :: xs,⟨c0,c1,c2,c3,c4,xs,rfl,hv,hx⟩,fun j u hj=>?_⟩
   obtain ⟨f0,f1,f2,f3,f4⟩:=hf
   rw [Nat.add_zero] at f0 f1 f2 f3 f4
   match j,hj with
   | 0,hj=>cases hj;exact f0
   | 1,hj=>cases hj;exact f1
   | 2,hj=>cases hj;exact f2
   | 3,hj=>cases hj;exact f3
   | 4,hj=>cases hj;exact f4
   | j+5,hj =>
     have:=hc j u (by simpa using hj)
     rwa [show o+(i+1)*5+j=o+i*5+(j+5) by omega] at this
theorem RowV.vals {w:World} {B:Nat} {l:VL} {a:Addr} (h:RowV w B l (some a)):∃ xs,ValsA w B l xs∧∀ j u,xs[j]? = some u→w.cell? (a.add j)=some u:=by
 cases hl:l with
 | nil=>exact ⟨[],rfl,fun j u h=>by simp at h⟩
 | cons v t =>
   rw [hl] at h
   obtain ⟨b,o,_,_,_,_,_,hA,_,_,_⟩:=h 0 v rfl
   have ha:a=⟨b,o,none⟩:=by injection hA
   subst ha
   obtain ⟨xs,hx,hc⟩:=row_vals (w:=w) (B:=B) (b:=b) (o:=o) (.cons v t) 0 (fun j v hv=>by
    obtain ⟨b',o',c0,c1,c2,c3,c4,hA',_,hf,hV⟩:=h j v hv
    injection hA' with e
    injection e with e1 e2
    subst e1 e2
    rw [Nat.zero_add]
    exact ⟨c0,c1,c2,c3,c4,hf,hV⟩)
   refine ⟨xs,hx,fun j u hj=>?_⟩
   rw [add_at]
   have:=hc j u hj
   rwa [Nat.zero_mul,Nat.add_zero] at this
theorem row_owned {w:World} {base B:Nat} {V:Value} {l:VL} {xs:List Value} (h:w.ownsRow base 58 5 V l.len xs) (hv:ValsA w B l xs):∃ A c,V=.slice A l.len c∧RowV w B l A:=by
 obtain ⟨A,c,rfl⟩:=shape_own h
 refine ⟨A,c,rfl,fun j v hj=>?_⟩
 rcases h.2 with ⟨hV,hn⟩|⟨g,cap,cur,hV,_,hg,_,_,_,_⟩
 · have:=VL.nil_of_len hn
   subst this
   simp [VL.get] at hj
 · injection hV with e1 e2 e3
   subst e1
   obtain ⟨c0,c1,c2,c3,c4,hvj,h0,h1,h2,h3,h4⟩:=hv.get hj
   have hlt:∀ i u,xs[i]? = some u→w.cell? ⟨g,i,none⟩=some u:=fun i u hu=>by
    have hil:=(List.getElem?_eq_some_iff.1 hu).1
    rw [h.1] at hil
    rw [World.ownsRow.cellAt h i hil,hu]
   have hgs:g < w.heap.size:=(h.lt g rfl).2
   exact ⟨g,0,c0,c1,c2,c3,c4,rfl,hgs,⟨by rw [Nat.zero_add];exact hlt _ _ h0,by rw [Nat.zero_add];exact hlt _ _ h1,by rw [Nat.zero_add];exact hlt _ _ h2,by rw [Nat.zero_add];exact hlt _ _ h3,by rw [Nat.zero_add];exact hlt _ _ h4⟩,hvj⟩
def namesTo (p:List UInt8→Bool):VM→Nat→Bool
 | _,0=>true
 | .nil,_+1=>true
 | .cons nm _ t,j+1=>p nm.data.toList && namesTo p t j
theorem namesTo_zero (p:List UInt8→Bool) (m:VM):namesTo p m 0=true:=by cases m<;>rfl
theorem namesTo_next (p:List UInt8→Bool):∀ {m:VM} {j:Nat} {nm:ByteArray} {v:VT},m.get j=some (nm,v)→namesTo p m (j+1)=(namesTo p m j && p nm.data.toList)
 | .nil,_,_,_,h=>by simp [VM.get] at h
 | .cons x u t,0,nm,v,h=>by
   have:x=nm∧u=v:=by simpa [VM.get] using h
   obtain ⟨rfl,rfl⟩:=this
   show (p x.data.toList && namesTo p t 0)=(true && p x.data.toList)
   rw [namesTo_zero];simp
 | .cons x u t,j+1,nm,v,h=>by
   rw [namesTo,namesTo_next p (m:=t) (j:=j) (v:=v) h,namesTo,Bool.and_assoc]
theorem namesTo_all (p:List UInt8→Bool):∀ m:VM,namesTo p m m.len=namesB p m
 | .nil=>rfl
 | .cons nm v t=>by rw [VM.len,namesTo,namesTo_all p t,namesB]
theorem names_no (p:List UInt8→Bool):∀ {m:VM} {j:Nat} {nm:ByteArray} {v:VT},m.get j=some (nm,v)→p nm.data.toList=false→namesB p m=false
 | .nil,_,_,_,h,_=>by simp [VM.get] at h
 | .cons x u t,0,nm,v,h,hp=>by
   have:x=nm∧u=v:=by simpa [VM.get] using h
   obtain ⟨rfl,rfl⟩:=this
   rw [namesB,hp];rfl
 | .cons x u t,j+1,nm,v,h,hp=>by
   rw [namesB,names_no p (m:=t) (j:=j) h hp];simp
theorem name_size:∀ {m:VM} {j:Nat} {nm:ByteArray} {v:VT},m.get j=some (nm,v)→nm.size≤sizeM m∧sizeV v≤sizeM m:=fun h=>by
 have:=sizeM_get h
 omega
def TestC (fn:Nat) (p:List UInt8→Bool):Prop:=(∀ args w,(callFunc fn args).run Tryz.prog w=.ok (.enter fn args) w)∧∀ (s:ByteArray) (w:World),s.size≤1100000→Laid5 w→Calls Tryz.prog fn #[.string s] w fun e w'=>e=.returned (.bool (p s.data.toList))∧Below w.heap.size w w'
theorem vnamed_any (fn:Nat) (p:List UInt8→Bool) (hp:TestC fn p) (m:VM) (A:Option Addr) (c:Nat) (w:World) (B:Nat) (hB:B≤w.heap.size) (hm:m.len≤9223372036854775807) (hM:MAt w B m A 0) (hz:sizeM m≤1100000) (hw:Laid5 w) :
  Calls Tryz.prog 200 #[.slice A m.len c,.func (.func fn) #[] #[]] w fun e w'=>e=.returned (.bool (namesB p m))∧Below w.heap.size w w':=by
 obtain ⟨he,hP⟩:=hp
 have HP:=Hd hP
 have HM:=Hd hM
 have HB0:=Hd hB
 have HZ:=Hd hz
 have HW:=Hd hw
 clear hM hB hP hz hw
 go_enter Tryz.func200,Tryz.ntmps200
 go_wp2_with fail
 go_loopg [9] m.len (fun g i wx=>∃ q:Nat,q+g=m.len∧i=.int .i64 q∧Below w.heap.size w wx∧Aside (namesTo p m q=true))
 case atStart=>exact ⟨0,by omega,rfl,Below.refl _ _,vaside (namesTo_zero _ _)⟩
 case round =>
  obtain ⟨q,hq,rfl,hb,HA⟩:=hrel
  have HBB:=Hd hb
  clear hb
  cases gk with
  | zero =>
    obtain rfl:q=m.len:=by omega
    have hG:Hid (namesB p m=true):=Hd (by rw [← namesTo_all];exact HA)
    clear HA
    go_wp2_with fail
    go_ret
    exact ⟨ret_bool hG.out.symm,HBB.out⟩
  | succ g =>
    have hqn:q < m.len:=by omega
    have hqn':(q:Int) < (m.len:Int):=by omega
    obtain ⟨⟨nm,v⟩,hv⟩:=VM.get_lt hqn
    have hns:=Nat.le_trans (name_size hv).1 HZ.out
    obtain ⟨b,o,d0,d1,d2,d3,d4,rfl,hblt,hnm,_,hF,hV⟩:=MAt.at (MAt.below (HBB.out.mono HB0.out) _ _ _ HM.out) hv
    rw [Nat.zero_add] at hF hnm
    have hnx:=Hd (namesTo_next p hv)
    have hno:=Hd (names_no p hv)
    have C:=fun (wx:World) (hx:Below wr.heap.size wr wx)=>Hd (HP.out nm wx hns ((HW.out.below HBB.out).below hx))
    obtain ⟨vk,vn,vs,vl,vm⟩:=v
    unfold VAt at hV
    obtain ⟨rfl,rfl,rfl,_,⟨A3,c3',rfl,_,_⟩,A4,c4',rfl,_,_⟩:=hV
    obtain ⟨f0,f1,f2,f3,f4⟩:=hF
    have hnew:=fun o=>(Below.refl wr.heap.size wr).alloc (Nat.le_refl _) o
    have HN:=Hd hnew
    clear hnew hv
    cases hpn:p nm.data.toList with
    | true =>
      rw [hpn] at C
      have hN:Hid (namesTo p m (q+1)=true):=Hd (by rw [hnx.out,HA,hpn];rfl)
      clear HA hpn hno hnx
      go_wp2_with fail
      refine (C _ (HN.out _)).out.mono ?_
      rintro e w1 ⟨rfl,hb1⟩
      have HB1:=Hd (HBB.out.trans (((HN.out _).trans (hb1.mono (by simp))).mono HBB.out.size))
      clear hb1 C f0 f1 f2 f3 f4 hnm
      go_wp2_with fail
      go_roundg g
      case measure=>omega
      case rel=>exact ⟨q+1,by omega,by go_num,HB1.out,vaside hN.out⟩
    | false =>
      rw [hpn] at C
      have hN:Hid (namesB p m=false):=Hd (hno.out hpn)
      clear HA hpn hno hnx
      go_wp2_with fail
      refine (C _ (HN.out _)).out.mono ?_
      rintro e w1 ⟨rfl,hb1⟩
      have HB1:=Hd (HBB.out.trans (((HN.out _).trans (hb1.mono (by simp))).mono HBB.out.size))
      clear hb1 C f0 f1 f2 f3 f4 hnm
      go_wp2_with fail
      go_ret
      exact ⟨ret_bool hN.out.symm,HB1.out⟩
end Go.Proofs.YtaekdfcpbepepaaGreatDoor
