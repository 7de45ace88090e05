/- The walk of token.Number, for the values. -/
import Derived.Test.YtpkmbhnikilihaaGreatDoorQv8
import Derived.Lib.ItoaNum
import Derived.Lib.ParseIntB
import Derived.Shelf.Strconv.ParseIntPublic10
import Derived.Shelf.Strconv.Itoa4
import Derived.Lib.LaidTab
import Derived.Lib.SmallJoins
import Derived.Lib.AtoiErrMem
import Derived.Test.YtpkmbhnikilihaaGreatDoorQv3
set_option maxRecDepth 100000
set_option maxHeartbeats 4000000
namespace Go.Proofs.YtpkmbhnikilihaaGreatDoor
open Go.RowKit
def nullL:List UInt8:=[110,117,108,108]
def trueL:List UInt8:=[116,114,117,101]
def falseL:List UInt8:=[102,97,108,115,101]
def digN (l:List UInt8):Nat:=l.foldl (fun a b=>a*10+(b.toNat - 48)) 0
def intN:List UInt8→Int
 | []=>0
 | b :: t=>if b=45 then -(digN t:Int) else (digN (b :: t):Int)
def fits64 (z:Int):Bool:=decide (-9223372036854775808≤z∧z≤9223372036854775807)
def VL.app:VL→VL→VL
 | .nil,r=>r
 | .cons v t,r=>.cons v (t.app r)
theorem digU_bd {b:UInt8} (h:digU b=true):48≤b.toNat∧b.toNat≤57:=by
 unfold digU digB at h
 have:=of_decide_eq_true h
 omega
def digA (a:Nat) (l:List UInt8):Nat:=l.foldl (fun a b=>a*10+(b.toNat - 48)) a
theorem digA_mono:∀ (l:List UInt8) (a:Nat),a≤digA a l
 | [],a=>Nat.le_refl _
 | b :: l,a=>by
   show a≤digA (a*10+(b.toNat - 48)) l
   have:=digA_mono l (a*10+(b.toNat - 48))
   omega
theorem minus_toNat:(45:UInt8).toNat=45:=rfl
theorem dig_not_minus {b:UInt8} (h:digU b=true):b ≠ 45:=by
 intro e;subst e;have:=digU_bd h;rw [minus_toNat] at this;omega
theorem int_digits {l:List UInt8} (h:l.all digU=true):intN l=(digN l:Int):=by
 cases l with
 | nil=>rfl
 | cons b t =>
   rw [List.all_cons,Bool.and_eq_true] at h
   show (if b=45 then -(digN t:Int) else (digN (b :: t):Int))=_
   rw [if_neg (dig_not_minus h.1)]
theorem int_minus (l:List UInt8):intN (45 :: l) = -(digN l:Int):=by
 show (if (45:UInt8)=45 then -(digN l:Int) else (digN (45 :: l):Int))=_
 rw [if_pos rfl]
theorem all_run {l:List UInt8} (h:runL l=l.length):l.all digU=true:=by
 induction l with
 | nil=>rfl
 | cons b t ih =>
   unfold runL at ih h
   rw [List.takeWhile_cons] at h
   split at h
   · rename_i hb
     rw [List.all_cons,hb,ih (by simpa using h)];rfl
   · simp at h
theorem kind_digits {l:List UInt8} (h:kindL l=3):∃ m,minusL l=m∧(l.drop m).all digU=true∧l.drop m ≠ []:=by
 unfold kindL at h
 split at h
 · omega
 · rename_i hlt
   unfold nbL at h hlt
   split at h
   · simp at h
   · rename_i h0
     rw [if_neg h0] at hlt
     split at h
     · simp at h
     · rename_i hb
       rw [if_neg hb] at hlt
       refine ⟨minusL l,rfl,?_⟩
       by_cases hw:wholeL (l.drop (minusL l))=0
       · exact absurd (by unfold nmL;rw [if_pos hw]) h0
       · unfold nmL at h hlt
         rw [if_neg hw] at h hlt
         simp only at h hlt
         split at h
         · rename_i hfx
           obtain ⟨hf1,hf2⟩:=hfx
           rw [hf1,Nat.add_zero] at hf2
           rw [hf1,Nat.add_zero,hf2,Nat.add_zero] at hlt
           have hwl:=wholeL_le (l.drop (minusL l))
           rw [List.length_drop] at hwl
           have hwe:wholeL (l.drop (minusL l))=(l.drop (minusL l)).length:=by rw [List.length_drop];omega
           generalize l.drop (minusL l)=r at hw hwe
           cases r with
           | nil=>exact absurd rfl hw
           | cons b t =>
             refine ⟨?_,by simp⟩
             by_cases hb:b=48
             · subst hb
               have:wholeL ((48:UInt8) :: t)=1:=rfl
               rw [this] at hwe
               have ht:t=[]:=List.eq_nil_of_length_eq_zero (by rw [List.length_cons] at hwe;omega)
               subst ht;rfl
             · have:wholeL (b :: t)=runL (b :: t):=by
                show (if (b == 48)=true then 1 else runL (b :: t))=_
                rw [if_neg (by simpa using hb)]
               exact all_run (by rw [← this,hwe])
         · simp at h
theorem parseM (l:List UInt8):∀ (a:Nat),a≤18446744073709551615→l.all digU=true→Lib.parseUintM 18446744073709551615 a l=if digA a l≤18446744073709551615 then .ok (digA a l) else .range:=by
 induction l with
 | nil=>intro a ha _;show Lib.NumEnd.ok a=_;rw [show digA a []=a from rfl,if_pos ha]
 | cons b t ih =>
   intro a ha h
   rw [List.all_cons,Bool.and_eq_true] at h
   have hd:=digU_bd h.1
   have hm:digA a (b :: t)=digA (a*10+(b.toNat - 48)) t:=rfl
   have hmono:=digA_mono t (a*10+(b.toNat - 48))
   unfold Lib.parseUintM
   rw [if_pos hd,hm]
   split
   · rw [if_neg (by omega)]
   · split
     · rw [if_neg (by omega)]
     · exact ih _ (by omega) h.2
theorem parse_cons (c:UInt8) (r:List UInt8):Lib.parseIntB 64 (c :: r)=(match Lib.parseUintB 64 (if c.toNat=43∨c.toNat=45 then r else c :: r) with
 | Lib.NumEnd.syntax=>Lib.NumEnd.syntax
 | .range=>.range
 | .ok u=>if ¬ c.toNat=45∧2 ^ (64 - 1)≤u then .range else if c.toNat=45∧2 ^ (64 - 1) < u then .range else .ok (if c.toNat=45 then -(u:Int) else u)):=rfl
theorem parse_mag {r:List UInt8} (hn:r ≠ []) (hd:r.all digU=true):Lib.parseUintB 64 r=if digA 0 r≤18446744073709551615 then .ok (digA 0 r) else .range:=by
 unfold Lib.parseUintB
 rw [if_neg hn]
 exact parseM r 0 (by omega) hd
theorem parse_int {l:List UInt8} (h:kindL l=3):Lib.parseIntB 64 l=if fits64 (intN l)=true then .ok (intN l) else .range:=by
 obtain ⟨m,hm,hd,hn⟩:=kind_digits h
 cases l with
 | nil=>rw [List.drop_nil] at hn;exact absurd rfl hn
 | cons c r =>
   by_cases hc:c=45
   · subst hc
     have:m=1:=hm.symm
     subst this
     rw [show (45 :: r).drop 1=r from rfl] at hd hn
     have hi:intN (45 :: r) = -(digA 0 r:Int):=int_minus r
     rw [hi,parse_cons,if_pos (Or.inr minus_toNat),parse_mag hn hd]
     by_cases h1:digA 0 r≤18446744073709551615
     · rw [if_pos h1]
       simp only [minus_toNat]
       by_cases h2:9223372036854775808 < digA 0 r
       · have hf:fits64 (-(digA 0 r:Int))=false:=by unfold fits64;exact decide_eq_false (by omega)
         rw [hf,if_neg (by simp),if_pos ⟨trivial,by omega⟩,if_neg (by simp)]
       · have hf:fits64 (-(digA 0 r:Int))=true:=by unfold fits64;exact decide_eq_true (by omega)
         rw [hf,if_neg (by simp),if_neg (by omega),if_pos trivial,if_pos rfl]
     · have hf:fits64 (-(digA 0 r:Int))=false:=by unfold fits64;exact decide_eq_false (by omega)
       rw [if_neg h1,hf,if_neg (by simp)]
   · have hm0:m=0:=by rw [← hm];show (if (c == 45)=true then 1 else 0)=0;rw [if_neg (by simpa using hc)]
     subst hm0
     rw [List.drop_zero] at hd
     have hcd:digU c=true:=by rw [List.all_cons,Bool.and_eq_true] at hd;exact hd.1
     have hcb:=digU_bd hcd
     rw [int_digits hd,parse_cons,if_neg (by omega),parse_mag (by simp) hd]
     have hD:digN (c :: r)=digA 0 (c :: r):=rfl
     rw [hD]
     have hc45 : ¬ c.toNat=45:=by omega
     by_cases h1:digA 0 (c :: r)≤18446744073709551615
     · rw [if_pos h1]
       simp only
       by_cases h2:9223372036854775808≤digA 0 (c :: r)
       · have hf:fits64 (digA 0 (c :: r):Int)=false:=by unfold fits64;exact decide_eq_false (by omega)
         rw [hf,if_pos ⟨hc45,by omega⟩,if_neg (by simp)]
       · have hf:fits64 (digA 0 (c :: r):Int)=true:=by unfold fits64;exact decide_eq_true (by omega)
         rw [hf,if_neg (by omega),if_neg (by omega),if_pos rfl,if_neg hc45]
     · have hf:fits64 (digA 0 (c :: r):Int)=false:=by unfold fits64;exact decide_eq_false (by omega)
       rw [if_neg h1,hf,if_neg (by simp)]
open Go.Shelf Go.RowKit Go.Sort
def pIntRen:Go.Shelf.Ren:=⟨fun|129=>278|171=>299|174=>189|205=>298|243=>307|245=>241|246=>198|247=>240|279=>273|280=>274|281=>275|282=>276|283=>244|284=>245|285=>246|286=>247|287=>272|316=>297|317=>277|318=>279|319=>280|320=>281|321=>295|322=>296|337=>300|338=>301|n=>n,fun|0=>0|2=>2|3=>3|4=>4|5=>5|9=>9|20=>20|21=>21|37=>100|46=>167|51=>243|53=>238|75=>105|80=>110|85=>212|127=>176|143=>284|145=>286|167=>254|168=>257|171=>237|173=>241|175=>255|210=>278|212=>262|213=>263|232=>287|233=>288|n=>n,fun|15=>2|16=>3|17=>0|18=>5|19=>6|n=>n⟩
theorem pIntLays0:Go.Proofs.Lays.n174 Tryz.prog pIntRen:={
 mixed:=by kernel_rfl
 f129:=Tryz.func278.trans (congrArg some (by kernel_rfl))
 f171:=Tryz.func299.trans (congrArg some (by kernel_rfl))
 f174:=Tryz.func189.trans (congrArg some (by kernel_rfl))
 f205:=Tryz.func298.trans (congrArg some (by kernel_rfl))
 f243:=Tryz.func307.trans (congrArg some (by kernel_rfl))
 f245:=Tryz.func241.trans (congrArg some (by kernel_rfl))
 f246:=Tryz.func198.trans (congrArg some (by kernel_rfl))
 f247:=Tryz.func240.trans (congrArg some (by kernel_rfl))
 f279:=Tryz.func273.trans (congrArg some (by kernel_rfl))
 f280:=Tryz.func274.trans (congrArg some (by kernel_rfl))
 f281:=Tryz.func275.trans (congrArg some (by kernel_rfl))
 f282:=Tryz.func276.trans (congrArg some (by kernel_rfl))
 f283:=Tryz.func244.trans (congrArg some (by kernel_rfl))
 f284:=Tryz.func245.trans (congrArg some (by kernel_rfl))
 f285:=Tryz.func246.trans (congrArg some (by kernel_rfl))
 f286:=Tryz.func247.trans (congrArg some (by kernel_rfl))
 f287:=Tryz.func272.trans (congrArg some (by kernel_rfl))
 f316:=Tryz.func297.trans (congrArg some (by kernel_rfl))
 f317:=Tryz.func277.trans (congrArg some (by kernel_rfl))
 f318:=Tryz.func279.trans (congrArg some (by kernel_rfl))
 f319:=Tryz.func280.trans (congrArg some (by kernel_rfl))
 f320:=Tryz.func281.trans (congrArg some (by kernel_rfl))
 f321:=Tryz.func295.trans (congrArg some (by kernel_rfl))
 f322:=Tryz.func296.trans (congrArg some (by kernel_rfl))
 f337:=Tryz.func300.trans (congrArg some (by kernel_rfl))
 f338:=Tryz.func301.trans (congrArg some (by kernel_rfl))
 t0:=Tryz.underlying0
 a0:=Tryz.isAgg0
 z0:=Tryz.sizeOf0
 v0:=Tryz.zeroValue0
 t2:=Tryz.underlying2
 a2:=Tryz.isAgg2
 z2:=Tryz.sizeOf2
 v2:=Tryz.zeroValue2
 t3:=Tryz.underlying3
 a3:=Tryz.isAgg3
 z3:=Tryz.sizeOf3
 v3:=Tryz.zeroValue3
 t4:=Tryz.underlying4
 a4:=Tryz.isAgg4
 z4:=Tryz.sizeOf4
 v4:=Tryz.zeroValue4
 t5:=Tryz.underlying5
 a5:=Tryz.isAgg5
 z5:=Tryz.sizeOf5
 v5:=Tryz.zeroValue5
 t9:=Tryz.underlying9
 a9:=Tryz.isAgg9
 z9:=Tryz.sizeOf9
 v9:=Tryz.zeroValue9
 t20:=Tryz.underlying20
 a20:=Tryz.isAgg20
 z20:=Tryz.sizeOf20
 v20:=Tryz.zeroValue20
 t21:=Tryz.underlying21
 a21:=Tryz.isAgg21
 z21:=Tryz.sizeOf21
 v21:=Tryz.zeroValue21
 t37:=Tryz.underlying100
 a37:=Tryz.isAgg100
 z37:=Tryz.sizeOf100
 v37:=Tryz.zeroValue100
 t46:=Tryz.underlying167
 a46:=Tryz.isAgg167
 z46:=Tryz.sizeOf167
 v46:=Tryz.zeroValue167
 t51:=Tryz.underlying243
 a51:=Tryz.isAgg243
 z51:=Tryz.sizeOf243
 v51:=Tryz.zeroValue243
 t53:=Tryz.underlying238
 a53:=Tryz.isAgg238
 z53:=Tryz.sizeOf238
 v53:=Tryz.zeroValue238
 t75:=Tryz.underlying105
 a75:=Tryz.isAgg105
 z75:=Tryz.sizeOf105
 v75:=Tryz.zeroValue105
 t85:=Tryz.underlying212
 a85:=Tryz.isAgg212
 z85:=Tryz.sizeOf212
 v85:=Tryz.zeroValue212
 t127:=Tryz.underlying176
 a127:=Tryz.isAgg176
 z127:=Tryz.sizeOf176
 v127:=Tryz.zeroValue176
 t143:=Tryz.underlying284
 a143:=Tryz.isAgg284
 z143:=Tryz.sizeOf284
 v143:=Tryz.zeroValue284
 t145:=Tryz.underlying286
 a145:=Tryz.isAgg286
 z145:=Tryz.sizeOf286
 v145:=Tryz.zeroValue286
 t167:=Tryz.underlying254
 a167:=Tryz.isAgg254
 z167:=Tryz.sizeOf254
 v167:=Tryz.zeroValue254
 t168:=Tryz.underlying257
 a168:=Tryz.isAgg257
 z168:=Tryz.sizeOf257
 v168:=Tryz.zeroValue257
 t171:=Tryz.underlying237
 a171:=Tryz.isAgg237
 z171:=Tryz.sizeOf237
 v171:=Tryz.zeroValue237
 t173:=Tryz.underlying241
 a173:=Tryz.isAgg241
 z173:=Tryz.sizeOf241
 v173:=Tryz.zeroValue241
 t175:=Tryz.underlying255
 a175:=Tryz.isAgg255
 z175:=Tryz.sizeOf255
 v175:=Tryz.zeroValue255
 t210:=Tryz.underlying278
 a210:=Tryz.isAgg278
 z210:=Tryz.sizeOf278
 v210:=Tryz.zeroValue278
 t212:=Tryz.underlying262
 a212:=Tryz.isAgg262
 z212:=Tryz.sizeOf262
 v212:=Tryz.zeroValue262
 t213:=Tryz.underlying263
 a213:=Tryz.isAgg263
 z213:=Tryz.sizeOf263
 t232:=Tryz.underlying287
 a232:=Tryz.isAgg287
 z232:=Tryz.sizeOf287
 v232:=Tryz.zeroValue287
 t233:=Tryz.underlying288
 a233:=Tryz.isAgg288
 z233:=Tryz.sizeOf288
 v233:=Tryz.zeroValue288
 g15:=by kernel_rfl
 g16:=by kernel_rfl
 g17:=by kernel_rfl
 g18:=by kernel_rfl
 g19:=by kernel_rfl }
theorem pIntLays1:Go.Proofs.LaysM.n174 Tryz.prog pIntRen:={ pIntLays0 with
 t80:=Tryz.underlying110
 a80:=Tryz.isAgg110
 z80:=Tryz.sizeOf110
 v80:=Tryz.zeroValue110
 i0:=by kernel_rfl
 i2:=by kernel_rfl
 i3:=by kernel_rfl
 i4:=by kernel_rfl
 i5:=by kernel_rfl
 i9:=by kernel_rfl
 i20:=by kernel_rfl
 i21:=by kernel_rfl
 i37:=by kernel_rfl
 i46:=by kernel_rfl
 i51:=by kernel_rfl
 i53:=by kernel_rfl
 i75:=by kernel_rfl
 i80:=by kernel_rfl
 i85:=by kernel_rfl
 i127:=by kernel_rfl
 i143:=by kernel_rfl
 i145:=by kernel_rfl
 i167:=by kernel_rfl
 i168:=by kernel_rfl
 i171:=by kernel_rfl
 i173:=by kernel_rfl
 i175:=by kernel_rfl
 i210:=by kernel_rfl
 i212:=by kernel_rfl
 i232:=by kernel_rfl
 i233:=by kernel_rfl
 m15:=by kernel_rfl
 m16:=by kernel_rfl
 m17:=by kernel_rfl
 m18:=by kernel_rfl
 m19:=by kernel_rfl }
theorem pIntLays:Go.Proofs.LaysC.n174 Tryz.prog pIntRen:={ pIntLays1 with
 c0:=by kernel_rfl
 c2:=by kernel_rfl
 c3:=by kernel_rfl
 c4:=by kernel_rfl
 c5:=by kernel_rfl
 c9:=by kernel_rfl
 c20:=by kernel_rfl
 c21:=by kernel_rfl
 c37:=by kernel_rfl
 c46:=by kernel_rfl
 c51:=by kernel_rfl
 c53:=by kernel_rfl
 c75:=by kernel_rfl
 c80:=by kernel_rfl
 c85:=by kernel_rfl
 c127:=by kernel_rfl
 c143:=by kernel_rfl
 c145:=by kernel_rfl
 c167:=by kernel_rfl
 c168:=by kernel_rfl
 c171:=by kernel_rfl
 c173:=by kernel_rfl
 c175:=by kernel_rfl
 c210:=by kernel_rfl
 c212:=by kernel_rfl
 c213:=by kernel_rfl
 c232:=by kernel_rfl
 c233:=by kernel_rfl }
def Laid5 (w : World) : Prop := TabAt w ∧ (∃ te pe, w.cell? ⟨3, 0, none⟩ = some (.iface te pe)) ∧ Lib.TabIs Tryz.prog w "internal/strconv.uint64pow10" .u64 Lib.pow10Tab
theorem gPow : Tryz.prog.globalNamed "internal/strconv.uint64pow10" = some 0 := by kernel_rfl
theorem lt_cell {w:World} {b o:Nat} {v:Value} (h:w.cell? ⟨b,o,none⟩=some v):b < w.heap.size:=World.block_lt_of_cell? w _ h
theorem Laid5.below {w w':World} (h:Laid5 w) (hb:Below w.heap.size w w'):Laid5 w':=by
 obtain ⟨ht,⟨te,pe,hc⟩,hp⟩:=h
 exact ⟨ht.below hb ht.lt,⟨te,pe,(hb.cell (p:=⟨3,0,none⟩) (lt_cell hc)).trans hc⟩,Go.Joins.var_stays gPow hp hb (Nat.le_refl _)⟩
def K5 (w wx:World):Prop:=Laid5 wx∧Below w.heap.size w wx
theorem K5.next {w wx wy:World} (h:K5 w wx) (hb:Below wx.heap.size wx wy):K5 w wy:=⟨h.1.below hb,h.2.trans (hb.mono h.2.size)⟩
theorem K5.alloc {w wx:World} (h:K5 w wx) (o:Obj):K5 w (wx.alloc o):=h.next ((Below.refl _ _).alloc (Nat.le_refl _) o)
theorem parseInt_yes (s:ByteArray) (hs:s.size≤1100000) (hk:kindL s.data.toList=3) (hf:fits64 (intN s.data.toList)=true) (w:World) :
   Calls Tryz.prog 189 #[.string s,.int .i64 10,.int .i64 64] w fun e w'=>e=.returned (.tuple #[.int .i64 (intN s.data.toList),.nilIface])∧Below w.heap.size w w':=by
 have hp:=parse_int hk
 rw [if_pos hf] at hp
 refine (Any.strconv_ParseInt_10_at64_ok pIntLays s (by omega) _ hp w).mono ?_
 rintro e w' ⟨he,h|⟨t,h⟩⟩
 · subst h;exact ⟨he,Below.refl _ _⟩
 · subst h;exact ⟨he,Lib.bytesWorld_below _ _ _⟩
theorem parseInt_no (s:ByteArray) (hs:s.size≤1100000) (hk:kindL s.data.toList=3) (hf:fits64 (intN s.data.toList)=false) (w:World) (hw:Laid5 w) :
  Calls Tryz.prog 189 #[.string s,.int .i64 10,.int .i64 64] w fun e w'=>(∃ z N,e=.returned (.tuple #[.int .i64 z,.iface 257 (.pointer (some ⟨N,0,none⟩))]))∧Below w.heap.size w w':=by
 have hp:=parse_int hk
 rw [if_neg (by rw [hf];simp)] at hp
 obtain ⟨_,⟨te,pe,hc⟩,_⟩:=hw
 refine (Any.strconv_ParseInt_10_at64_range pIntLays s (by omega) hp (.iface te pe) w hc (Or.inr ⟨te,pe,rfl⟩)).mono ?_
 rintro e w' ⟨N,he,_,_,hb⟩
 exact ⟨⟨_,N,he⟩,hb⟩
def flatV (k n:Int) (s:ByteArray):Value:=.agg #[.int .i64 k,.int .i64 n,.string s,.slice none 0 0,.slice none 0 0]
def wordR (s:ByteArray):Int × Int × ByteArray:=
 if s.data.toList=nullL then (0,0,⟨#[]⟩) else if s.data.toList=trueL then (1,1,⟨#[]⟩) else if s.data.toList=falseL then (1,0,⟨#[]⟩) else (5,0,s)
def singleR (t:Tok):Option (Int × Int × ByteArray):=
 if t.1=2 then some (wordR t.2)
 else if t.1=3 then (if fits64 (intN t.2.data.toList)=true then some (2,intN t.2.data.toList,⟨#[]⟩) else some (3,0,t.2))
 else if t.1=4 then some (3,0,t.2) else if t.1=5 then some (4,0,t.2) else none
theorem eq_list {s:ByteArray} {l:List UInt8} {b:Bool} (h:(s.toList == l)=b):(s.data.toList=l) ↔ b=true:=by
 rw [Lib.toList_data] at h
 rw [← h];simp
theorem wordV_any (s:ByteArray) (w:World):Calls Tryz.prog 188 #[.string s] w fun e w'=>e=.returned (flatV (wordR s).1 (wordR s).2.1 (wordR s).2.2)∧Below w.heap.size w w':=by
 obtain ⟨b1,h1⟩:∃ b,(s.toList == [110,117,108,108])=b:=⟨_,rfl⟩
 obtain ⟨b2,h2⟩:∃ b,(s.toList == [116,114,117,101])=b:=⟨_,rfl⟩
 obtain ⟨b3,h3⟩:∃ b,(s.toList == [102,97,108,115,101])=b:=⟨_,rfl⟩
 have hw:wordR s=if b1=true then (0,0,⟨#[]⟩) else if b2=true then (1,1,⟨#[]⟩) else if b3=true then (1,0,⟨#[]⟩) else (5,0,s):=by
   unfold wordR
   simp only [show (s.data.toList=nullL)=(b1=true) from propext (eq_list h1),show (s.data.toList=trueL)=(b2=true) from propext (eq_list h2),show (s.data.toList=falseL)=(b3=true) from propext (eq_list h3)]
 rw [hw]
 clear hw
 cases b1 with
 | true =>
   go_enter Tryz.func188,Tryz.ntmps188
   go_wp2_with fail
   exact ret_v1 rfl rfl rfl (heap_alloc_last _ _) ⟨rfl,(Below.refl _ _).alloc (Nat.le_refl _) _⟩
 | false =>
 cases b2 with
 | true =>
   go_enter Tryz.func188,Tryz.ntmps188
   go_wp2_with fail
   exact ret_v1 rfl rfl rfl (heap_alloc_last _ _) ⟨rfl,(Below.refl _ _).alloc (Nat.le_refl _) _⟩
 | false =>
 cases b3 with
 | true =>
   go_enter Tryz.func188,Tryz.ntmps188
   go_wp2_with fail
   exact ret_v1 rfl rfl rfl (heap_alloc_last _ _) ⟨rfl,(Below.refl _ _).alloc (Nat.le_refl _) _⟩
 | false =>
   go_enter Tryz.func188,Tryz.ntmps188
   go_wp2_with fail
   exact ret_v1 rfl rfl rfl (heap_alloc_last _ _) ⟨rfl,(Below.refl _ _).alloc (Nat.le_refl _) _⟩
theorem tok_box (w:World) (a b:Value) (o:Obj):((w.alloc (.cells #[a,b] 70)).alloc o).heap[w.heap.size]? = some (.cells #[a,b] 70 (0,0))∧((w.alloc (.cells #[a,b] 70)).alloc o).heap[w.heap.size+1]? = some o∧Below w.heap.size w ((w.alloc (.cells #[a,b] 70)).alloc o):=by
 refine ⟨(Below.heap_alloc _ _ _ (by simp)).trans (heap_alloc_new _ _),?_,((Below.refl _ _).alloc (Nat.le_refl _) _).alloc (by simp) _⟩
 have h2:=heap_alloc_new (w.alloc (.cells #[a,b] 70)) o
 have e:(w.alloc (.cells #[a,b] 70)).heap.size=w.heap.size+1:=by simp
 rwa [e] at h2
theorem five_low {w w2:World} {b:Nat} (h:Below w.heap.size w w2) (hb:w.heap.size≤b) (x0 x1 x2 x3 x4:Value):Below w.heap.size w (((((w2.setCell ⟨b,0,none⟩ x0).setCell ⟨b,1,none⟩ x1).setCell ⟨b,2,none⟩ x2).setCell ⟨b,3,none⟩ x3).setCell ⟨b,4,none⟩ x4):=
 ((((h.setCell hb _).setCell hb _).setCell hb _).setCell hb _).setCell hb _
theorem single_any (t:Tok) (w:World) (hs:t.2.size≤9000) (hk:t.1=3→kindL t.2.data.toList=3) (hw:Laid5 w):Calls Tryz.prog 118 #[.agg #[.int .i64 t.1,.string t.2]] w fun e w'=>match singleR t with
   | some (k,n,s)=>e=.returned (flatV k n s)∧Below w.heap.size w w'
   | none=>e=PanicE 2∧Below w.heap.size w w':=by
 obtain ⟨tk,s⟩:=t
 simp only at hs hk ⊢
 obtain ⟨y0,y1,yb⟩:=tok_box w (.int .i64 tk) (.string s) (.cells #[.int .i64 0,.int .i64 0,.string ⟨#[]⟩,.slice none 0 0,.slice none 0 0] 35)
 have Y:=Hd (And.intro y0 (And.intro y1 yb))
 have hsz:Hid (((w.alloc (.cells #[.int .i64 tk,.string s] 70)).alloc (.cells #[.int .i64 0,.int .i64 0,.string ⟨#[]⟩,.slice none 0 0,.slice none 0 0] 35)).heap.size=w.heap.size+2):=Hd (by simp)
 clear y0 y1 yb
 by_cases h2:tk=2
 · subst h2
   have hr:singleR (2,s)=some (wordR s):=by unfold singleR;rw [if_pos rfl]
   rw [hr]
   have HW:=fun wx=>Hd (wordV_any s wx)
   obtain ⟨⟨k,n,x⟩,hx⟩:∃ p,wordR s=p:=⟨_,rfl⟩
   rw [hx] at HW ⊢
   show Calls _ _ _ _ fun e w'=>e=.returned (flatV k n x)∧Below w.heap.size w w'
   unfold flatV at HW ⊢
   clear hr hx hk
   go_enter Tryz.func118,Tryz.ntmps118
   go_wp2_with fail
   refine (HW _).out.mono ?_
   rintro e w2 ⟨rfl,hb⟩
   have z1:=(hb.block (w.heap.size+1) (by have:=hsz.out;omega)).trans Y.out.2.1
   have Z:=Hd (And.intro z1 (Y.out.2.2.trans (hb.mono (by have:=hsz.out;omega))))
   obtain ⟨g0,g1,g2,g3,g4,gz⟩:=gvc z1
   have z0':=gz 0
   have z1':=gz 1
   have z2':=gz 2
   have z3':=gz 3
   have z4':=gz 4
   clear hb z1 HW gz
   go_wp2_with fail
   exact ret_v1 rfl rfl rfl (five_set Z.out.1) ⟨rfl,five_low Z.out.2 (Nat.le_succ _) _ _ _ _ _⟩
 · have e2:(tk == 2)=false:=by simpa using h2
   by_cases h3:tk=3
   · subst h3
     have hk3:=hk rfl
     cases hf:fits64 (intN s.data.toList) with
     | true =>
       have hr:singleR (3,s)=some (2,intN s.data.toList,⟨#[]⟩):=by unfold singleR;rw [if_neg (by simp),if_pos rfl,if_pos hf]
       rw [hr]
       have HP:=fun wx=>Hd (parseInt_yes s (by omega) hk3 hf wx)
       generalize intN s.data.toList=z at *
       have HI:=fun wx=>Hd (pint_any z wx)
       show Calls _ _ _ _ fun e w'=>e=.returned (flatV 2 z ⟨#[]⟩)∧Below w.heap.size w w'
       unfold flatV
       clear hr hk hk3 hf h2
       obtain ⟨q0,q1,_,_⟩:=two_box Y.out.1
       go_enter Tryz.func118,Tryz.ntmps118
       go_wp2_with fail
       refine (HP _).out.mono ?_
       rintro e w2 ⟨rfl,hb⟩
       clear q0 q1
       have z0:=(hb.block w.heap.size (by have:=hsz.out;omega)).trans Y.out.1
       have z1:=(hb.block (w.heap.size+1) (by have:=hsz.out;omega)).trans Y.out.2.1
       have Z:=Hd (And.intro z1 (Y.out.2.2.trans (hb.mono (by have:=hsz.out;omega))))
       have hlt2:w.heap.size+2≤w2.heap.size:=by have:=hb.size;have:=hsz.out;omega
       obtain ⟨q0,q1,_,_⟩:=two_box z0
       obtain ⟨g0,g1,g2,g3,g4,gz⟩:=gvc z1
       have z0':=gz 0
       have z1':=gz 1
       have z2':=gz 2
       have z3':=gz 3
       have z4':=gz 4
       clear hb z0 z1 gz
       go_wp2_with fail
       refine (HI _).out.mono ?_
       rintro e w3 ⟨rfl,hb3⟩
       have z1:=(hb3.block (w.heap.size+1) (by omega)).trans Z.out.1
       have Z3:=Hd (And.intro z1 (Z.out.2.trans (hb3.mono (by omega))))
       clear q0 q1 g0 g1 g2 g3 g4 z0' z1' z2' z3' z4'
       obtain ⟨g0,g1,g2,g3,g4,gz⟩:=gvc z1
       have z0':=gz 0
       have z1':=gz 1
       have z2':=gz 2
       have z3':=gz 3
       have z4':=gz 4
       clear hb3 z1 gz
       go_wp2_with fail
       exact ret_v1 rfl rfl rfl (five_set Z3.out.1) ⟨rfl,five_low Z3.out.2 (Nat.le_succ _) _ _ _ _ _⟩
     | false =>
       have hr:singleR (3,s)=some (3,0,s):=by unfold singleR;rw [if_neg (by simp),if_pos rfl,if_neg (by rw [hf];simp)]
       rw [hr]
       have HP:=fun wx (hx:Laid5 wx)=>Hd (parseInt_no s (by omega) hk3 hf wx hx)
       have HW:=Hd (hw.below Y.out.2.2)
       show Calls _ _ _ _ fun e w'=>e=.returned (flatV 3 0 s)∧Below w.heap.size w w'
       unfold flatV
       clear hr hk hk3 hf h2
       obtain ⟨q0,q1,_,_⟩:=two_box Y.out.1
       go_enter Tryz.func118,Tryz.ntmps118
       go_wp2_with fail
       refine (HP _ HW.out).out.mono ?_
       rintro e w2 ⟨⟨z,N,rfl⟩,hb⟩
       clear q0 q1
       have z0:=(hb.block w.heap.size (by have:=hsz.out;omega)).trans Y.out.1
       have z1:=(hb.block (w.heap.size+1) (by have:=hsz.out;omega)).trans Y.out.2.1
       have Z:=Hd (And.intro z1 (Y.out.2.2.trans (hb.mono (by have:=hsz.out;omega))))
       have hlt2:w.heap.size+2≤w2.heap.size:=by have:=hb.size;have:=hsz.out;omega
       obtain ⟨q0,q1,_,_⟩:=two_box z0
       obtain ⟨g0,g1,g2,g3,g4,gz⟩:=gvc z1
       have z0':=gz 0
       have z1':=gz 1
       have z2':=gz 2
       have z3':=gz 3
       have z4':=gz 4
       clear hb z0 z1 gz
       go_wp2_with fail
       exact ret_v1 rfl rfl rfl (five_set Z.out.1) ⟨rfl,five_low Z.out.2 (Nat.le_succ _) _ _ _ _ _⟩
   · have e3:(tk == 3)=false:=by simpa using h3
     by_cases h4:tk=4
     · subst h4
       have hr:singleR (4,s)=some (3,0,s):=by unfold singleR;rw [if_neg (by simp),if_neg (by simp),if_pos rfl]
       rw [hr]
       show Calls _ _ _ _ fun e w'=>e=.returned (flatV 3 0 s)∧Below w.heap.size w w'
       unfold flatV
       clear hr hk h2 h3
       go_enter Tryz.func118,Tryz.ntmps118
       go_wp2_with fail
       exact ret_v1 rfl rfl rfl (tok_box w _ _ _).2.1 ⟨rfl,(tok_box w _ _ _).2.2⟩
     · have e4:(tk == 4)=false:=by simpa using h4
       by_cases h5:tk=5
       · subst h5
         have hr:singleR (5,s)=some (4,0,s):=by unfold singleR;rw [if_neg (by simp),if_neg (by simp),if_neg (by simp),if_pos rfl]
         rw [hr]
         have HI:=fun wx=>Hd (ptext_any s wx)
         show Calls _ _ _ _ fun e w'=>e=.returned (flatV 4 0 s)∧Below w.heap.size w w'
         unfold flatV
         clear hr hk h2 h3 h4
         go_enter Tryz.func118,Tryz.ntmps118
         go_wp2_with fail
         refine (HI _).out.mono ?_
         rintro e w2 ⟨rfl,hb⟩
         have z0:=(hb.block w.heap.size (by have:=hsz.out;omega)).trans Y.out.1
         have z1:=(hb.block (w.heap.size+1) (by have:=hsz.out;omega)).trans Y.out.2.1
         have Z:=Hd (And.intro z1 (Y.out.2.2.trans (hb.mono (by have:=hsz.out;omega))))
         have hlt2:w.heap.size+2≤w2.heap.size:=by have:=hb.size;have:=hsz.out;omega
         obtain ⟨q0,q1,_,_⟩:=two_box z0
         obtain ⟨g0,g1,g2,g3,g4,gz⟩:=gvc z1
         have z0':=gz 0
         have z1':=gz 1
         have z2':=gz 2
         have z3':=gz 3
         have z4':=gz 4
         clear hb z0 z1 gz
         go_wp2_with fail
         exact ret_v1 rfl rfl rfl (five_set Z.out.1) ⟨rfl,five_low Z.out.2 (Nat.le_succ _) _ _ _ _ _⟩
       · have e5:(tk == 5)=false:=by simpa using h5
         have hr:singleR (tk,s)=none:=by unfold singleR;rw [if_neg h2,if_neg h3,if_neg h4,if_neg h5]
         rw [hr]
         show Calls _ _ _ _ fun e w'=>e=PanicE 2∧Below w.heap.size w w'
         clear hr hk h2 h3 h4 h5
         go_enter Tryz.func118,Tryz.ntmps118
         go_wp2_with fail
         exact ⟨rfl,rfl,Y.out.2.2⟩
end Go.Proofs.YtpkmbhnikilihaaGreatDoor
