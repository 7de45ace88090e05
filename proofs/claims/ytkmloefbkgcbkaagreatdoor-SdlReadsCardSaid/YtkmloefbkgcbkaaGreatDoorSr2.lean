/- Plain facts on bytes, code points, names and UTF-16 units, of no program: what the walks of the package letters and of the document's own answer come to. -/
import Derived.Test.YtkmloefbkgcbkaaGreatDoorSr0
import Derived.Shelf.Strings.BuilderK
import Derived.Shelf.Strings.BuilderRune
import Derived.Test.YtkmloefbkgcbkaaGreatDoorProg
import Derived.WalkLawsBesides
import Derived.Deep.CondSized
import Derived.Test.YtkmloefbkgcbkaaGreatDoorRows
import Derived.ProofKit
import Derived.Carry
import Derived.Deep.Strs
import Derived.Deep.Slices
import Derived.Deep.WholeRow
import Derived.Deep.RegionHeld3
import Derived.Shelf.Abstract
set_option maxRecDepth 100000
namespace Go.Proofs.YtkmloefbkgcbkaaGreatDoor
def Qz (c:Int):Bool:=decide ((97≤c∧c≤122)∨(65≤c∧c≤90)∨c=95)
def Ro (c:Int):Bool:=decide (48≤c∧c≤57)
def X6 (c:Int):Bool:=decide (55296≤c∧c≤57343)
def Ck (a b:Int):Bool:=decide (55296≤a∧a < 56320∧56320≤b∧b≤57343)
def Wz (l:List UInt8):Bool:=l.all fun b=>Qz (b.toNat:Int) || Ro (b.toNat:Int)
def Jv:List UInt8→Bool
 | []=>false
 | b :: t=>Qz (b.toNat:Int) && Wz t
theorem Tg (l m:List UInt8):Wz (l++m)=(Wz l && Wz m):=by simp [Wz]
theorem Lt (l m:List UInt8) (h:l ≠ []):Jv (l++m)=(Jv l && Wz m):=by
 cases l with
 | nil=>exact absurd rfl h
 | cons b t=>simp [Jv,Tg,Bool.and_assoc]
theorem Mm (s:ByteArray) (k:Nat) (h:k < s.size):s.data.toList.take (k+1)=s.data.toList.take k++[s[k]]:=by
 rw [List.take_succ_eq_append_getElem (by simpa using h)];rfl
def Nt (s:ByteArray) (k:Nat):Prop:=k=0∨Jv (s.data.toList.take k)=true
theorem Ylt (s:ByteArray) (k:Nat) (h0:k ≠ 0) (h:k < s.size):s.data.toList.take k ≠ []:=by
 have:s.data.toList.length=s.size:=Array.length_toList;intro e;have:=congrArg List.length e;simp only [List.length_take,List.length_nil] at this;omega
theorem S9 {s:ByteArray} {k:Nat} (h:k < s.size) (ht:Nt s k) (hl:Qz (s[k].toNat:Int)=true):Nt s (k+1):=by
 refine .inr ?_;rw [Mm s k h];rcases ht with h0|ht
 · subst h0;simp [Jv,Wz,hl]
 · rw [Lt _ _ (by intro e;rw [e] at ht;cases ht),ht];simp [Wz,hl]
theorem Zqg {s:ByteArray} {k:Nat} (h:k < s.size) (h0:k ≠ 0) (ht:Nt s k) (hl:Ro (s[k].toNat:Int)=true):Nt s (k+1):=by
 refine .inr ?_;rw [Mm s k h];rcases ht with h0'|ht
 · exact absurd h0' h0
 · rw [Lt _ _ (by intro e;rw [e] at ht;cases ht),ht];simp [Wz,hl]
theorem Br (s:ByteArray) (k:Nat) (h:k < s.size):s.data.toList=s.data.toList.take k++s[k] :: s.data.toList.drop (k+1):=by
 have e:=(List.take_append_drop (k+1) s.data.toList).symm;rw [Mm s k h,List.append_assoc] at e;exact e
theorem Zyk {s:ByteArray} (h:0 < s.size) (hl:Qz (s[0].toNat:Int)=false):Jv s.data.toList=false:=by
 rw [Br s 0 h];simp [Jv,hl]
theorem Yeh {s:ByteArray} {k:Nat} (h:k < s.size) (h0:k ≠ 0) (hl:Qz (s[k].toNat:Int)=false) (hd:Ro (s[k].toNat:Int)=false):Jv s.data.toList=false:=by
 rw [Br s k h,Lt _ _ (Ylt s k h0 h)];simp [Wz,hl,hd]
theorem Yee {s:ByteArray} (ht:Nt s s.size):Jv s.data.toList = !s.toList.isEmpty:=by
 have hl:s.data.toList.length=s.size:=Array.length_toList;have e:s.toList=s.data.toList:=Lib.toList_data s;rw [e];rcases ht with h0|ht
 · have:s.data.toList=[]:=List.eq_nil_of_length_eq_zero (by omega)
   rw [this];rfl
 · rw [← hl,List.take_length] at ht
   rw [ht]
   cases h:s.data.toList with
   | nil=>rw [h] at ht;cases ht
   | cons _ _=>rfl
open Go.RowKit
theorem Aside.intro {p:Prop} (h:p):Aside p:=h
theorem Z6 {a b:Bool} (h:a=b):Ending.returned (.bool a)=.returned (.bool b):=by rw [h]
theorem Uz {a b:Bool} {w:World} (h:a=true ↔ b=true):Ending.returned (.bool a)=.returned (.bool b)∧w=w:=by rw [Bool.eq_iff_iff.2 h];exact ⟨rfl,rfl⟩
theorem Ev (c:Int) (w:World):Calls Tryz.prog 129 #[.int .u8 c] w fun e w'=>e=.returned (.bool (Qz c))∧w=w':=by
 go_enter Tryz.func129,Tryz.ntmps129
 go_wp2
 all_goals go_ret
 all_goals (refine Uz ?_;simp [Qz];try omega)
theorem W9 (c:Int) (w:World):Calls Tryz.prog 130 #[.int .u8 c] w fun e w'=>e=.returned (.bool (Ro c))∧w=w':=by
 go_enter Tryz.func130,Tryz.ntmps130
 go_wp2
 all_goals go_ret
 all_goals (refine Uz ?_;simp [Ro];try omega)
theorem Cp (c:Int) (w:World):Calls Tryz.prog 64 #[.int .u8 c] w fun e w'=>e=.returned (.bool (Qz c))∧w=w':=by
 go_enter Tryz.func64,Tryz.ntmps64
 go_wp2
 all_goals go_ret
 all_goals (refine Uz ?_;simp [Qz];try omega)
theorem Uw (c:Int) (w:World):Calls Tryz.prog 65 #[.int .u8 c] w fun e w'=>e=.returned (.bool (Ro c))∧w=w':=by
 go_enter Tryz.func65,Tryz.ntmps65
 go_wp2
 all_goals go_ret
 all_goals (refine Uz ?_;simp [Ro];try omega)
theorem Ei (c:Int) (w:World):Calls Tryz.prog 127 #[.int .i64 c] w fun e w'=>e=.returned (.bool (X6 c))∧w=w':=by
 go_enter Tryz.func127,Tryz.ntmps127
 go_wp2
 all_goals go_ret
 all_goals (refine Uz ?_;simp [X6];try omega)
theorem Yhb (a b:Int) (w:World):Calls Tryz.prog 157 #[.int .i64 a,.int .i64 b] w fun e w'=>e=.returned (.bool (Ck a b))∧w=w':=by
 go_enter Tryz.func157,Tryz.ntmps157
 go_wp2
 all_goals go_ret
 all_goals (refine Uz ?_;simp [Ck];try omega)
theorem Dp (s:ByteArray) (w:World) (hs:s.size≤1100000):Calls Tryz.prog 103 #[.string s] w fun e w'=>e=.returned (.bool (Jv s.data.toList))∧w=w':=by
 go_enter Tryz.func103,Tryz.ntmps103
 go_wp2
 go_loop [6] (fun i=>∃ k:Nat,k≤s.size∧i=.int .i64 k∧Nt s k) (fun i=>s.size - (intOf i).toNat)
 case atStart=>exact ⟨0,Nat.zero_le _,rfl,.inl rfl⟩
 case round =>
  obtain ⟨k,hk,rfl,H⟩:=hrel
  by_cases hlt:k < s.size
  · cases hl:Qz (s[k].toNat:Int)
    · by_cases h0:k=0
      · have hst:=Aside.intro (Zyk (s:=s) (by omega) (by subst h0;exact hl))
        have e0:((k:Int) == 0)=true:=by simp [h0]
        clear h0 H
        go_wp2_with (first
          | (go_at_call 129;refine (Ev _ _).mono ?_;rintro e w' ⟨rfl,rfl⟩)
          | (go_at_call 130;refine (W9 _ _).mono ?_;rintro e w' ⟨rfl,rfl⟩))
        go_ret
        exact ⟨Z6 hst.out.symm,rfl⟩
      · have e0:((k:Int) == 0)=false:=by simp [h0]
        cases hd:Ro (s[k].toNat:Int)
        · have hst:=Aside.intro (Yeh (s:=s) hlt h0 hl hd)
          clear h0 H
          go_wp2_with (first
           | (go_at_call 129;refine (Ev _ _).mono ?_;rintro e w' ⟨rfl,rfl⟩)
           | (go_at_call 130;refine (W9 _ _).mono ?_;rintro e w' ⟨rfl,rfl⟩))
          go_ret
          exact ⟨Z6 hst.out.symm,rfl⟩
        · have hst:=Aside.intro (Zqg (s:=s) hlt h0 H hd)
          clear h0 H
          go_wp2_with (first
           | (go_at_call 129;refine (Ev _ _).mono ?_;rintro e w' ⟨rfl,rfl⟩)
           | (go_at_call 130;refine (W9 _ _).mono ?_;rintro e w' ⟨rfl,rfl⟩))
          go_round
          case rel=>exact ⟨k+1,by omega,by go_num,hst.out⟩
          case measure=>simp [intOf];omega
    · have hst:=Aside.intro (S9 (s:=s) hlt H hl)
      clear H
      go_wp2_with (first
        | (go_at_call 129;refine (Ev _ _).mono ?_;rintro e w' ⟨rfl,rfl⟩)
        | (go_at_call 130;refine (W9 _ _).mono ?_;rintro e w' ⟨rfl,rfl⟩))
      go_round
      case rel=>exact ⟨k+1,by omega,by go_num,hst.out⟩
      case measure=>simp [intOf];omega
  · obtain rfl:k=s.size:=by omega
    have hst:=Aside.intro (Yee H);clear H hk;go_wp2
    go_ret
    exact ⟨Z6 hst.out.symm,rfl⟩
open Go.Shelf Go.RowKit
def Ybw:Go.Shelf.Ren:=⟨fun|168=>158|240=>135|242=>174|276=>154|278=>185|n=>n,fun|0=>0|3=>3|4=>4|5=>5|9=>9|20=>20|21=>21|37=>128|46=>129|51=>198|70=>135|72=>137|75=>139|80=>47|164=>177|n=>n,fun|n=>n⟩
theorem Yib:Go.Proofs.Lays.n168 Tryz.prog Ybw:={
 mixed:=by kernel_rfl
 f168:=Tryz.func158.trans (congrArg some (by kernel_rfl))
 f240:=Tryz.func135.trans (congrArg some (by kernel_rfl))
 f242:=Tryz.func174.trans (congrArg some (by kernel_rfl))
 f276:=Tryz.func154.trans (congrArg some (by kernel_rfl))
 f278:=Tryz.func185.trans (congrArg some (by kernel_rfl))
 t0:=Tryz.underlying0
 a0:=Tryz.isAgg0
 z0:=Tryz.sizeOf0
 v0:=Tryz.zeroValue0
 t3:=Tryz.underlying3
 a3:=Tryz.isAgg3
 z3:=Tryz.sizeOf3
 v3:=Tryz.zeroValue3
 t4:=Tryz.underlying4
 a4:=Tryz.isAgg4
 z4:=Tryz.sizeOf4
 v4:=Tryz.zeroValue4
 t5:=Tryz.underlying5
 a5:=Tryz.isAgg5
 z5:=Tryz.sizeOf5
 v5:=Tryz.zeroValue5
 t9:=Tryz.underlying9
 a9:=Tryz.isAgg9
 z9:=Tryz.sizeOf9
 v9:=Tryz.zeroValue9
 t20:=Tryz.underlying20
 a20:=Tryz.isAgg20
 z20:=Tryz.sizeOf20
 v20:=Tryz.zeroValue20
 t21:=Tryz.underlying21
 a21:=Tryz.isAgg21
 z21:=Tryz.sizeOf21
 v21:=Tryz.zeroValue21
 t37:=Tryz.underlying128
 a37:=Tryz.isAgg128
 z37:=Tryz.sizeOf128
 v37:=Tryz.zeroValue128
 t46:=Tryz.underlying129
 a46:=Tryz.isAgg129
 z46:=Tryz.sizeOf129
 v46:=Tryz.zeroValue129
 t51:=Tryz.underlying198
 a51:=Tryz.isAgg198
 z51:=Tryz.sizeOf198
 v51:=Tryz.zeroValue198
 t70:=Tryz.underlying135
 a70:=Tryz.isAgg135
 z70:=Tryz.sizeOf135
 v70:=Tryz.zeroValue135
 t72:=Tryz.underlying137
 a72:=Tryz.isAgg137
 z72:=Tryz.sizeOf137
 v72:=Tryz.zeroValue137
 t75:=Tryz.underlying139
 a75:=Tryz.isAgg139
 z75:=Tryz.sizeOf139
 v75:=Tryz.zeroValue139
 t164:=Tryz.underlying177
 a164:=Tryz.isAgg177
 z164:=Tryz.sizeOf177
 v164:=Tryz.zeroValue177 }
theorem Yct:Builder.Extra Tryz.prog Ybw:={
 sizeBuilder:=by kernel_rfl
 liesBuilder:=by kernel_rfl
 t5:=Tryz.underlying5
 a5:=Tryz.isAgg5
 z5:=Tryz.sizeOf5
 v5:=Tryz.zeroValue5
 infoByte:=by kernel_rfl
 cellsByte:=by kernel_rfl
 sizeByte:=by kernel_rfl
 neB5:=by decide }
theorem Zq3 (B b:Nat) (bs:List Value) (r:Int) (hr0 : -2147483648≤r) (hr1:r≤2147483647) (w:World) (h:Lib.IsBuilderF 137 5 B b bs w) (hlen:bs.length+4≤140737488355328) (hBw:B≤w.heap.size) :
  Calls Tryz.prog 158 #[.pointer (some ⟨b,0,none⟩),.int .i32 r] w fun e w'=>e=.returned (.tuple #[.int .i64 (Lib.runeCells r).length,.nilIface])∧(Lib.BuilderAtF 137 5 B b (.pointer (some ⟨b,0,none⟩)) (bs++Lib.runeCells r) w'∧Below B w w'∧Lib.OthersKept 5 (some b) w w'):=
 Any.Builder_WriteRune_k Yib Yct B b bs r hr0 hr1 w h hlen hBw
def Ydb:Go.Shelf.Ren:=⟨fun|169=>106|n=>n,fun|0=>0|3=>3|9=>9|37=>128|70=>135|72=>137|127=>162|5=>5|n=>n,fun|n=>n⟩
theorem Yh3:Go.Proofs.Lays.n169 Tryz.prog Ydb:={
 mixed:=by kernel_rfl
 f169:=Tryz.func106.trans (congrArg some (by kernel_rfl))
 t0:=Tryz.underlying0
 a0:=Tryz.isAgg0
 z0:=Tryz.sizeOf0
 v0:=Tryz.zeroValue0
 t3:=Tryz.underlying3
 a3:=Tryz.isAgg3
 z3:=Tryz.sizeOf3
 v3:=Tryz.zeroValue3
 t9:=Tryz.underlying9
 a9:=Tryz.isAgg9
 z9:=Tryz.sizeOf9
 v9:=Tryz.zeroValue9
 t37:=Tryz.underlying128
 a37:=Tryz.isAgg128
 z37:=Tryz.sizeOf128
 v37:=Tryz.zeroValue128
 t70:=Tryz.underlying135
 a70:=Tryz.isAgg135
 z70:=Tryz.sizeOf135
 v70:=Tryz.zeroValue135
 t72:=Tryz.underlying137
 a72:=Tryz.isAgg137
 z72:=Tryz.sizeOf137
 v72:=Tryz.zeroValue137
 t127:=Tryz.underlying162
 a127:=Tryz.isAgg162
 z127:=Tryz.sizeOf162
 v127:=Tryz.zeroValue162 }
theorem Yfb:Builder.Extra Tryz.prog Ydb:={
 sizeBuilder:=by kernel_rfl
 liesBuilder:=by kernel_rfl
 t5:=Tryz.underlying5
 a5:=Tryz.isAgg5
 z5:=Tryz.sizeOf5
 v5:=Tryz.zeroValue5
 infoByte:=by kernel_rfl
 cellsByte:=by kernel_rfl
 sizeByte:=by kernel_rfl
 neB5:=by decide }
theorem C6 (B b:Nat) (l:List UInt8) (w:World) (h:Lib.IsBuilderF 137 5 B b (Lib.byteCells l) w) (hBw:B≤w.heap.size) :
  Calls Tryz.prog 106 #[.pointer (some ⟨b,0,none⟩)] w fun e w'=>e=.returned (.string ⟨l.toArray⟩)∧(Lib.IsBuilderF 137 5 B b (Lib.byteCells l) w'∧Below B w w'∧Lib.OthersKept 5 (some b) w w'):=
 Any.Builder_String_any_k Yh3 Yfb B b l w h hBw
abbrev Tok:=Int × ByteArray
def Z0 (r:Nat) (w w':World):Prop:=w.grownBy w' (some r)
theorem Z0.refl (r:Nat) (w:World):Z0 r w w:=⟨rfl,rfl,rfl,Nat.le_refl _,fun _ _ _=>rfl⟩
theorem Z0.of_below {r:Nat} {w w':World} (h:Below w.heap.size w w'):Z0 r w w':=⟨h.os,h.tape,h.output,h.size,fun b hb _=>h.block b hb⟩
theorem Z0.trans {r:Nat} {w w1 w2:World} (h:Z0 r w w1) (h':Z0 r w1 w2):Z0 r w w2:=
 ⟨h'.os.trans h.os,h'.tape.trans h.tape,h'.output.trans h.output,Nat.le_trans h.size h'.size,fun b hb hn=>(h'.block b (Nat.lt_of_lt_of_le hb h.size) hn).trans (h.block b hb hn)⟩
theorem Z0.set {r i:Nat} {w:World} {v:Value} : Z0 r w (w.setCell ⟨r,i,none⟩ v):=by
 exact ⟨rfl,rfl,rfl,by simp [World.setCell],fun b hb hn=>Below.heap_setCell _ _ _ _ (fun e=>hn (by rw [e]))⟩
def Lw (w:World) (r:Nat) (A:Option Addr) (ts:List Tok):Prop:=∀ (j:Nat) t,ts[j]? = some t→∃ b o,A=some ⟨b,o,none⟩∧b < r∧w.cell? ⟨b,o+j*2,none⟩=some (.int .i64 t.1)∧w.cell? ⟨b,o+j*2+1,none⟩=some (.string t.2)
theorem Lw.moved {w w':World} {r:Nat} {A:Option Addr} {ts:List Tok} (h:Lw w r A ts) (hm:Z0 r w w') (hr:r < w.heap.size):Lw w' r A ts:=by
 intro j t ht;obtain ⟨b,o,e,hb,h0,h1⟩:=h j t ht;have hs:=hm.block b (by omega) (fun e=>by injection e;omega);exact ⟨b,o,e,hb,(World.cell?_of_block (a:=⟨b,o+j*2,none⟩) hs).trans h0,(World.cell?_of_block (a:=⟨b,o+j*2+1,none⟩) hs).trans h1⟩
def Rd (w:World) (r:Nat) (ts:List Tok) (d:Nat):Prop:=∃ A c,w.heap[r]? = some (.cells #[.slice A ts.length c,.int .i64 d] 57 (0,0))∧ts.length≤c∧ts.length≤200000∧Lw w r A ts
theorem Rd.lt {w:World} {r:Nat} {ts:List Tok} {d:Nat} (h:Rd w r ts d):r < w.heap.size:=by
 obtain ⟨A,c,h,_⟩:=h;exact (Array.getElem?_eq_some_iff.1 h).1
theorem Rd.below {w w':World} {r:Nat} {ts:List Tok} {d:Nat} (h:Rd w r ts d) (hb:Below w.heap.size w w'):Rd w' r ts d:=by
 have hl:=h.lt;obtain ⟨A,c,h0,h1,h2,h3⟩:=h;exact ⟨A,c,(hb.block r hl).trans h0,h1,h2,h3.moved (Z0.of_below hb) hl⟩
theorem Ug {w:World} {b:Nat} {z0 z1:Value} {t:TypeId} (h:w.heap[b]? = some (.cells #[z0,z1] t (0,0))):w.cell? ⟨b,0,none⟩=some z0∧w.cell? ⟨b,1,none⟩=some z1∧w.frozen? ⟨b,0,none⟩=false∧w.frozen? ⟨b,1,none⟩=false:=by
 refine ⟨?_,?_,?_,?_⟩
 · simp only [World.cell?,h];rfl
 · simp only [World.cell?,h];rfl
 · simp [World.frozen?,h]
 · simp [World.frozen?,h]
def Yb (e:Int):Ending:=.panicked [{ v:=.iface 54 (.agg #[.int .i64 e]),recovered:=false }]
def atB (k:Int) (s:ByteArray):List Tok→Bool
 | []=>false
 | t :: _=>t.1 == k && (t.2.toList == s.toList)
def Ymc:List Tok→Bool
 | []=>false
 | t :: _=>t.1 == 2
theorem Vb (r:Nat) (ts:List Tok) (d:Nat) (w:World) (h:Rd w r ts d):Calls Tryz.prog 21 #[.pointer (some ⟨r,0,none⟩)] w fun e w'=>e=.returned (.bool ts.isEmpty)∧w=w':=by
 obtain ⟨A,c,h0,h1,h2,h3⟩:=h;obtain ⟨c0,c1,_,_⟩:=Ug h0;have he:((ts.length:Int) == 0)=ts.isEmpty:=by cases ts<;>simp;omega
 obtain ⟨b,hb⟩:∃ b,ts.isEmpty=b:=⟨_,rfl⟩;rw [hb] at he ⊢;clear h0 h3 hb;generalize ts.length=n at *
 go_enter Tryz.func21,Tryz.ntmps21
 go_wp2_with fail
 go_ret
 exact ⟨rfl,rfl⟩
theorem Ir (r:Nat) (ts:List Tok) (d:Nat) (k:Int) (s:ByteArray) (w:World) (h:Rd w r ts d):Calls Tryz.prog 46 #[.pointer (some ⟨r,0,none⟩),.int .i64 k,.string s] w fun e w'=>e=.returned (.bool (atB k s ts))∧w=w':=by
 have HE:=Hd (Vb r ts d w h);obtain ⟨A,c,h0,h1,h2,h3⟩:=h;obtain ⟨c0,c1,_,_⟩:=Ug h0
 cases ts with
 | nil =>
   clear h0 h3
   go_enter Tryz.func46,Tryz.ntmps46
   go_wp2_with fail
   refine HE.out.mono ?_;rintro e w1 ⟨rfl,rfl⟩;go_wp2_with fail
   go_ret
   exact ⟨rfl,rfl⟩
 | cons t ts =>
   obtain ⟨b,o,rfl,hb,g0,g1⟩:=h3 0 t rfl;obtain ⟨tk,tx⟩:=t;simp only [Nat.zero_mul,Nat.add_zero] at g0 g1;have hr:Hid (atB k s ((tk,tx) :: ts)=(tk == k && (tx.toList == s.toList))):=Hd rfl;have hn:(0:Int) < (((tk,tx) :: ts).length:Int):=by simp
   have hn2:((tk,tx) :: ts).length=ts.length+1:=rfl;clear h0 h3
   go_enter Tryz.func46,Tryz.ntmps46
   go_wp2_with fail
   refine HE.out.mono ?_;rintro e w1 ⟨rfl,rfl⟩;go_wp2_with fail
   all_goals
    go_ret
    exact ⟨Z6 (by rw [hr.out];simp [*]),rfl⟩
def Zyh (k:Int):List Tok→Bool
 | []=>false
 | t :: _=>t.1 == k
theorem Ya1 (k:Int) (r:Nat) (ts:List Tok) (d:Nat) (w:World) (h:Rd w r ts d):Calls Tryz.prog 44 #[.pointer (some ⟨r,0,none⟩),.int .i64 k] w fun e w'=>e=.returned (.bool (Zyh k ts))∧w=w':=by
 have HE:=Hd (Vb r ts d w h);obtain ⟨A,c,h0,h1,h2,h3⟩:=h;obtain ⟨c0,c1,_,_⟩:=Ug h0
 cases ts with
 | nil =>
   clear h0 h3
   go_enter Tryz.func44,Tryz.ntmps44
   go_wp2_with fail
   refine HE.out.mono ?_;rintro e w1 ⟨rfl,rfl⟩;go_wp2_with fail
   go_ret
   exact ⟨rfl,rfl⟩
 | cons t ts =>
   obtain ⟨b,o,rfl,hb,g0,g1⟩:=h3 0 t rfl;obtain ⟨tk,tx⟩:=t;simp only [Nat.zero_mul,Nat.add_zero] at g0 g1;have hn:(0:Int) < (((tk,tx) :: ts).length:Int):=by simp
   have hn2:((tk,tx) :: ts).length=ts.length+1:=rfl;clear h0 h3
   go_enter Tryz.func44,Tryz.ntmps44
   go_wp2_with fail
   refine HE.out.mono ?_;rintro e w1 ⟨rfl,rfl⟩;go_wp2_with fail
   go_ret
   exact ⟨rfl,rfl⟩
theorem Zx1 (w:World) (r:Nat) (v:Value) (o o':Obj):(((w.setCell ⟨r,0,none⟩ v).alloc o).alloc o').heap[w.heap.size]? = some o:=by
 have h1:(w.setCell ⟨r,0,none⟩ v).heap.size=w.heap.size:=by simp [World.setCell]
 rw [Below.heap_alloc _ _ _ (by simp [h1])];have:=heap_alloc_new (w.setCell ⟨r,0,none⟩ v) o
 rwa [h1] at this
theorem Cr {R:Ending→World→Prop} {fn:Func} {a:Act} {W:World} {c0 c1:Value} {p b:Nat} (hf:fn.results=#[.cell p 45]) (h2:a.tmps.getD p undef=.pointer (some ⟨b,0,none⟩)) (hd:a.defers=[])
  (hc:W.heap[b]? = some (.cells #[c0,c1] 45 (0,0))) (hR:R (.returned (.agg #[c0,c1])) W):bodyPost Tryz.prog fn R .ret a W:=by
 have hl:(loadVar 45 ⟨b,0,none⟩).run Tryz.prog W=.ok (.agg #[c0,c1]) W:=
  run_loadVar_row W b 45 45 #[c0,c1] (0,0) _ hc Tryz.underlying45 rfl (by kernel_rfl)
 refine bodyPost_ret ?_ hd hR;have h2':a.tmps[p]?.getD undef=.pointer (some ⟨b,0,none⟩):=by rw [← h2];simp
 simp [results,hf,h2',asAddr,hl]
theorem Pu {w:World} {r:Nat} {x y v:Value} {tt:TypeId} {o o':Obj} (h:w.heap[r]? = some (.cells #[x,y] tt (0,0))):(((w.setCell ⟨r,0,none⟩ v).alloc o).alloc o').heap[r]? = some (.cells #[v,y] tt (0,0))∧Z0 r w (((w.setCell ⟨r,0,none⟩ v).alloc o).alloc o'):=by
 have hl:r < w.heap.size:=(Array.getElem?_eq_some_iff.1 h).1;have h1:(w.setCell ⟨r,0,none⟩ v).heap.size=w.heap.size:=by simp [World.setCell]
 refine ⟨?_,Z0.set.trans ((Z0.of_below ((Below.refl _ _).alloc (Nat.le_refl _) o)).trans (Z0.of_below ((Below.refl _ _).alloc (Nat.le_refl _) o')))⟩;rw [Below.heap_alloc _ _ _ (by simp [h1];omega),Below.heap_alloc _ _ _ (by rw [h1];exact hl)];exact heap_setCell_same _ r 0 _ _ _ h
theorem Ynf (b o:Nat):(⟨b,o,none⟩:Addr).add 2=⟨b,o+2,none⟩:=by unfold Addr.add;split<;>simp_all
theorem Yhg {w w2:World} {r:Nat} {t:Tok} {ts:List Tok} {d c:Nat} {b o:Nat} (hA:Lw w r (some ⟨b,o,none⟩) (t :: ts)) (hr:r < w.heap.size) (hlen:ts.length≤200000) (hc:ts.length≤c)
  (hm:Z0 r w w2) (h2:w2.heap[r]? = some (.cells #[.slice (some ⟨b,o+2,none⟩) ts.length c,.int .i64 d] 57 (0,0))):Rd w2 r ts d:=by
 refine ⟨_,c,h2,hc,hlen,fun j u hu=>?_⟩;obtain ⟨b',o',e,hb,g0,g1⟩:=(hA.moved hm hr) (j+1) u (by simpa using hu);injection e with e
 injection e with e1 e2
 subst e1 e2;exact ⟨b,o+2,rfl,hb,by rw [show o+2+j*2=o+(j+1)*2 by omega];exact g0,by rw [show o+2+j*2+1=o+(j+1)*2+1 by omega];exact g1⟩
theorem Zzs (r d:Nat) (w:World) (h:Rd w r [] d):Calls Tryz.prog 45 #[.pointer (some ⟨r,0,none⟩)] w fun e w'=>e=Yb 2∧Z0 r w w':=by
 have HE:=fun wx hb=>Hd (Vb r [] d wx (h.below (w':=wx) hb));have hb0:=Hd (fun o=>(Below.refl w.heap.size w).alloc (Nat.le_refl _) o);clear h
 go_enter Tryz.func45,Tryz.ntmps45
 go_wp2_with fail
 refine (HE _ (hb0.out _)).out.mono ?_;rintro e w1 ⟨rfl,rfl⟩;go_wp2_with fail
 exact ⟨rfl,rfl,Z0.of_below (hb0.out _)⟩
theorem Wc (r:Nat) (t:Tok) (ts:List Tok) (d:Nat) (w:World) (h:Rd w r (t :: ts) d):Calls Tryz.prog 45 #[.pointer (some ⟨r,0,none⟩)] w fun e w'=>e=.returned (.agg #[.int .i64 t.1,.string t.2])∧Rd w' r ts d∧Z0 r w w':=by
 have HE:=fun wx hb=>Hd (Vb r (t :: ts) d wx (h.below (w':=wx) hb));have hb0:=Hd (fun o=>(Below.refl w.heap.size w).alloc (Nat.le_refl _) o);have hl:=h.lt;obtain ⟨A,c,h0,h1,h2,h3⟩:=h;obtain ⟨b,o,rfl,hb,g0,g1⟩:=h3 0 t rfl;have H3:=Hd h3;obtain ⟨tk,tx⟩:=t;simp only [Nat.zero_mul,Nat.add_zero] at g0 g1;have hcell0:(w.alloc (.cells #[.int .i64 0,.string ⟨#[]⟩] 45)).heap[r]? = some (.cells #[.slice (some ⟨b,o,none⟩) (ts.length+1) c,.int .i64 d] 57 (0,0)):=((hb0.out _).block r hl).trans h0;obtain ⟨c0,c1,z0,z1⟩:=Ug hcell0;have e0:=((hb0.out (.cells #[.int .i64 0,.string ⟨#[]⟩] 45)).cell (p:=⟨b,o,none⟩) (by simp;omega)).trans g0;have e1:=((hb0.out (.cells #[.int .i64 0,.string ⟨#[]⟩] 45)).cell (p:=⟨b,o+1,none⟩) (by simp;omega)).trans g1;have hlen:ts.length+1≤200000:=by simpa using h2
 have hcap:ts.length+1≤c:=by simpa using h1
 have hsl:=Ynf b o;have H0:=Hd h0;have HL:=Hd hl;clear h0 h3 h1 h2 g0 g1
 by_cases hc1:c=1
 · subst hc1
   obtain rfl:ts=[]:=List.length_eq_zero_iff.1 (by omega)
   go_enter Tryz.func45,Tryz.ntmps45
   go_wp2_with fail
   refine (HE _ (hb0.out _)).out.mono ?_;rintro e w1 ⟨rfl,rfl⟩;go_wp2_with fail
   refine Cr rfl rfl rfl (Zx1 _ _ _ _ _) ?_;obtain ⟨t1,t2⟩:=Pu (v:=.slice (some ⟨b,o,none⟩) 0 0) (o:=.cells #[.int .i64 tk,.string tx] 45) (o':=.cells #[.int .i64 tk,.string tx] 45) H0.out;exact ⟨rfl,⟨_,0,t1,Nat.le_refl _,by simp,fun j u hu=>by simp at hu⟩,t2⟩
 · obtain ⟨c',rfl⟩:∃ c',c=c'+1:=⟨c - 1,by omega⟩
   have hc':0 < c':=by omega
   go_enter Tryz.func45,Tryz.ntmps45
   go_wp2_with fail
   refine (HE _ (hb0.out _)).out.mono ?_;rintro e w1 ⟨rfl,rfl⟩;go_wp2_with fail
   refine Cr rfl rfl rfl (Zx1 _ _ _ _ _) ?_;obtain ⟨t1,t2⟩:=Pu (v:=.slice (some ⟨b,o+2,none⟩) ts.length c') (o:=.cells #[.int .i64 tk,.string tx] 45) (o':=.cells #[.int .i64 tk,.string tx] 45) H0.out;exact ⟨rfl,Yhg H3.out HL.out (by omega) (by omega) t2 t1,t2⟩
theorem Ylx {k:Int} {s:ByteArray} {ts:List Tok} (h:atB k s ts=true):∃ t,ts=t :: ts.tail:=by
 cases ts with
 | nil=>cases h
 | cons t ts=>exact ⟨t,rfl⟩
def Xs (k:Int) (s:ByteArray) (ts:List Tok):List Tok:=if atB k s ts=true then ts.tail else ts
theorem Yg (r:Nat) (ts:List Tok) (d:Nat) (k:Int) (s:ByteArray) (w:World) (h:Rd w r ts d):Calls Tryz.prog 23 #[.pointer (some ⟨r,0,none⟩),.int .i64 k,.string s] w fun e w'=>e=.returned (.bool (atB k s ts))∧Rd w' r (Xs k s ts) d∧Z0 r w w':=by
 have HA:=Hd (Ir r ts d k s w h);have H:=Hd h;clear h
 cases hb:atB k s ts with
 | false =>
   rw [hb] at HA;have hs:Hid (Xs k s ts=ts):=Hd (by unfold Xs;rw [hb];rfl);clear hb
   go_enter Tryz.func23,Tryz.ntmps23
   go_wp2_with fail
   refine HA.out.mono ?_;rintro e w1 ⟨rfl,rfl⟩;go_wp2_with fail
   go_ret
   exact ⟨rfl,by rw [hs.out];exact H.out,Z0.refl _ _⟩
 | true =>
   rw [hb] at HA;have hs:Hid (Xs k s ts=ts.tail):=Hd (by unfold Xs;rw [hb];rfl);obtain ⟨t,ht⟩:=Ylx hb;have HT:=Hd (Wc r t ts.tail d w (by rw [← ht];exact H.out));clear hb ht
   go_enter Tryz.func23,Tryz.ntmps23
   go_wp2_with fail
   refine HA.out.mono ?_;rintro e w1 ⟨rfl,rfl⟩;go_wp2_with fail
   refine HT.out.mono ?_;rintro e w2 ⟨rfl,h2,m2⟩;have H2:=Hd (And.intro h2 m2);clear h2 m2;go_wp2_with fail
   go_ret
   exact ⟨rfl,by rw [hs.out];exact H2.out.1,H2.out.2⟩
theorem Xa (r:Nat) (ts:List Tok) (d:Nat) (k:Int) (s:ByteArray) (w:World) (h:Rd w r ts d):Calls Tryz.prog 47 #[.pointer (some ⟨r,0,none⟩),.int .i64 k,.string s] w fun e w'=>if atB k s ts=true then e=.returned (.tuple #[])∧Rd w' r ts.tail d∧Z0 r w w' else e=Yb 2∧Z0 r w w':=by
 have HA:=Hd (Yg r ts d k s w h)
 cases hb:atB k s ts with
 | false =>
   rw [hb] at HA;simp only [Bool.false_eq_true,if_false];clear hb h
   go_enter Tryz.func47,Tryz.ntmps47
   go_wp2_with fail
   refine HA.out.mono ?_;rintro e w1 ⟨rfl,h1,m1⟩;have M1:=Hd m1;clear h1 m1;go_wp2_with fail
   exact ⟨rfl,rfl,M1.out⟩
 | true =>
   have hs:Hid (Xs k s ts=ts.tail):=Hd (by unfold Xs;rw [hb];rfl);rw [hb] at HA;simp only [if_true];clear hb h
   go_enter Tryz.func47,Tryz.ntmps47
   go_wp2_with fail
   refine HA.out.mono ?_;rintro e w1 ⟨rfl,h1,m1⟩;rw [hs.out] at h1;have M1:=Hd (And.intro h1 m1);clear h1 m1;go_wp2_with fail
   go_end0
   exact ⟨rfl,M1.out.1,M1.out.2⟩
def Zg:List Tok→Option (ByteArray × List Tok)
 | []=>none
 | t :: ts=>if t.1=2 then some (t.2,ts) else none
theorem Yr (r:Nat) (ts:List Tok) (d:Nat) (w:World) (h:Rd w r ts d):Calls Tryz.prog 48 #[.pointer (some ⟨r,0,none⟩)] w fun e w'=>match Zg ts with
   | some (s,ts')=>e=.returned (.string s)∧Rd w' r ts' d∧Z0 r w w'
   | none=>e=Yb 2∧Z0 r w w':=by
 cases ts with
 | nil =>
   have HT:=Hd (Zzs r d w h);clear h
   show Calls _ _ _ _ fun e w'=>e=Yb 2∧Z0 r w w'
   go_enter Tryz.func48,Tryz.ntmps48
   go_wp2_with fail
   refine HT.out.mono ?_;rintro e w1 ⟨rfl,m1⟩;exact ⟨rfl,rfl,m1⟩
 | cons t ts =>
   obtain ⟨k,s⟩:=t;have HT:=Hd (Wc r (k,s) ts d w h);clear h
   by_cases hk:k=2
   · subst hk
     show Calls _ _ _ _ fun e w'=>e=.returned (.string s)∧Rd w' r ts d∧Z0 r w w'
     go_enter Tryz.func48,Tryz.ntmps48
     go_wp2_with fail
     refine HT.out.mono ?_;rintro e w1 ⟨rfl,h1,m1⟩;have H1:=Hd (And.intro h1 m1);clear h1 m1;go_wp2_with fail
     go_ret
     exact ⟨rfl,H1.out.1.below ((Below.refl _ _).alloc (Nat.le_refl _) _),H1.out.2.trans (Z0.of_below ((Below.refl _ _).alloc (Nat.le_refl _) _))⟩
   · have hr:Zg ((k,s) :: ts)=none:=by show (if k=2 then some (s,ts) else none)=none;rw [if_neg hk]
     rw [hr];have hk':(k != 2)=true:=by simpa using hk
     clear hk hr
     go_enter Tryz.func48,Tryz.ntmps48
     go_wp2_with fail
     refine HT.out.mono ?_;rintro e w1 ⟨rfl,h1,m1⟩;have H1:=Hd (And.intro h1 m1);clear h1 m1;go_wp2_with fail
     exact ⟨rfl,rfl,H1.out.2.trans (Z0.of_below ((Below.refl _ _).alloc (Nat.le_refl _) _))⟩
theorem Rd.deep {w:World} {r:Nat} {ts:List Tok} {d d':Nat} (h:Rd w r ts d) {z:Int} (hz:z=(d':Int)):Rd (w.setCell ⟨r,1,none⟩ (.int .i64 z)) r ts d'∧Z0 r w (w.setCell ⟨r,1,none⟩ (.int .i64 z)):=by
 subst hz;have hl:=h.lt;obtain ⟨A,c,h0,h1,h2,h3⟩:=h;exact ⟨⟨A,c,heap_setCell_same _ r 1 _ _ _ h0,h1,h2,h3.moved Z0.set hl⟩,Z0.set⟩
theorem Zza (r:Nat) (ts:List Tok) (d:Nat) (w:World) (hd:d≤1000) (h:Rd w r ts (d+1)):Calls Tryz.prog 165 #[.pointer (some ⟨r,0,none⟩)] w fun e w'=>e=.returned (.tuple #[])∧Rd w' r ts d∧Z0 r w w':=by
 have H:=Hd h;obtain ⟨A,c,h0,h1,h2,h3⟩:=h;obtain ⟨c0,c1,z0,z1⟩:=Ug h0;have hz:((d+1:Nat):Int) - 1=(d:Int):=by omega
 obtain ⟨D,hD⟩:∃ D,d+1=D:=⟨_,rfl⟩;rw [hD] at c1 hz;have HE:=Hd (H.out.deep (d':=d) rfl);have hDb:D≤1001:=by omega
 clear h0 h3 hD H
 go_enter Tryz.func165,Tryz.ntmps165
 go_wp2_with fail
 go_end0
 exact ⟨rfl,HE.out.1,HE.out.2⟩
theorem Zq5 (r:Nat) (ts:List Tok) (d:Nat) (s:ByteArray) (w:World) (hd:d≤1000) (h:Rd w r ts d):Calls Tryz.prog 164 #[.pointer (some ⟨r,0,none⟩),.string s] w fun e w' =>
   if atB 1 s ts=true then (if d=16 then e=Yb 4∧Z0 r w w' else e=.returned (.tuple #[])∧Rd w' r ts.tail (d+1)∧Z0 r w w') else e=Yb 2∧Z0 r w w':=by
 have HA:=Hd (Ir r ts d 1 s w h);have HN:=Hd (Xa r ts d 1 s w h);have H:=Hd h;obtain ⟨A,c,h0,h1,h2,h3⟩:=h;obtain ⟨c0,c1,z0,z1⟩:=Ug h0
 cases hb:atB 1 s ts with
 | false =>
   rw [hb] at HA HN;simp only [Bool.false_eq_true,if_false] at HN ⊢;clear hb h0 h3
   go_enter Tryz.func164,Tryz.ntmps164
   go_wp2_with fail
   refine HA.out.mono ?_;rintro e w1 ⟨rfl,rfl⟩;go_wp2_with fail
   refine HN.out.mono ?_;rintro e w2 ⟨rfl,m2⟩;exact ⟨rfl,rfl,m2⟩
 | true =>
   rw [hb] at HA HN;simp only [if_true] at HN ⊢;clear hb h0 h3
   by_cases h16:d=16
   · subst h16
     simp only [if_true]
     go_enter Tryz.func164,Tryz.ntmps164
     go_wp2_with fail
     refine HA.out.mono ?_;rintro e w1 ⟨rfl,rfl⟩;go_wp2_with fail
     exact ⟨rfl,rfl,Z0.refl _ _⟩
   · simp only [h16,if_false]
     have h16':((d:Int) == 16)=false:=by simp;omega
     clear h16
     go_enter Tryz.func164,Tryz.ntmps164
     go_wp2_with fail
     refine HA.out.mono ?_;rintro e w1 ⟨rfl,rfl⟩;go_wp2_with fail
     refine HN.out.mono ?_;rintro e w2 ⟨rfl,r2,m2⟩;have HE:=Hd (r2.deep (z:=(d:Int)+1) (d':=d+1) (by omega));have M2:=Hd m2;obtain ⟨A2,c2,g0,_,_,_⟩:=r2;obtain ⟨y0,y1,x0,x1⟩:=Ug g0;clear g0 m2 c0 c1 z0 z1;go_wp2_with fail
     go_end0
     exact ⟨rfl,HE.out.1,M2.out.trans HE.out.2⟩
open Go.ChangeShapes Go.WideShapes Go.ChangeAt Go.RowKit
mutual
inductive VT where
 | mk (k n:Int) (s:ByteArray) (l:VL) (m:VM)
inductive VL where
 | nil
 | cons (v:VT) (t:VL)
inductive VM where
 | nil
 | cons (name:ByteArray) (v:VT) (t:VM)
end
def VL.len:VL→Nat
 | .nil=>0
 | .cons _ t=>t.len+1
def VM.len:VM→Nat
 | .nil=>0
 | .cons _ _ t=>t.len+1
def VL.get:VL→Nat→Option VT
 | .nil,_=>none
 | .cons v _,0=>some v
 | .cons _ t,j+1=>t.get j
def VM.get:VM→Nat→Option (ByteArray × VT)
 | .nil,_=>none
 | .cons nm v _,0=>some (nm,v)
 | .cons _ _ t,j+1=>t.get j
theorem VL.get_lt:∀ {l:VL} {j:Nat},j < l.len→∃ v,l.get j=some v
 | .nil,_,h=>by simp [VL.len] at h
 | .cons v _,0,_=>⟨v,rfl⟩
 | .cons _ t,j+1,h=>VL.get_lt (l:=t) (by simp [VL.len] at h;omega)
theorem VM.get_lt:∀ {l:VM} {j:Nat},j < l.len→∃ v,l.get j=some v
 | .nil,_,h=>by simp [VM.len] at h
 | .cons nm v _,0,_=>⟨(nm,v),rfl⟩
 | .cons _ _ t,j+1,h=>VM.get_lt (l:=t) (by simp [VM.len] at h;omega)
def Nj (w:World) (b o:Nat) (c0 c1 c2 c3 c4:Value):Prop:=w.cell? ⟨b,o,none⟩=some c0∧w.cell? ⟨b,o+1,none⟩=some c1∧w.cell? ⟨b,o+2,none⟩=some c2∧w.cell? ⟨b,o+3,none⟩=some c3∧w.cell? ⟨b,o+4,none⟩=some c4
theorem Nj.below {w w':World} {B b o:Nat} {c0 c1 c2 c3 c4:Value} (h:Nj w b o c0 c1 c2 c3 c4) (hb:Below B w w') (hlt:b < B):Nj w' b o c0 c1 c2 c3 c4:=
 ⟨(hb.cell (p:=⟨b,_,none⟩) hlt).trans h.1,(hb.cell (p:=⟨b,_,none⟩) hlt).trans h.2.1,(hb.cell (p:=⟨b,_,none⟩) hlt).trans h.2.2.1,(hb.cell (p:=⟨b,_,none⟩) hlt).trans h.2.2.2.1,(hb.cell (p:=⟨b,_,none⟩) hlt).trans h.2.2.2.2⟩
mutual
def VAt (w:World) (B:Nat):VT→Value→Value→Value→Value→Value→Prop
 | .mk k n s l m,c0,c1,c2,c3,c4=>c0=.int .i64 k∧c1=.int .i64 n∧c2=.string s∧s.size≤9223372036854775807∧(∃ A c,c3=.slice A l.len c∧l.len≤9223372036854775807∧LAt w B l A 0)∧∃ A c,c4=.slice A m.len c∧m.len≤9223372036854775807∧MAt w B m A 0
def LAt (w:World) (B:Nat):VL→Option Addr→Nat→Prop
 | .nil,_,_=>True
 | .cons v t,A,j=>(∃ b o c0 c1 c2 c3 c4,A=some ⟨b,o,none⟩∧b < B∧Nj w b (o+j*5) c0 c1 c2 c3 c4∧VAt w B v c0 c1 c2 c3 c4)∧LAt w B t A (j+1)
def MAt (w:World) (B:Nat):VM→Option Addr→Nat→Prop
 | .nil,_,_=>True
 | .cons nm v t,A,j=>(∃ b o c0 c1 c2 c3 c4,A=some ⟨b,o,none⟩∧b < B∧w.cell? ⟨b,o+j*6,none⟩=some (.string nm)∧nm.size≤9223372036854775807∧Nj w b (o+j*6+1) c0 c1 c2 c3 c4∧VAt w B v c0 c1 c2 c3 c4)∧MAt w B t A (j+1)
end
mutual
theorem VAt.below {w w':World} {B:Nat} (hb:Below B w w'):∀ (v:VT) (c0 c1 c2 c3 c4:Value),VAt w B v c0 c1 c2 c3 c4→VAt w' B v c0 c1 c2 c3 c4
 | .mk k n s l m,c0,c1,c2,c3,c4,h=>by
   unfold VAt at h ⊢;obtain ⟨h0,h1,h2,hs,⟨A,c,h3,g3,h4⟩,A',c',h5,g5,h6⟩:=h;exact ⟨h0,h1,h2,hs,⟨A,c,h3,g3,LAt.below hb l A 0 h4⟩,A',c',h5,g5,MAt.below hb m A' 0 h6⟩
theorem LAt.below {w w':World} {B:Nat} (hb:Below B w w'):∀ (l:VL) (A:Option Addr) (j:Nat),LAt w B l A j→LAt w' B l A j
 | .nil,_,_,_=>by unfold LAt;trivial
 | .cons v t,A,j,h=>by
   unfold LAt at h ⊢;obtain ⟨⟨b,o,c0,c1,c2,c3,c4,hA,hlt,hf,hv⟩,ht⟩:=h;exact ⟨⟨b,o,c0,c1,c2,c3,c4,hA,hlt,hf.below hb hlt,VAt.below hb v _ _ _ _ _ hv⟩,LAt.below hb t A (j+1) ht⟩
theorem MAt.below {w w':World} {B:Nat} (hb:Below B w w'):∀ (l:VM) (A:Option Addr) (j:Nat),MAt w B l A j→MAt w' B l A j
 | .nil,_,_,_=>by unfold MAt;trivial
 | .cons nm v t,A,j,h=>by
   unfold MAt at h ⊢;obtain ⟨⟨b,o,c0,c1,c2,c3,c4,hA,hlt,hn,hz,hf,hv⟩,ht⟩:=h;exact ⟨⟨b,o,c0,c1,c2,c3,c4,hA,hlt,(hb.cell (p:=⟨b,_,none⟩) hlt).trans hn,hz,hf.below hb hlt,VAt.below hb v _ _ _ _ _ hv⟩,MAt.below hb t A (j+1) ht⟩
end
theorem LAt.at {w:World} {B:Nat} : ∀ {l:VL} {A:Option Addr} {i j:Nat} {v:VT},LAt w B l A i→l.get j=some v→∃ b o c0 c1 c2 c3 c4,A=some ⟨b,o,none⟩∧b < B∧Nj w b (o+(i+j)*5) c0 c1 c2 c3 c4∧VAt w B v c0 c1 c2 c3 c4
 | .nil,_,_,_,_,_,h=>by simp [VL.get] at h
 | .cons u t,A,i,0,v,h,hg=>by
   unfold LAt at h;have:u=v:=by simpa [VL.get] using hg
   subst this;exact h.1
 | .cons u t,A,i,j+1,v,h,hg=>by
   unfold LAt at h;have:=LAt.at h.2 (j:=j) (v:=v) hg
   rwa [show i+1+j=i+(j+1) by omega] at this
theorem MAt.at {w:World} {B:Nat} : ∀ {l:VM} {A:Option Addr} {i j:Nat} {nm:ByteArray} {v:VT},MAt w B l A i→l.get j=some (nm,v)→∃ b o c0 c1 c2 c3 c4,A=some ⟨b,o,none⟩∧b < B∧w.cell? ⟨b,o+(i+j)*6,none⟩=some (.string nm)∧nm.size≤9223372036854775807∧Nj w b (o+(i+j)*6+1) c0 c1 c2 c3 c4∧VAt w B v c0 c1 c2 c3 c4
 | .nil,_,_,_,_,_,_,h=>by simp [VM.get] at h
 | .cons u x t,A,i,0,nm,v,h,hg=>by
   unfold MAt at h;have:u=nm∧x=v:=by simpa [VM.get] using hg
   obtain ⟨rfl,rfl⟩:=this;exact h.1
 | .cons u x t,A,i,j+1,nm,v,h,hg=>by
   unfold MAt at h;have:=MAt.at h.2 (j:=j) (nm:=nm) (v:=v) hg
   rwa [show i+1+j=i+(j+1) by omega] at this
theorem Pk {b o i:Nat} : (⟨b,o,none⟩:Addr).add i=⟨b,o+i,none⟩:=by unfold Addr.add;split<;>simp_all
mutual
def Uq:VT→Nat
 | .mk _ _ s l m=>1+s.size+Jo l+Ea m
def Jo:VL→Nat
 | .nil=>0
 | .cons v t=>Uq v+Jo t
def Ea:VM→Nat
 | .nil=>0
 | .cons nm v t=>nm.size+Uq v+Ea t
end
theorem A7:∀ {l:VL} {j:Nat} {v:VT},l.get j=some v→Uq v≤Jo l
 | .nil,_,_,h=>by simp [VL.get] at h
 | .cons u t,0,v,h=>by
   have:u=v:=by simpa [VL.get] using h
   subst this;rw [Jo];omega
 | .cons u t,j+1,v,h=>by
   have:=A7 (l:=t) (j:=j) (v:=v) h;rw [Jo];omega
theorem Az:∀ {l:VM} {j:Nat} {nm:ByteArray} {v:VT},l.get j=some (nm,v)→nm.size+Uq v≤Ea l
 | .nil,_,_,_,h=>by simp [VM.get] at h
 | .cons x u t,0,nm,v,h=>by
   have:x=nm∧u=v:=by simpa [VM.get] using h
   obtain ⟨rfl,rfl⟩:=this;rw [Ea];omega
 | .cons x u t,j+1,nm,v,h=>by
   have:=Az (l:=t) (j:=j) (nm:=nm) (v:=v) h;rw [Ea];omega
def KV (w:World) (c2 c3 c4:Value) (w':World):Prop:=w'.cell? ⟨w.heap.size,2,none⟩=some c2∧w'.cell? ⟨w.heap.size,3,none⟩=some c3∧w'.cell? ⟨w.heap.size,4,none⟩=some c4∧Below w.heap.size w w'∧w.heap.size < w'.heap.size
theorem KV.next {w W W':World} {c2 c3 c4:Value} (h:KV w c2 c3 c4 W) (hb:Below W.heap.size W W'):KV w c2 c3 c4 W':=by
 obtain ⟨h2,h3,h4,hB,hs⟩:=h;exact ⟨(hb.cell (p:=⟨_,_,none⟩) hs).trans h2,(hb.cell (p:=⟨_,_,none⟩) hs).trans h3,(hb.cell (p:=⟨_,_,none⟩) hs).trans h4,hB.trans (hb.mono hB.size),Nat.lt_of_lt_of_le hs hb.size⟩
def KM (w:World) (c2 c3 c4:Value) (b O:Nat) (nm d0 d1 d2 d3 d4:Value) (w':World):Prop:=w'.cell? ⟨w.heap.size,4,none⟩=some c4∧w'.cell? ⟨b,O,none⟩=some nm∧Nj w' b (O+1) d0 d1 d2 d3 d4∧KV w c2 c3 c4 w'
theorem KM.next {w W W':World} {c2 c3 c4:Value} {b O:Nat} {nm d0 d1 d2 d3 d4:Value} (h:KM w c2 c3 c4 b O nm d0 d1 d2 d3 d4 W) (hbw:b < w.heap.size) (hb:Below W.heap.size W W'):KM w c2 c3 c4 b O nm d0 d1 d2 d3 d4 W':=by
 obtain ⟨h4,hn,hF,hK⟩:=h;have hl:b < W.heap.size:=Nat.lt_trans hbw hK.2.2.2.2;have hK':=hK.next hb;exact ⟨hK'.2.2.1,(hb.cell (p:=⟨b,_,none⟩) hl).trans hn,hF.below hb hl,hK'⟩
theorem KM.below {w W:World} {c2 c3 c4:Value} {b O:Nat} {nm d0 d1 d2 d3 d4:Value} (h:KM w c2 c3 c4 b O nm d0 d1 d2 d3 d4 W):Below w.heap.size w W:=h.2.2.2.2.2.2.1
end Go.Proofs.YtkmloefbkgcbkaaGreatDoor
