/- The walks of strings.IndexRune and strings.IndexAny where the text holds other than plain bytes, for two plain signs. -/
import Derived.Test.YtkmloefbkgcbkaaGreatDoorSr14
import Derived.Laws.RangeString
import Derived.Laws.RangeAny
import Derived.Laws.Cover4
import Derived.Lib.OthersKept
set_option maxRecDepth 100000
set_option maxHeartbeats 1000000
namespace Go.Proofs.YtkmloefbkgcbkaaGreatDoor
open Go.RowKit
def Yg4 (e:Ending):Prop:=∃ b,e=.returned (.bool b)
theorem Zyw (r:Int) (h0:0≤r) (w:World):Calls Tryz.prog 138 #[.int .i32 r] w fun e w'=>Yg4 e∧w=w':=by
 go_enter Tryz.func138,Tryz.ntmps138
 go_wp2
 all_goals go_ret
 all_goals (refine ⟨?_,rfl⟩;exact ⟨_,rfl⟩)
theorem Pm (w:World) (s:ByteArray) (i:Nat):Below w.heap.size w (w.iter s i):=(Below.refl _ _).alloc (Nat.le_refl _) _
theorem Yhh {r:Int} (h:128≤r):2≤(Utf8.encode r).size∧(Utf8.encode r).size≤4:=by
 have hc:128≤(if Utf8.valid r then r.toNat else Utf8.runeError):=by
   split
   · omega
   · simp [Utf8.runeError]
 refine ⟨?_,encode_size_le r⟩;unfold Utf8.encode;simp only;generalize (if Utf8.valid r=true then r.toNat else Utf8.runeError)=c at *;rw [if_neg (by omega)]
 split
 · exact Nat.le_refl 2
 · split
   · exact Nat.le_succ 2
   · exact Nat.le_succ_of_le (Nat.le_succ 2)
theorem Ynl {r:Int} (h:128≤r) (h2:(Utf8.encode r).size=2):128≤((Utf8.encode r)[1]'(by omega)).toNat:=by
 have hc:128≤(if Utf8.valid r then r.toNat else Utf8.runeError):=by
  split
  · omega
  · simp [Utf8.runeError]
 have e:Utf8.encode r=⟨#[UInt8.ofNat (0xC0+(if Utf8.valid r then r.toNat else Utf8.runeError) / 64),UInt8.ofNat (0x80+(if Utf8.valid r then r.toNat else Utf8.runeError) % 64)]⟩:=by
  unfold Utf8.encode at h2 ⊢;simp only at h2 ⊢;generalize (if Utf8.valid r=true then r.toNat else Utf8.runeError)=c at *;rw [if_neg (by omega)] at h2 ⊢
  split at h2
  · rename_i hl;rw [if_pos hl]
  · split at h2
    · exact absurd h2 (by show ¬ (3=2);decide)
    · exact absurd h2 (by show ¬ (4=2);decide)
 generalize (if Utf8.valid r=true then r.toNat else Utf8.runeError)=c at *;simp only [e]
 show 128≤(UInt8.ofNat (0x80+c % 64)).toNat;rw [UInt8.toNat_ofNat'];omega
theorem Qn (c:UInt8) (w:World):Calls Tryz.prog 75 #[.string ByteArray.empty,.int .u8 (c.toNat:Int)] w fun e w'=>e=.returned (.int .i64 (-1))∧w'=w:=
 Fz ByteArray.empty (c.toNat:Int) w
theorem Ydo (w:World):(Instr.slice 9 (.string ⟨#[10,13]⟩) (some (.int .i64 2)) none none).run Tryz.prog w=.ok (.string ((⟨#[10,13]⟩:ByteArray).extract 2 2)) w:=by kernel_rfl
theorem N0 (q:ByteArray) (hq3:q=⟨#[10,13]⟩) (hq2:q.size=2) (hq:∀ i (h:i < q.size),q[i].toNat < 128) (r:Int) (h0:128≤r) (w:World):Calls Tryz.prog 110 #[.string q,.int .i32 r] w fun e w'=>e=.returned (.int .i64 (-1))∧Below w.heap.size w w':=by
 have hsl:∀ w,(Instr.slice 9 (.string q) (some (.int .i64 2)) none none).run Tryz.prog w=.ok (.string (q.extract 2 2)) w:=by subst hq3;exact Ydo
 clear hq3;have hr0:(0:Int)≤r:=by omega
 have hr1 : ¬ r < 128:=by omega
 cases hE:(r == 65533)
 · have HV:=Hd (Zyw r hr0 w)
   have he:=Yhh h0;obtain ⟨E,hEE⟩:∃ E,Utf8.encode r=E:=⟨_,rfl⟩;rw [hEE] at he;obtain ⟨he0,he1⟩:=he
   go_enter Tryz.func110,Tryz.ntmps110
   go_wp2_with fail
   refine HV.out.mono ?_;rintro e w1 ⟨⟨b,rfl⟩,rfl⟩
   cases b
   · go_wp2_with fail
     go_ret
     exact ⟨rfl,Below.refl _ _⟩
   · go_wp2_with fail
     go_wp2_with fail
     go_step3
     go_wp2_with fail
     refine wp_loop_once ?_
     by_cases hs2:E.size=2
     · have e1:(E.size:Int) - 1=1:=by omega
       have h1q:1 < q.size:=by omega
       have h1E:1 < E.size:=by omega
       have hqs:(1:Int) < (q.size:Int):=by omega
       have hes:(1:Int) < (E.size:Int):=by omega
       have hne:((q[1].toNat:Int) != (E[1].toNat:Int))=true:=by
        have h1:=hq 1 h1q
        have h2:128≤E[1].toNat:=by
         subst hEE;exact Ynl h0 hs2
        simp
        omega
       go_wp2_with fail
       go_step3
       go_wp2_with fail
       go_quiet (fail)
       go_wp2_with fail
       have hw2:IntKind.i64.wrap 2=2:=by decide
       go_quiet ((go_at_call 75;exact (Qn E[1] _).mono fun _ _ h=>⟨h.1,_,h.2⟩))
       go_wp2_with fail
       rw [Exit.noGoto_ret];simp +zetaDelta only [Exit.inBlock,Exit.then,Exit.noGoto]
       refine bodyPost_ret (results_tmp rfl _ _ _) rfl ?_;exact ⟨rfl,Lx (Below.refl _ _) _⟩
     · have e1 : ¬ (E.size:Int) - 1 < (q.size:Int):=by omega
       go_wp2_with fail
       go_ret
       exact ⟨rfl,Below.refl _ _⟩
 · go_enter Tryz.func110,Tryz.ntmps110
   go_wp2_with fail
   go_loopg [5,6] 2 (fun g _ _ wx=>∃ i:Nat,i+g=2∧wx=w.iter q i)
   case atStart=>exact ⟨0,by omega,rfl⟩
   case round =>
     obtain ⟨i,hi,rfl⟩:=hrel
     cases gk with
     | zero =>
       obtain rfl:i=2:=by omega
       have hnx:=fun ty=>run_next_end (P:=Tryz.prog) w q 2 ty (by omega);go_wp2
       go_ret
       exact ⟨rfl,Pm _ _ _⟩
     | succ g =>
       have hi2:i < q.size:=by omega
       have hlt:=hq i hi2;have hnx:=fun ty=>run_next_ascii (P:=Tryz.prog) w q i ty hi2 hlt;have hne:((q[i].toNat:Int) == 65533)=false:=by simp;omega
       go_wp2
       go_roundg g
       case measure=>omega
       case rel=>exact ⟨i+1,by omega,rfl⟩
theorem M8 (s:ByteArray) (pos:Nat):∀ j,1≤j→j < (Utf8.decode s pos).2→pos+j < s.size∧(s.get! (pos+j)).toNat / 64=2:=by
 intro j h1 h2;have hj:j=1∨j=2∨j=3∨4≤j:=by omega
 simp only [Utf8.decode] at h2;rcases hj with rfl|rfl|rfl|hj
 all_goals
  repeat' split at h2
  all_goals simp_all
  all_goals omega
theorem Yok (s:ByteArray) (i:Nat) (h:i < s.size):s.get! i=s[i]:=by
 simp [ByteArray.get!,h]
 rfl
theorem Yaq {s:ByteArray} {i K:Nat} (hn:Lib.NoAny s.data.toList [10,13] i) (hi:i < s.size) (h128:128≤(s[i]'hi).toNat) (hK:∀ j,1≤j→j < K→i+j < s.size∧(s.get! (i+j)).toNat / 64=2):Lib.NoAny s.data.toList [10,13] (i+K):=by
 intro j b hj hb
 by_cases h1:j < i
 · exact hn j b h1 hb
 · have hbig:128≤b.toNat:=by
    have hjl:j < s.data.toList.length:=(List.getElem?_eq_some_iff.1 hb).1;rw [Z7] at hjl
    have hb':s[j]=b:=by
      have:=(List.getElem?_eq_some_iff.1 hb).2;rw [← this]
      rfl
    by_cases h2:j=i
    · subst h2;rw [← hb'];exact h128
    · have:=(hK (j - i) (by omega) (by omega)).2
      rw [show i+(j - i)=j by omega,Yok s j hjl,hb'] at this;omega
   have h10:b ≠ 10:=fun e=>by subst e;exact absurd hbig (by decide)
   have h13:b ≠ 13:=fun e=>by subst e;exact absurd hbig (by decide)
   simp [h10,h13]
theorem Lv {B:Nat} {a w:World} (h:Below B a w) {k:Nat} (hk:B≤k) (s:ByteArray) (p:Nat):Below B a (w.iterAt k s p):=by
 refine ⟨h.os,h.tape,h.output,by simpa [World.iterAt] using h.size,fun j hj=>?_⟩;rw [← h.block j hj]
 show (w.heap.setIfInBounds k (.stringIter s p))[j]? = w.heap[j]?;rw [Array.getElem?_setIfInBounds_ne (by omega)]
theorem Ye5 (n:Nat) (h8:(n:Int)≤8) (w:World):Calls Tryz.prog 111 #[.int .i64 (n:Int)] w fun e w'=>e=.returned (.bool false)∧w=w':=by
 go_enter Tryz.func111,Tryz.ntmps111
 go_wp2
 go_ret
 exact ⟨Z6 (by simp;omega),rfl⟩
theorem Nh (s:ByteArray) (w:World) (h8:s.size≤8):Calls Tryz.prog 84 #[.string s,.string ⟨#[10,13]⟩] w fun e w'=>e=.returned (.int .i64 (Lib.indexAny s.data.toList [10,13]))∧Below w.heap.size w w':=by
 have hl:=Z7 s;have h8z:(s.size:Int)≤8:=by omega
 have HLEN:=Hd hl;clear hl
 go_enter Tryz.func84,Tryz.ntmps84
 go_wp2_with fail
 refine (Ye5 s.size h8z _).mono ?_;rintro e w' ⟨rfl,rfl⟩;go_wp2_with fail
 go_loopg [9,10] s.size (fun g _ _ wx=>∃ i:Nat,i+g=s.size∧wx.heap[w.heap.size]? = some (.stringIter s i)∧Below w.heap.size w wx∧Aside (Lib.NoAny s.data.toList [10,13] i))
 case atStart=>exact ⟨0,by omega,World.iter_heap _ _ _,Pm _ _ _,Aside.intro (Lib.NoAny.zero _ _)⟩
 case round =>
  obtain ⟨i,hig,hit,hb,HN⟩:=hrel;have HB:=Hd hb;have hbs:=hb.size;clear hb
  by_cases hi:i < s.size
  · have HIT:=Hd hit
    have hlt:w.heap.size < wr.heap.size:=(Array.getElem?_eq_some_iff.1 hit).1
    by_cases ha:(s[i]'hi).toNat < 128
    · have hnx:=fun ty=>Lib.run_next_ascii_at (P:=Tryz.prog) wr w.heap.size s i ty hit hi ha
      obtain ⟨x,hx⟩:∃ x:UInt8,s[i]'hi=x:=⟨_,rfl⟩;have hxl:s.data.toList[i]? = some x:=by rw [← hx];exact Lib.data_getElem? s i hi
      rw [hx] at hnx ha;have hI:=Mh ⟨#[10,13]⟩ (x.toNat:Int) (wr.iterAt w.heap.size s (i+1)) (by omega) (by omega);rw [show ((x.toNat:Int)).toNat.toUInt8=x by simp] at hI;have hcon:=Lib.contains_iff_indexByte [10,13] x;obtain ⟨r,hr⟩:∃ r,Lib.indexByte (⟨#[10,13]⟩:ByteArray).data.toList x=r:=⟨_,rfl⟩;rw [hr] at hI
      change Lib.indexByte [10,13] x=r at hr
      rw [hr] at hcon;have HI:=Hd hI;have Hxl:=Hd hxl;clear hit hx hxl hI hr
      cases hin:([10,13]:List UInt8).contains x
      · have hneg : ¬ (0:Int)≤r:=by rw [hin] at hcon;exact of_decide_eq_false hcon.symm
        have HN2:=Hd (HN.out.succ Hxl.out hin);clear hcon hin HN;go_wp2_with fail
        refine HI.out.mono ?_;rintro e w2 ⟨rfl,rfl⟩;go_wp2_with fail
        go_roundg (gk - 1)
        case measure=>omega
        case rel=>exact ⟨i+1,by omega,Lib.iterAt_heap _ _ _ _ _ HIT.out,Lv HB.out (Nat.le_refl _) _ _,Aside.intro HN2.out⟩
      · have hpos:(0:Int)≤r:=by rw [hin] at hcon;exact of_decide_eq_true hcon.symm
        have hr:Hid (Lib.indexAny s.data.toList [10,13]=i):=Hd (Lib.indexAny_hit HN.out Hxl.out hin);clear hcon hin HN;go_wp2_with fail
        refine HI.out.mono ?_;rintro e w2 ⟨rfl,rfl⟩;go_wp2_with fail
        go_ret
        exact ⟨Jg hr.out.symm,Lv HB.out (Nat.le_refl _) _ _⟩
    · have hd:=decode_high s i hi (by omega)
      have hnx:=fun ty=>Lib.run_next_any_at (P:=Tryz.prog) wr w.heap.size s i ty hit hi;have HN2:=Hd (Yaq HN.out hi (by omega) (M8 s i))
      have hw4:i+(Utf8.decode s i).2≤s.size:=by
        by_cases h1:(Utf8.decode s i).2=1
        · omega
        · have:=(M8 s i ((Utf8.decode s i).2 - 1) (by omega) (by omega)).1
          omega
      obtain ⟨c,hc⟩:∃ c,(Utf8.decode s i).1=c:=⟨_,rfl⟩;obtain ⟨K,hK⟩:∃ K,(Utf8.decode s i).2=K:=⟨_,rfl⟩;rw [hc] at hd hnx;rw [hK] at hd hnx HN2 hw4;have HI:=Hd (N0 ⟨#[10,13]⟩ rfl rfl (by decide) (c:Int) (by omega) (wr.iterAt w.heap.size s (i+K)));clear hit hc hK HN;go_wp2_with fail
      refine HI.out.mono ?_;rintro e w2 ⟨rfl,hb2⟩;have HBb:=Hd hb2;clear hb2;go_wp2_with fail
      go_roundg (gk - K)
      case measure=>omega
      case rel=>exact ⟨i+K,by omega,(HBb.out.block w.heap.size (by simpa [World.iterAt] using hlt)).trans (Lib.iterAt_heap _ _ _ _ _ HIT.out),(Lv HB.out (Nat.le_refl _) s (i+K)).trans (HBb.out.mono (by simpa [World.iterAt] using hbs)),Aside.intro HN2.out⟩
  · obtain rfl:i=s.size:=by omega
    have hnx:=fun ty=>Lib.run_next_end_at (P:=Tryz.prog) wr w.heap.size s s.size ty hit hi;have hr:Hid (Lib.indexAny s.data.toList [10,13] = -1):=Hd (Lib.indexAny_none (by rw [HLEN.out];exact HN.out));clear hit HN;go_wp2_with fail
    go_ret
    exact ⟨Jg hr.out.symm,HB.out⟩
theorem S7 (s:ByteArray) (w:World) (hs:s.size≤9000):Calls Tryz.prog 84 #[.string s,.string ⟨#[10,13]⟩] w fun e w'=>e=.returned (.int .i64 (Lib.indexAny s.data.toList [10,13]))∧Below w.heap.size w w':=by
 by_cases h8:s.size≤8
 · exact Nh s w h8
 · exact Qx s ⟨#[10,13]⟩ w (by decide) (by omega) (by omega) (by decide) (fun j b hb=>by
    match j,hb with
    | 0,hb=>cases hb;decide
    | 1,hb=>cases hb;decide
    | j+2,hb=>simp at hb)
theorem Ymn:∀ l:List UInt8,Lib.indexAny l [10,13]=if (l.takeWhile Jt).length < l.length then ((l.takeWhile Jt).length:Int) else -1:=by
 intro l
 induction l with
 | nil=>rfl
 | cons b t ih =>
   have hb:([10,13]:List UInt8).contains b = !Jt b:=by unfold Jt;cases h10:(b == 10)<;>cases h13:(b == 13)<;>simp_all
   rw [Lib.indexAny,hb,List.takeWhile_cons]
   cases hn:Jt b
   · simp
   · have:=V5 Jt t
     simp only [Bool.not_true,Bool.false_eq_true,if_false,if_true,List.length_cons];rw [ih]
     by_cases h:(t.takeWhile Jt).length < t.length
     · rw [if_pos h,if_neg (show ¬ (((t.takeWhile Jt).length:Int) == -1)=true by simp),if_pos (show (t.takeWhile Jt).length+1 < t.length+1 by omega)]
       omega
     · rw [if_neg h,if_pos (show ((-1:Int) == -1)=true by rfl),if_neg (show ¬ (t.takeWhile Jt).length+1 < t.length+1 by omega)]
theorem Ylz (s:ByteArray) (h:0 < s.size) (hp:pre [239,187,191] s.data.toList=false):Jy s.data.toList=if Lf s[0] then 1 else if s[0] == 35 then 1+((s.data.toList.drop 1).takeWhile Jt).length else 0:=by
 rw [Vf s h] at hp
 conv=>lhs;rw [Vf s h]
 simp only [Jy,hp]
 rfl
theorem Yn6 (s : ByteArray) (w:World) (hs:s.size≤9000):Calls Tryz.prog 43 #[.string s] w fun e w'=>e=.returned (.int .i64 (Jy s.data.toList))∧Below w.heap.size w w':=by
 cases hp:pre [239,187,191] s.data.toList
 · have HP := Hd (Yav s ⟨#[239,187,191]⟩ w false hp)
   rcases Nat.eq_zero_or_pos s.size with h0|h0
   · have hr:Hid (Jy s.data.toList=0):=Hd (by rw [Jb h0];rfl)
     have he:=Lq h0;clear hp
     go_enter Tryz.func43,Tryz.ntmps43
     go_wp2_with fail
     refine HP.out.mono ?_;rintro e w1 ⟨rfl,rfl⟩;go_wp2_with fail
     go_ret
     exact ⟨by rw [hr.out];rfl,Below.refl _ _⟩
   have he:=Eg h0;have hg:=Ylz s h0 hp;have hI:=S7 s w hs;rw [Ymn,Vf s h0] at hI;have h0':(0:Int) < (s.size:Int):=by omega
   clear hp
   cases c9:(s[0] == 9)
   · obtain ⟨a1, a2⟩:=On c9 9 rfl
     cases c10:(s[0] == 10)
     · obtain ⟨b1,b2⟩:=On c10 10 rfl
       cases c13:(s[0] == 13)
       · obtain ⟨c1,c2⟩:=On c13 13 rfl
         cases c32:(s[0] == 32)
         · obtain ⟨d1,d2⟩:=On c32 32 rfl
           cases c44:(s[0] == 44)
           · obtain ⟨f1,f2⟩:=On c44 44 rfl
             have hgn:Lf s[0]=false:=by simp [Lf,c9,c10,c13,c32,c44]
             cases c35:(s[0] == 35)
             · obtain ⟨g1,g2⟩:=On c35 35 rfl
               have hr:Hid (Jy s.data.toList=0):=Hd (by rw [hg,hgn,c35];rfl);clear hg hI hgn c9 c10 c13 c32 c44 c35
               go_enter Tryz.func43,Tryz.ntmps43
               go_wp2_with fail
               refine HP.out.mono ?_;rintro e w1 ⟨rfl,rfl⟩;go_wp2_with fail
               go_ret
               exact ⟨by rw [hr.out];rfl,Below.refl _ _⟩
             · obtain ⟨g1,g2⟩:=Oo c35 35 rfl
               have h35:s[0]=35:=by simpa using c35
               rw [hgn,c35] at hg;simp only [Bool.false_eq_true,if_false,if_true] at hg;have htl:=V5 Jt (s.data.toList.drop 1);rw [List.length_drop,Z7] at htl;rw [List.takeWhile_cons,show Jt s[0]=true by rw [h35];rfl,if_pos rfl,List.length_cons,List.length_cons,List.length_drop,Z7] at hI;obtain ⟨m,hm⟩:∃ m,((s.data.toList.drop 1).takeWhile Jt).length=m:=⟨_,rfl⟩;rw [hm] at hI hg htl;have hr:=Hd hg;clear hg hgn c9 c10 c13 c32 c44 c35 hm h35
               by_cases hlt:m+1 < s.size - 1+1
               · rw [if_pos hlt] at hI
                 have HI:=Hd hI;clear hI;have hpos:(0:Int) < ((m+1:Nat):Int):=by omega
                 go_enter Tryz.func43,Tryz.ntmps43
                 go_wp2_with fail
                 refine HP.out.mono ?_;rintro e w1 ⟨rfl,rfl⟩;go_wp2_with fail
                 refine HI.out.mono ?_;rintro e w1 ⟨rfl,hb⟩;have HB:=Hd hb;clear hb;go_wp2_with fail
                 go_ret
                 exact ⟨Jg (by rw [hr.out];omega),HB.out⟩
               · rw [if_neg hlt] at hI
                 have HI:=Hd hI;clear hI
                 go_enter Tryz.func43,Tryz.ntmps43
                 go_wp2_with fail
                 refine HP.out.mono ?_;rintro e w1 ⟨rfl,rfl⟩;go_wp2_with fail
                 refine HI.out.mono ?_;rintro e w1 ⟨rfl,hb⟩;have HB:=Hd hb;clear hb;go_wp2_with fail
                 go_ret
                 exact ⟨Jg (by rw [hr.out];omega),HB.out⟩
           · obtain ⟨f1,f2⟩:=Oo c44 44 rfl
             have hr:Hid (Jy s.data.toList=1):=Hd (by rw [hg];simp [Lf,c9,c10,c13,c32,c44]);clear hg hI c9 c10 c13 c32 c44
             go_enter Tryz.func43,Tryz.ntmps43
             go_wp2_with fail
             refine HP.out.mono ?_;rintro e w1 ⟨rfl,rfl⟩;go_wp2_with fail
             go_ret
             exact ⟨by rw [hr.out];rfl,Below.refl _ _⟩
         · obtain ⟨d1,d2⟩:=Oo c32 32 rfl
           have hr:Hid (Jy s.data.toList=1):=Hd (by rw [hg];simp [Lf,c9,c10,c13,c32]);clear hg hI c9 c10 c13 c32
           go_enter Tryz.func43,Tryz.ntmps43
           go_wp2_with fail
           refine HP.out.mono ?_;rintro e w1 ⟨rfl,rfl⟩;go_wp2_with fail
           go_ret
           exact ⟨by rw [hr.out];rfl,Below.refl _ _⟩
       · obtain ⟨c1,c2⟩:=Oo c13 13 rfl
         have hr:Hid (Jy s.data.toList=1):=Hd (by rw [hg];simp [Lf,c9,c10,c13]);clear hg hI c9 c10 c13
         go_enter Tryz.func43,Tryz.ntmps43
         go_wp2_with fail
         refine HP.out.mono ?_;rintro e w1 ⟨rfl,rfl⟩;go_wp2_with fail
         go_ret
         exact ⟨by rw [hr.out];rfl,Below.refl _ _⟩
     · obtain ⟨b1,b2⟩:=Oo c10 10 rfl
       have hr:Hid (Jy s.data.toList=1):=Hd (by rw [hg];simp [Lf,c9,c10]);clear hg hI c9 c10
       go_enter Tryz.func43,Tryz.ntmps43
       go_wp2_with fail
       refine HP.out.mono ?_;rintro e w1 ⟨rfl,rfl⟩;go_wp2_with fail
       go_ret
       exact ⟨by rw [hr.out];rfl,Below.refl _ _⟩
   · obtain ⟨a1,a2⟩:=Oo c9 9 rfl
     have hr:Hid (Jy s.data.toList=1):=Hd (by rw [hg];simp [Lf,c9]);clear hg hI c9
     go_enter Tryz.func43,Tryz.ntmps43
     go_wp2_with fail
     refine HP.out.mono ?_;rintro e w1 ⟨rfl,rfl⟩;go_wp2_with fail
     go_ret
     exact ⟨by rw [hr.out];rfl,Below.refl _ _⟩
 · have HP:=Hd (Yav s ⟨#[239,187,191]⟩ w true hp)
   have hr:Hid (Jy s.data.toList=3):=Hd (by
     have h3:=V9 hp;rw [Z7] at h3;have h0:0 < s.size:=by simp at h3;omega
     have hc:=Vf s h0;rw [hc] at hp ⊢
     have h239:s[0]=239:=by
       unfold pre at hp;rw [List.isPrefixOf_cons_cons] at hp;simp only [Bool.and_eq_true,beq_iff_eq] at hp;exact hp.1.symm
     rw [h239] at hp ⊢;simp only [Jy,hp]
     rfl)
   clear hp
   go_enter Tryz.func43,Tryz.ntmps43
   go_wp2_with fail
   refine HP.out.mono ?_;rintro e w1 ⟨rfl,rfl⟩;go_wp2_with fail
   go_ret
   exact ⟨by rw [hr.out];rfl,Below.refl _ _⟩
theorem You (s:ByteArray) (k:Nat) (w:World) (hs:s.size≤9000):Calls Tryz.prog 43 #[.string (s.extract k s.size)] w fun e w'=>e=.returned (.int .i64 (Jy (s.data.toList.drop k)))∧Below w.heap.size w w':=by
 have h:=Yn6 (s.extract k s.size) w (by rw [Ur];omega)
 rwa [Xm] at h
theorem Yp0:(Tryz.prog.info? 3).map (fun i=>(i.zero,i.size,i.bytes))=some (some (.int .i64 0),1,8):=by kernel_rfl
theorem Cy {w:World} {base:Nat} {e:TypeId} {v:Value} {n:Nat} {xs:List Value} (h:w.ownsRow base e 1 v n xs):∃ A cap,v=.slice A n cap:=by
 rcases h.2 with ⟨hv,hn⟩|⟨g,cap,cur,hv,_⟩
 · exact ⟨none,0,by rw [hv,hn]⟩
 · exact ⟨_,_,hv⟩
theorem Fs {w:World} {base n:Nat} {A:Option Addr} {cap:Nat} {us:List Int} (h:w.ownsRow base 3 1 (.slice A n cap) us.length (us.map (Value.int .i64))):n=us.length∧Ln w w.heap.size A us.length us:=by
 rcases h.2 with ⟨hv,hn⟩|⟨g,c,cur,hv,hbase,hh,hnc,hm,hcs,htk⟩
 · injection hv with h1 h2 h3
   have hus:us=[]:=List.eq_nil_of_length_eq_zero hn;subst hus;exact ⟨by simpa using h2,⟨rfl,fun j z hz=>by simp at hz⟩⟩
 · have hv':=hv
   injection hv' with h1 h2 h3
   subst h1;refine ⟨h2,rfl,fun j z hz=>⟨g,0,rfl,?_,?_⟩⟩
   · exact (h.lt g rfl).2
   · subst h2 h3
     rw [Nat.zero_add,World.ownsRow.cellAt h j (by have:=(List.getElem?_eq_some_iff.1 hz).1;omega),List.getElem?_map,hz]
     rfl
def Yat (l:List UInt8):Value:=match Ow l with|some p=>.tuple #[.string ⟨p.1.toArray⟩,.int .i64 p.2]|none=>.tuple #[.string ⟨#[]⟩,.int .i64 0]
def Eu:List UInt8:=[34,92,47,98,102,110,114,116]
def Qg:List UInt8:=[34,92,47,8,12,10,13,9]
theorem Ygk:∀ c:UInt8,Lib.indexByte Eu c < 0→Mx c=none:=Y8 (by decide +kernel)
theorem Yjg:∀ c:UInt8,¬ Lib.indexByte Eu c < 0→Lib.indexByte Eu c≤7∧Mx c=some (Qg.getD (Lib.indexByte Eu c).toNat 0):=Y8 (by decide +kernel)
theorem Ygn {j:Nat} (hj:j < 8) (w:World):(Instr.slice 9 (.string ⟨#[34,92,47,8,12,10,13,9]⟩) (some (.int .i64 (j:Int))) (some (.int .i64 ((j:Int)+1))) none).run Tryz.prog w=.ok (.string ⟨#[Qg.getD j 0]⟩) w:=by
 rcases (by omega:j=0∨j=1∨j=2∨j=3∨j=4∨j=5∨j=6∨j=7) with rfl|rfl|rfl|rfl|rfl|rfl|rfl|rfl<;>kernel_rfl
theorem Xh {B:Nat} {e:TypeId} {k:Nat} {v:Value} {n:Nat} {xs:List Value} {w w':World} (h:w.ownsRow B e k v n xs) (hb:Below w.heap.size w w'):w'.ownsRow B e k v n xs:=
 h.kept (row:=none) ⟨hb.os,hb.tape,hb.output,hb.size,fun j hj _=>hb.block j hj⟩ (Classical.em _)
def Zvu (l:List UInt8) (N:Nat) (us:List Int):Prop:=N=6*us.length∧Yv l=us++Yv (l.drop N)
theorem Zvu.next {l:List UInt8} {N:Nat} {us:List Int} {u:Int} (h:Zvu l N us) (hu:Zo (l.drop N)=some u):Zvu l (N+6) (us++[u]):=by
 refine ⟨by rw [h.1];simp;omega,?_⟩;rw [h.2,Fq hu,List.drop_drop];simp
theorem Zvu.done {l:List UInt8} {N:Nat} {us:List Int} (h:Zvu l N us) (hu:Zo (l.drop N)=none):Yv l=us:=by rw [h.2,Vx hu,List.append_nil]
def ouI (o:Option Int):Int:=match o with|some u=>u|none=>0
theorem Zkr {l:List UInt8} {o:Option Int} (h:Zo l=o):De l=.tuple #[.int .i64 (ouI o),.bool o.isSome]:=by
 unfold De;rw [h]
 cases o<;>rfl
theorem Zj5 (s:ByteArray) (w:World) (hs:s.size≤9000) (h3:Ue w):Calls Tryz.prog 109 #[.string s] w fun e w'=>e=.returned (Yat s.data.toList)∧Below w.heap.size w w':=by
 obtain ⟨i0,hi,hz0,hz1,hz2⟩:=info_parts Yp0;have hU:=Zxd s w hs h3;obtain ⟨o0,ho0⟩:∃ o,Zo s.data.toList=o:=⟨_,rfl⟩;rw [Zkr ho0] at hU;have HU:=Hd hU;have H3:=Hd h3;have HO0:=Hd ho0;clear hU h3 ho0
 go_enter Tryz.func109,Tryz.ntmps109
 go_wp2_with fail
 refine HU.out.mono ?_;rintro e w1 ⟨rfl,hb⟩;have HB0:=Hd hb;clear hb;go_wp2_with fail
 go_loopg [4,5,6,7] s.size (fun g un nv uv ov wx=>∃ (N:Nat) (us:List Int) (o:Option Int),N+g=s.size∧nv=.int .i64 N∧uv=.int .i64 (ouI o)∧ov=.bool o.isSome∧us.length≤N∧Aside (Zvu s.data.toList N us)∧Aside (Zo (s.data.toList.drop N)=o)∧wx.ownsRow w.heap.size 3 1 un us.length (us.map (Value.int .i64))∧Below w.heap.size w wx)
 case atStart=>exact ⟨0,[],o0,by omega,rfl,rfl,rfl,by simp,Aside.intro ⟨rfl,rfl⟩,Aside.intro HO0.out,World.ownsRow_nil _ _ _ _,HB0.out⟩
 case round =>
  obtain ⟨N,us,o,hN,rfl,rfl,rfl,hul,HR,HO,hown,hb⟩:=hrel;obtain ⟨A,cap,rfl⟩:=Cy hown;have HB:=Hd hb;have hbs:=hb.size;have H3r:=Hd (H3.out.below hb);clear hb
  cases o with
  | none =>
    have hrun:=Hd (HR.out.done HO.out);rcases Nat.eq_zero_or_pos N with hz|hz
    · -- no unit: a single sign
      have hus:us=[]:=List.eq_nil_of_length_eq_zero (by have:=HR.out.1;omega);have hn0 : ¬ (0:Int) < (N:Int):=by omega
      rw [hus] at hrun;clear HR HO hus hz
      by_cases h2:s.size < 2
      · have h2':(s.size:Int) < 2:=by omega
        have hr:Hid (Yat s.data.toList=.tuple #[.string ⟨#[]⟩,.int .i64 0]):=Hd (by
          have hl:=Z7 s;unfold Yat Ow;rw [if_pos hrun.out]
          match s.data.toList,hl with
          | [],_=>rfl
          | [_],_=>rfl
          | _ :: _ :: _,hl=>simp only [List.length_cons] at hl;omega)
        clear hrun hown;go_wp2_with fail
        go_ret2
        exact ⟨by rw [hr.out];rfl,HB.out⟩
      · have h2' : ¬ (s.size:Int) < 2:=by omega
        have h1s:1 < s.size:=by omega
        have he:Ow s.data.toList=(Mx s[1]).map fun x=>([x],2):=by
          unfold Ow;rw [if_pos hrun.out];have h0:=Vf s (by omega);rw [Zc s 1 h1s] at h0;rw [h0]
        have hI:=Fz ⟨#[34,92,47,98,102,110,114,116]⟩ (s[1].toNat:Int) wr;rw [show ((s[1].toNat:Int).toNat.toUInt8)=s[1] by simp] at hI;have en:=Ygk s[1];have es:=Yjg s[1];obtain ⟨r,hr⟩:∃ r,Lib.indexByte (⟨#[34,92,47,98,102,110,114,116]⟩:ByteArray).data.toList s[1]=r:=⟨_,rfl⟩
        change (Lib.indexByte Eu s[1])=r at hr
        change Calls _ _ _ _ fun e w'=>e=.returned (.int .i64 (Lib.indexByte Eu s[1]))∧w'=wr at hI
        rw [hr] at hI en es;have HI:=Hd hI;clear hI hr hrun hown
        by_cases hneg:r < 0
        · have hr':Hid (Yat s.data.toList=.tuple #[.string ⟨#[]⟩,.int .i64 0]):=Hd (by unfold Yat;rw [he,en hneg];rfl)
          clear he en es;go_wp2_with fail
          refine HI.out.mono ?_;rintro e w2 ⟨rfl,rfl⟩;go_wp2_with fail
          go_ret2
          exact ⟨by rw [hr'.out];rfl,HB.out⟩
        · obtain ⟨e7,ex⟩:=es hneg
          obtain ⟨j,rfl⟩:∃ j:Nat,r=j:=⟨r.toNat,by omega⟩;have hj7:j < 8:=by omega
          obtain ⟨X,hX⟩:∃ X,Qg.getD j 0=X:=⟨_,rfl⟩
          have hr':Hid (Yat s.data.toList=.tuple #[.string ⟨#[X]⟩,.int .i64 2]):=Hd (by
           unfold Yat;rw [he,ex,Int.toNat_natCast,hX]
           rfl)
          have hM:=fun w=>Ygn hj7 w;rw [hX] at hM;have hj8:(j:Int)+1≤8:=by omega
          clear he en es ex e7 hX;go_wp2_with fail
          refine HI.out.mono ?_;rintro e w2 ⟨rfl,rfl⟩;go_wp2_with fail
          go_ret2
          exact ⟨by rw [hr'.out];rfl,HB.out⟩
    · have hn0:(0:Int) < (N:Int):=by omega
      have hio:=Fs hown;have hJ:=Ygu A us.length cap us wr (by omega) hio.2;have hne:us ≠ []:=by intro e;have:=HR.out.1;rw [e] at this;simp at this;omega
      have HN6:Hid (N=6*us.length):=Hd HR.out.1;obtain ⟨J,hJs⟩:∃ J,Ii us=J:=⟨_,rfl⟩
      cases hjo:Yl us
      · rw [hjo,hJs] at hJ
        have HJ:=Hd hJ
        have hr:Hid (Yat s.data.toList=.tuple #[.string ⟨#[]⟩,.int .i64 0]):=Hd (by
          unfold Yat Ow;rw [hrun.out,if_neg hne];unfold Yl at hjo
          cases hj:Vo us with
          | none=>rfl
          | some x=>rw [hj] at hjo;cases hjo)
        clear hJ hjo hJs hrun HR HO hio hown;go_wp2_with fail
        refine HJ.out.mono ?_;rintro e w2 ⟨rfl,hb2⟩;have HB2:=Hd hb2;clear hb2;go_wp2_with fail
        go_ret2
        exact ⟨by rw [hr.out];rfl,HB.out.trans (HB2.out.mono hbs)⟩
      · rw [hjo,hJs] at hJ
        have HJ:=Hd hJ
        have hr:Hid (Yat s.data.toList=.tuple #[.string J,.int .i64 N]):=Hd (by
          unfold Yat Ow;rw [hrun.out,if_neg hne];unfold Yl at hjo;unfold Ii at hJs
          cases hj:Vo us with
          | none=>rw [hj] at hjo;cases hjo
          | some x=>rw [hj] at hJs;subst hJs;rw [HN6.out];rfl)
        clear hJ hjo hJs hrun HR HO hio hown;go_wp2_with fail
        refine HJ.out.mono ?_;rintro e w2 ⟨rfl,hb2⟩;have HB2:=Hd hb2;clear hb2;go_wp2_with fail
        go_ret2
        exact ⟨by rw [hr.out];rfl,HB.out.trans (HB2.out.mono hbs)⟩
  | some u =>
    have h6:N+6≤s.size:=by
      have:=V4 HO.out;rw [List.length_drop,Z7] at this;omega
    have h6':(N:Int)+6≤(s.size:Int):=by omega
    have hN0:(0:Int)≤(N:Int)+6:=by omega
    have hR:=Hd (HR.out.next HO.out);have hub:=Sq HO.out;obtain ⟨o2,ho2⟩:∃ o,Zo (s.data.toList.drop (N+6))=o:=⟨_,rfl⟩;have HO2:=Hd ho2;clear HR HO ho2
    go_wp2_with (at_builtin;refine wpList_append_own _ rfl _ _ 100 rfl w.heap.size 3 i0 (.int .i64 0) 1 8 Tryz.underlying100 hi hz0 hz1 hz2 rfl (by decide) _ _ _ rfl (hown.alloc _) ⟨wr.heap.size,0,none⟩ 1 1 [.int .i64 u] rfl rfl (cell_one_new _ _ _) (by intro x hx;simp at hx;rcases hx with rfl;rfl) (by unfold maxLen;omega) (by omega) (by simp;omega) ?_;intro v' w3 hown' hgrow _;obtain ⟨A',cap',rfl⟩:=Cy hown';have HG:=Hd hgrow;have HO:=Hd hown';have HW:=Hd hown;clear hgrow hown' hown)
    have hb3:=(HB.out.alloc HB.out.size (.cells #[.int .i64 u] 3)).grown HG.out (by simp;omega) (fun q hq=>(HW.out.lt q hq).1);have hU2:=Ylk s (N+6) w3 hs (H3.out.below hb3);rw [Zkr HO2.out] at hU2;have HU2:=Hd hU2;have HB3:=Hd hb3;clear hU2 hb3;refine HU2.out.mono ?_;rintro e w4 ⟨rfl,hb4⟩;have HB4:=Hd hb4;clear hb4;go_wp2_with fail
    go_roundg (gk - 6)
    case measure=>omega
    case rel=>exact ⟨N+6,us++[u],o2,by omega,by go_num,rfl,rfl,by simp;omega,Aside.intro hR.out,Aside.intro HO2.out,by rw [List.map_append,List.length_append];exact Xh HO.out HB4.out,HB3.out.trans (HB4.out.mono HB3.out.size)⟩
end Go.Proofs.YtkmloefbkgcbkaaGreatDoor
namespace Go.Proofs.YtkmloefbkgcbkaaGreatDoor.Blk
open Go.RowKit
theorem Ya9 (s:ByteArray) (w:World) (hs:s.size≤13000) :
  Calls Tryz.prog 131 #[.string s] w fun e w'=>∃ A cap,e=.returned (.slice A (Y9 s.data.toList).length cap)∧w'.ownsRow w.heap.size 9 1 (.slice A (Y9 s.data.toList).length cap) (Y9 s.data.toList).length ((Y9 s.data.toList).map Value.string)∧Below w.heap.size w w':=by
 obtain ⟨i0,hi,hz0,hz1,hz2⟩:=En
 go_enter Tryz.func131,Tryz.ntmps131
 go_wp2
 go_loopg [3,4,5] s.size (fun g out fr i wx=>∃ (k f:Nat) (done:List ByteArray),f≤k∧k+g=s.size∧i=.int .i64 k∧fr=.int .i64 f∧done.length≤k∧Aside (Jw s f k done)∧wx.ownsRow w.heap.size 9 1 out done.length (done.map Value.string)∧Below w.heap.size w wx)
 case atStart=>exact ⟨0,0,[],by omega,by omega,rfl,rfl,by simp,Aside.intro ⟨by simp,by simp [Is]⟩,World.ownsRow_nil _ _ _ _,Below.refl _ _⟩
 case round =>
  obtain ⟨k,f,done,hfk,hk,rfl,rfl,hdl,H,hown,hb⟩:=hrel;obtain ⟨A,cap,rfl⟩:=Xn hown;have hf0:(0:Int)≤(f:Int):=by omega
  have hfk':(f:Int)≤(k:Int):=by omega
  have hks:(k:Int)≤(s.size:Int):=by omega
  have HB:=Hd hb;have hbs:=hb.size;clear hb
  cases gk with
  | zero =>
    obtain rfl:k=s.size:=by omega
    have hdone:=Hd (H.out.done);clear H
    go_wp2_with (at_builtin;refine wpList_append_own _ rfl _ _ 31 rfl w.heap.size 9 i0 (.string ByteArray.empty) 1 16 Tryz.underlying31 hi hz0 hz1 hz2 rfl (by decide) _ _ _ rfl (hown.alloc _) ⟨wr.heap.size,0,none⟩ 1 1 [.string (s.extract f s.size)] rfl rfl (cell_one_new _ _ _) (by intro x hx;simp at hx;rcases hx with rfl;rfl) (by unfold maxLen;omega) (by omega) (by simp;omega) ?_;intro v' w3 hown' hgrow _;obtain ⟨A',cap',rfl⟩:=Xn hown';have HG:=Hd hgrow;have HO:=Hd hown';have HW:=Hd hown;clear hgrow hown' hown)
    go_ret
    refine ⟨A',cap',?_,?_,(HB.out.alloc HB.out.size _).grown HG.out (by simp;omega) (fun q hq=>(HW.out.lt q hq).1)⟩
    · rw [hdone.out,List.length_append];rfl
    · rw [hdone.out,List.map_append,List.length_append];exact HO.out
  | succ g =>
    have hlt:k < s.size:=by omega
    have hlt':(k:Int) < (s.size:Int):=by omega
    by_cases c10:s[k]=10
    · have n10:((s[k].toNat:Int) != 10)=false:=by rw [c10];rfl
      have n13:((s[k].toNat:Int) == 13)=false:=by rw [c10];rfl
      have hT:=Hd (H.out.ten hfk hlt c10);clear H c10
      go_wp2_with (at_builtin;refine wpList_append_own _ rfl _ _ 31 rfl w.heap.size 9 i0 (.string ByteArray.empty) 1 16 Tryz.underlying31 hi hz0 hz1 hz2 rfl (by decide) _ _ _ rfl (hown.alloc _) ⟨wr.heap.size,0,none⟩ 1 1 [.string (s.extract f k)] rfl rfl (cell_one_new _ _ _) (by intro x hx;simp at hx;rcases hx with rfl;rfl) (by unfold maxLen;omega) (by omega) (by simp;omega) ?_;intro v' w3 hown' hgrow _;obtain ⟨A',cap',rfl⟩:=Xn hown';have HG:=Hd hgrow;have HO:=Hd hown';have HW:=Hd hown;clear hgrow hown' hown)
      go_roundg g
      case measure=>omega
      case rel=>exact ⟨k+1,k+1,done++[s.extract f k],by omega,by omega,by go_num,by go_num,by simp;omega,Aside.intro hT.out,by rw [List.map_append,List.length_append];exact HO.out,(HB.out.alloc HB.out.size _).grown HG.out (by simp;omega) (fun q hq=>(HW.out.lt q hq).1)⟩
    by_cases c13:s[k]=13
    · have n10:((s[k].toNat:Int) != 10)=true:=by rw [c13];rfl
      have n13:((s[k].toNat:Int) != 13)=false:=by rw [c13];rfl
      have m13:((s[k].toNat:Int) == 13)=true:=by rw [c13];rfl
      by_cases hk1:k+1 < s.size
      · have hk1':(k:Int)+1 < (s.size:Int):=by omega
        by_cases d10:s[k+1]=10
        · have m10:((s[k+1].toNat:Int) == 10)=true:=by rw [d10];rfl
          have hT:=Hd (H.out.both hfk hk1 c13 d10);clear H c10 c13 d10
          go_wp2_with (at_builtin;refine wpList_append_own _ rfl _ _ 31 rfl w.heap.size 9 i0 (.string ByteArray.empty) 1 16 Tryz.underlying31 hi hz0 hz1 hz2 rfl (by decide) _ _ _ rfl (hown.alloc _) ⟨wr.heap.size,0,none⟩ 1 1 [.string (s.extract f k)] rfl rfl (cell_one_new _ _ _) (by intro x hx;simp at hx;rcases hx with rfl;rfl) (by unfold maxLen;omega) (by omega) (by simp;omega) ?_;intro v' w3 hown' hgrow _;obtain ⟨A',cap',rfl⟩:=Xn hown';have HG:=Hd hgrow;have HO:=Hd hown';have HW:=Hd hown;clear hgrow hown' hown)
          go_roundg (s.size - (k+2))
          case measure=>omega
          case rel=>exact ⟨k+2,k+2,done++[s.extract f k],by omega,by omega,by go_num,by go_num,by simp;omega,Aside.intro hT.out,by rw [List.map_append,List.length_append];exact HO.out,(HB.out.alloc HB.out.size _).grown HG.out (by simp;omega) (fun q hq=>(HW.out.lt q hq).1)⟩
        · have m10:((s[k+1].toNat:Int) == 10)=false:=Pz (La d10)
          have hT:=Hd (H.out.cr hfk hlt c13 (fun _=>d10));clear H c10 c13 d10
          go_wp2_with (at_builtin;refine wpList_append_own _ rfl _ _ 31 rfl w.heap.size 9 i0 (.string ByteArray.empty) 1 16 Tryz.underlying31 hi hz0 hz1 hz2 rfl (by decide) _ _ _ rfl (hown.alloc _) ⟨wr.heap.size,0,none⟩ 1 1 [.string (s.extract f k)] rfl rfl (cell_one_new _ _ _) (by intro x hx;simp at hx;rcases hx with rfl;rfl) (by unfold maxLen;omega) (by omega) (by simp;omega) ?_;intro v' w3 hown' hgrow _;obtain ⟨A',cap',rfl⟩:=Xn hown';have HG:=Hd hgrow;have HO:=Hd hown';have HW:=Hd hown;clear hgrow hown' hown)
          go_roundg g
          case measure=>omega
          case rel=>exact ⟨k+1,k+1,done++[s.extract f k],by omega,by omega,by go_num,by go_num,by simp;omega,Aside.intro hT.out,by rw [List.map_append,List.length_append];exact HO.out,(HB.out.alloc HB.out.size _).grown HG.out (by simp;omega) (fun q hq=>(HW.out.lt q hq).1)⟩
      · have hk1' : ¬ ((k:Int)+1 < (s.size:Int)):=by omega
        have hT:=Hd (H.out.cr hfk hlt c13 (fun h=>absurd h hk1));clear H c10 c13
        go_wp2_with (at_builtin;refine wpList_append_own _ rfl _ _ 31 rfl w.heap.size 9 i0 (.string ByteArray.empty) 1 16 Tryz.underlying31 hi hz0 hz1 hz2 rfl (by decide) _ _ _ rfl (hown.alloc _) ⟨wr.heap.size,0,none⟩ 1 1 [.string (s.extract f k)] rfl rfl (cell_one_new _ _ _) (by intro x hx;simp at hx;rcases hx with rfl;rfl) (by unfold maxLen;omega) (by omega) (by simp;omega) ?_;intro v' w3 hown' hgrow _;obtain ⟨A',cap',rfl⟩:=Xn hown';have HG:=Hd hgrow;have HO:=Hd hown';have HW:=Hd hown;clear hgrow hown' hown)
        go_roundg g
        case measure=>omega
        case rel=>exact ⟨k+1,k+1,done++[s.extract f k],by omega,by omega,by go_num,by go_num,by simp;omega,Aside.intro hT.out,by rw [List.map_append,List.length_append];exact HO.out,(HB.out.alloc HB.out.size _).grown HG.out (by simp;omega) (fun q hq=>(HW.out.lt q hq).1)⟩
    · have n10:((s[k].toNat:Int) != 10)=true:=P0 (La c10)
      have n13:((s[k].toNat:Int) != 13)=true:=P0 (La c13);have hT:Hid (Jw s f (k+1) done):=Hd ⟨H.out.1,Pv hfk hlt H.out.2 (by simp [eolB,c10,c13])⟩;clear H c10 c13;go_wp2
      go_roundg g
      case measure=>omega
      case rel=>exact ⟨k+1,f,done,by omega,by omega,by go_num,rfl,by omega,Aside.intro hT.out,hown,HB.out⟩
end Go.Proofs.YtkmloefbkgcbkaaGreatDoor.Blk
