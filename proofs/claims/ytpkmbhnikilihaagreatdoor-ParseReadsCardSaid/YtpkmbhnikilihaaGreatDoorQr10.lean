/- The walks of strings.IndexRune and strings.IndexAny where the text holds other than plain bytes, for two plain signs. -/
import Derived.Test.YtpkmbhnikilihaaGreatDoorQr9
import Derived.Laws.RangeString
import Derived.Laws.RangeAny
import Derived.Laws.Cover4
import Derived.Lib.OthersKept
import Derived.Outline
import Derived.Shelf.Strings.OnBuilder
set_option maxRecDepth 100000
set_option maxHeartbeats 1000000
namespace Go.Proofs.YtpkmbhnikilihaaGreatDoor
open Go.RowKit
def Yhf (e:Ending):Prop:=∃ b,e=.returned (.bool b)
theorem Zvd (r:Int) (h0:0≤r) (w:World):Calls Tryz.prog 291 #[.int .i32 r] w fun e w'=>Yhf e∧w=w':=by
 go_enter Tryz.func291,Tryz.ntmps291
 go_wp2
 all_goals go_ret
 all_goals (refine ⟨?_,rfl⟩;exact ⟨_,rfl⟩)
theorem Pf (w:World) (s:ByteArray) (i:Nat):Below w.heap.size w (w.iter s i):=(Below.refl _ _).alloc (Nat.le_refl _) _
theorem Ygh {r:Int} (h:128≤r):2≤(Utf8.encode r).size∧(Utf8.encode r).size≤4:=by
 have hc:128≤(if Utf8.valid r then r.toNat else Utf8.runeError):=by
   split
   · omega
   · simp [Utf8.runeError]
 refine ⟨?_,encode_size_le r⟩
 unfold Utf8.encode
 simp only
 generalize (if Utf8.valid r=true then r.toNat else Utf8.runeError)=c at *
 rw [if_neg (by omega)]
 split
 · exact Nat.le_refl 2
 · split
   · exact Nat.le_succ 2
   · exact Nat.le_succ_of_le (Nat.le_succ 2)
theorem Yin {r:Int} (h:128≤r) (h2:(Utf8.encode r).size=2):128≤((Utf8.encode r)[1]'(by omega)).toNat:=by
 have hc:128≤(if Utf8.valid r then r.toNat else Utf8.runeError):=by
  split
  · omega
  · simp [Utf8.runeError]
 have e:Utf8.encode r=⟨#[UInt8.ofNat (0xC0+(if Utf8.valid r then r.toNat else Utf8.runeError) / 64),UInt8.ofNat (0x80+(if Utf8.valid r then r.toNat else Utf8.runeError) % 64)]⟩:=by
  unfold Utf8.encode at h2 ⊢
  simp only at h2 ⊢
  generalize (if Utf8.valid r=true then r.toNat else Utf8.runeError)=c at *
  rw [if_neg (by omega)] at h2 ⊢
  split at h2
  · rename_i hl;rw [if_pos hl]
  · split at h2
    · exact absurd h2 (by show ¬ (3=2);decide)
    · exact absurd h2 (by show ¬ (4=2);decide)
 generalize (if Utf8.valid r=true then r.toNat else Utf8.runeError)=c at *
 simp only [e]
 show 128≤(UInt8.ofNat (0x80+c % 64)).toNat
 rw [UInt8.toNat_ofNat']
 omega
theorem Pu (c:UInt8) (w:World):Calls Tryz.prog 200 #[.string ByteArray.empty,.int .u8 (c.toNat:Int)] w fun e w'=>e=.returned (.int .i64 (-1))∧w'=w:=
 Fp ByteArray.empty (c.toNat:Int) w
theorem Yb2 (w:World):(Instr.slice 9 (.string ⟨#[10,13]⟩) (some (.int .i64 2)) none none).run Tryz.prog w=.ok (.string ((⟨#[10,13]⟩:ByteArray).extract 2 2)) w:=by kernel_rfl
theorem Mp (q:ByteArray) (hq3:q=⟨#[10,13]⟩) (hq2:q.size=2) (hq:∀ i (h:i < q.size),q[i].toNat < 128) (r:Int) (h0:128≤r) (w:World):Calls Tryz.prog 263 #[.string q,.int .i32 r] w fun e w'=>e=.returned (.int .i64 (-1))∧Below w.heap.size w w':=by
 have hsl:∀ w,(Instr.slice 9 (.string q) (some (.int .i64 2)) none none).run Tryz.prog w=.ok (.string (q.extract 2 2)) w:=by subst hq3;exact Yb2
 clear hq3
 have hr0:(0:Int)≤r:=by omega
 have hr1 : ¬ r < 128:=by omega
 cases hE:(r == 65533)
 · have HV:=Hd (Zvd r hr0 w)
   have he:=Ygh h0
   obtain ⟨E,hEE⟩:∃ E,Utf8.encode r=E:=⟨_,rfl⟩
   rw [hEE] at he
   obtain ⟨he0,he1⟩:=he
   go_enter Tryz.func263,Tryz.ntmps263
   go_wp2_with fail
   refine HV.out.mono ?_
   rintro e w1 ⟨⟨b,rfl⟩,rfl⟩
   cases b
   · go_wp2_with fail
     go_ret
     exact ⟨rfl,Below.refl _ _⟩
   · go_wp2_with fail
     go_wp2_with fail
     go_step3
     go_wp2_with fail
     refine wp_loop_once ?_
     by_cases hs2:E.size=2
     · have e1:(E.size:Int) - 1=1:=by omega
       have h1q:1 < q.size:=by omega
       have h1E:1 < E.size:=by omega
       have hqs:(1:Int) < (q.size:Int):=by omega
       have hes:(1:Int) < (E.size:Int):=by omega
       have hne:((q[1].toNat:Int) != (E[1].toNat:Int))=true:=by
        have h1:=hq 1 h1q
        have h2:128≤E[1].toNat:=by
         subst hEE
         exact Yin h0 hs2
        simp
        omega
       go_wp2_with fail
       go_step3
       go_wp2_with fail
       go_quiet (fail)
       go_wp2_with fail
       have hw2:IntKind.i64.wrap 2=2:=by decide
       go_quiet ((go_at_call 200;exact (Pu E[1] _).mono fun _ _ h=>⟨h.1,_,h.2⟩))
       go_wp2_with fail
       rw [Exit.noGoto_ret]
       simp +zetaDelta only [Exit.inBlock,Exit.then,Exit.noGoto]
       refine bodyPost_ret (results_tmp rfl _ _ _) rfl ?_
       exact ⟨rfl,Lv (Below.refl _ _) _⟩
     · have e1 : ¬ (E.size:Int) - 1 < (q.size:Int):=by omega
       go_wp2_with fail
       go_ret
       exact ⟨rfl,Below.refl _ _⟩
 · go_enter Tryz.func263,Tryz.ntmps263
   go_wp2_with fail
   go_loopg [5,6] 2 (fun g _ _ wx=>∃ i:Nat,i+g=2∧wx=w.iter q i)
   case atStart=>exact ⟨0,by omega,rfl⟩
   case round =>
     obtain ⟨i,hi,rfl⟩:=hrel
     cases gk with
     | zero =>
       obtain rfl:i=2:=by omega
       have hnx:=fun ty=>run_next_end (P:=Tryz.prog) w q 2 ty (by omega)
       go_wp2
       go_ret
       exact ⟨rfl,Pf _ _ _⟩
     | succ g =>
       have hi2:i < q.size:=by omega
       have hlt:=hq i hi2
       have hnx:=fun ty=>run_next_ascii (P:=Tryz.prog) w q i ty hi2 hlt
       have hne:((q[i].toNat:Int) == 65533)=false:=by simp;omega
       go_wp2
       go_roundg g
       case measure=>omega
       case rel=>exact ⟨i+1,by omega,rfl⟩
theorem Dx (s:ByteArray) (pos:Nat):∀ j,1≤j→j < (Utf8.decode s pos).2→pos+j < s.size∧(s.get! (pos+j)).toNat / 64=2:=by
 intro j h1 h2
 have hj:j=1∨j=2∨j=3∨4≤j:=by omega
 simp only [Utf8.decode] at h2
 rcases hj with rfl|rfl|rfl|hj
 all_goals
  repeat' split at h2
  all_goals simp_all
  all_goals omega
theorem Ymw (s:ByteArray) (i:Nat) (h:i < s.size):s.get! i=s[i]:=by
 simp [ByteArray.get!,h]
 rfl
theorem Zvf {s:ByteArray} {i K:Nat} (hn:Lib.NoAny s.data.toList [10,13] i) (hi:i < s.size) (h128:128≤(s[i]'hi).toNat) (hK:∀ j,1≤j→j < K→i+j < s.size∧(s.get! (i+j)).toNat / 64=2):Lib.NoAny s.data.toList [10,13] (i+K):=by
 intro j b hj hb
 by_cases h1:j < i
 · exact hn j b h1 hb
 · have hbig:128≤b.toNat:=by
    have hjl:j < s.data.toList.length:=(List.getElem?_eq_some_iff.1 hb).1
    rw [Z6] at hjl
    have hb':s[j]=b:=by
      have:=(List.getElem?_eq_some_iff.1 hb).2
      rw [← this]
      rfl
    by_cases h2:j=i
    · subst h2;rw [← hb'];exact h128
    · have:=(hK (j - i) (by omega) (by omega)).2
      rw [show i+(j - i)=j by omega,Ymw s j hjl,hb'] at this
      omega
   have h10:b ≠ 10:=fun e=>by subst e;exact absurd hbig (by decide)
   have h13:b ≠ 13:=fun e=>by subst e;exact absurd hbig (by decide)
   simp [h10,h13]
theorem Lq {B:Nat} {a w:World} (h:Below B a w) {k:Nat} (hk:B≤k) (s:ByteArray) (p:Nat):Below B a (w.iterAt k s p):=by
 refine ⟨h.os,h.tape,h.output,by simpa [World.iterAt] using h.size,fun j hj=>?_⟩
 rw [← h.block j hj]
 show (w.heap.setIfInBounds k (.stringIter s p))[j]? = w.heap[j]?
 rw [Array.getElem?_setIfInBounds_ne (by omega)]
theorem Ybw (n:Nat) (h8:(n:Int)≤8) (w:World):Calls Tryz.prog 264 #[.int .i64 (n:Int)] w fun e w'=>e=.returned (.bool false)∧w=w':=by
 go_enter Tryz.func264,Tryz.ntmps264
 go_wp2
 go_ret
 exact ⟨Yy (by simp;omega),rfl⟩
theorem Mg (s:ByteArray) (w:World) (h8:s.size≤8):Calls Tryz.prog 231 #[.string s,.string ⟨#[10,13]⟩] w fun e w'=>e=.returned (.int .i64 (Lib.indexAny s.data.toList [10,13]))∧Below w.heap.size w w':=by
 have hl:=Z6 s
 have h8z:(s.size:Int)≤8:=by omega
 have HLEN:=Hd hl
 clear hl
 go_enter Tryz.func231,Tryz.ntmps231
 go_wp2_with fail
 refine (Ybw s.size h8z _).mono ?_
 rintro e w' ⟨rfl,rfl⟩
 go_wp2_with fail
 go_loopg [9,10] s.size (fun g _ _ wx=>∃ i:Nat,i+g=s.size∧wx.heap[w.heap.size]? = some (.stringIter s i)∧Below w.heap.size w wx∧Aside (Lib.NoAny s.data.toList [10,13] i))
 case atStart=>exact ⟨0,by omega,World.iter_heap _ _ _,Pf _ _ _,Aside.intro (Lib.NoAny.zero _ _)⟩
 case round =>
  obtain ⟨i,hig,hit,hb,HN⟩:=hrel
  have HB:=Hd hb
  have hbs:=hb.size
  clear hb
  by_cases hi:i < s.size
  · have HIT:=Hd hit
    have hlt:w.heap.size < wr.heap.size:=(Array.getElem?_eq_some_iff.1 hit).1
    by_cases ha:(s[i]'hi).toNat < 128
    · have hnx:=fun ty=>Lib.run_next_ascii_at (P:=Tryz.prog) wr w.heap.size s i ty hit hi ha
      obtain ⟨x,hx⟩:∃ x:UInt8,s[i]'hi=x:=⟨_,rfl⟩
      have hxl:s.data.toList[i]? = some x:=by rw [← hx];exact Lib.data_getElem? s i hi
      rw [hx] at hnx ha
      have hI:=Ab ⟨#[10,13]⟩ (x.toNat:Int) (wr.iterAt w.heap.size s (i+1)) (by omega) (by omega)
      rw [show ((x.toNat:Int)).toNat.toUInt8=x by simp] at hI
      have hcon:=Lib.contains_iff_indexByte [10,13] x
      obtain ⟨r,hr⟩:∃ r,Lib.indexByte (⟨#[10,13]⟩:ByteArray).data.toList x=r:=⟨_,rfl⟩
      rw [hr] at hI
      change Lib.indexByte [10,13] x=r at hr
      rw [hr] at hcon
      have HI:=Hd hI
      have Hxl:=Hd hxl
      clear hit hx hxl hI hr
      cases hin:([10,13]:List UInt8).contains x
      · have hneg : ¬ (0:Int)≤r:=by rw [hin] at hcon;exact of_decide_eq_false hcon.symm
        have HN2:=Hd (HN.out.succ Hxl.out hin)
        clear hcon hin HN
        go_wp2_with fail
        refine HI.out.mono ?_
        rintro e w2 ⟨rfl,rfl⟩
        go_wp2_with fail
        go_roundg (gk - 1)
        case measure=>omega
        case rel=>exact ⟨i+1,by omega,Lib.iterAt_heap _ _ _ _ _ HIT.out,Lq HB.out (Nat.le_refl _) _ _,Aside.intro HN2.out⟩
      · have hpos:(0:Int)≤r:=by rw [hin] at hcon;exact of_decide_eq_true hcon.symm
        have hr:Hid (Lib.indexAny s.data.toList [10,13]=i):=Hd (Lib.indexAny_hit HN.out Hxl.out hin)
        clear hcon hin HN
        go_wp2_with fail
        refine HI.out.mono ?_
        rintro e w2 ⟨rfl,rfl⟩
        go_wp2_with fail
        go_ret
        exact ⟨Jy hr.out.symm,Lq HB.out (Nat.le_refl _) _ _⟩
    · have hd:=decode_high s i hi (by omega)
      have hnx:=fun ty=>Lib.run_next_any_at (P:=Tryz.prog) wr w.heap.size s i ty hit hi
      have HN2:=Hd (Zvf HN.out hi (by omega) (Dx s i))
      have hw4:i+(Utf8.decode s i).2≤s.size:=by
        by_cases h1:(Utf8.decode s i).2=1
        · omega
        · have:=(Dx s i ((Utf8.decode s i).2 - 1) (by omega) (by omega)).1
          omega
      obtain ⟨c,hc⟩:∃ c,(Utf8.decode s i).1=c:=⟨_,rfl⟩
      obtain ⟨K,hK⟩:∃ K,(Utf8.decode s i).2=K:=⟨_,rfl⟩
      rw [hc] at hd hnx
      rw [hK] at hd hnx HN2 hw4
      have HI:=Hd (Mp ⟨#[10,13]⟩ rfl rfl (by decide) (c:Int) (by omega) (wr.iterAt w.heap.size s (i+K)))
      clear hit hc hK HN
      go_wp2_with fail
      refine HI.out.mono ?_
      rintro e w2 ⟨rfl,hb2⟩
      have HBb:=Hd hb2
      clear hb2
      go_wp2_with fail
      go_roundg (gk - K)
      case measure=>omega
      case rel=>exact ⟨i+K,by omega,(HBb.out.block w.heap.size (by simpa [World.iterAt] using hlt)).trans (Lib.iterAt_heap _ _ _ _ _ HIT.out),(Lq HB.out (Nat.le_refl _) s (i+K)).trans (HBb.out.mono (by simpa [World.iterAt] using hbs)),Aside.intro HN2.out⟩
  · obtain rfl:i=s.size:=by omega
    have hnx:=fun ty=>Lib.run_next_end_at (P:=Tryz.prog) wr w.heap.size s s.size ty hit hi
    have hr:Hid (Lib.indexAny s.data.toList [10,13] = -1):=Hd (Lib.indexAny_none (by rw [HLEN.out];exact HN.out))
    clear hit HN
    go_wp2_with fail
    go_ret
    exact ⟨Jy hr.out.symm,HB.out⟩
theorem Ra (s:ByteArray) (w:World) (hs:s.size≤9000):Calls Tryz.prog 231 #[.string s,.string ⟨#[10,13]⟩] w fun e w'=>e=.returned (.int .i64 (Lib.indexAny s.data.toList [10,13]))∧Below w.heap.size w w':=by
 by_cases h8:s.size≤8
 · exact Mg s w h8
 · exact Qz s ⟨#[10,13]⟩ w (by decide) (by omega) (by omega) (by decide) (fun j b hb=>by
    match j,hb with
    | 0,hb=>cases hb;decide
    | 1,hb=>cases hb;decide
    | j+2,hb=>simp at hb)
theorem Ykz:∀ l:List UInt8,Lib.indexAny l [10,13]=if (l.takeWhile V7).length < l.length then ((l.takeWhile V7).length:Int) else -1:=by
 intro l
 induction l with
 | nil=>rfl
 | cons b t ih =>
   have hb:([10,13]:List UInt8).contains b = !V7 b:=by unfold V7;cases h10:(b == 10)<;>cases h13:(b == 13)<;>simp_all
   rw [Lib.indexAny,hb,List.takeWhile_cons]
   cases hn:V7 b
   · simp
   · have:=Va V7 t
     simp only [Bool.not_true,Bool.false_eq_true,if_false,if_true,List.length_cons]
     rw [ih]
     by_cases h:(t.takeWhile V7).length < t.length
     · rw [if_pos h,if_neg (show ¬ (((t.takeWhile V7).length:Int) == -1)=true by simp),if_pos (show (t.takeWhile V7).length+1 < t.length+1 by omega)]
       omega
     · rw [if_neg h,if_pos (show ((-1:Int) == -1)=true by rfl),if_neg (show ¬ (t.takeWhile V7).length+1 < t.length+1 by omega)]
theorem Yl8 (s:ByteArray) (h:0 < s.size) (hp:pre [239,187,191] s.data.toList=false):V5 s.data.toList=if Lg s[0] then 1 else if s[0] == 35 then 1+((s.data.toList.drop 1).takeWhile V7).length else 0:=by
 rw [Vi s h] at hp
 conv=>lhs;rw [Vi s h]
 simp only [V5,hp]
 rfl
theorem Ykr (s : ByteArray) (w:World) (hs:s.size≤9000):Calls Tryz.prog 169 #[.string s] w fun e w'=>e=.returned (.int .i64 (V5 s.data.toList))∧Below w.heap.size w w':=by
 cases hp:pre [239,187,191] s.data.toList
 · have HP := Hd (Zyk s ⟨#[239,187,191]⟩ w false hp)
   rcases Nat.eq_zero_or_pos s.size with h0|h0
   · have hr:Hid (V5 s.data.toList=0):=Hd (by rw [J9 h0];rfl)
     have he:=Eb h0
     clear hp
     go_enter Tryz.func169,Tryz.ntmps169
     go_wp2_with fail
     refine HP.out.mono ?_
     rintro e w1 ⟨rfl,rfl⟩
     go_wp2_with fail
     go_ret
     exact ⟨by rw [hr.out];rfl,Below.refl _ _⟩
   have he:=Ge h0
   have hg:=Yl8 s h0 hp
   have hI:=Ra s w hs
   rw [Ykz,Vi s h0] at hI
   have h0':(0:Int) < (s.size:Int):=by omega
   clear hp
   cases c9:(s[0] == 9)
   · obtain ⟨a1, a2⟩:=Ow c9 9 rfl
     cases c10:(s[0] == 10)
     · obtain ⟨b1,b2⟩:=Ow c10 10 rfl
       cases c13:(s[0] == 13)
       · obtain ⟨c1,c2⟩:=Ow c13 13 rfl
         cases c32:(s[0] == 32)
         · obtain ⟨d1,d2⟩:=Ow c32 32 rfl
           cases c44:(s[0] == 44)
           · obtain ⟨f1,f2⟩:=Ow c44 44 rfl
             have hgn:Lg s[0]=false:=by simp [Lg,c9,c10,c13,c32,c44]
             cases c35:(s[0] == 35)
             · obtain ⟨g1,g2⟩:=Ow c35 35 rfl
               have hr:Hid (V5 s.data.toList=0):=Hd (by rw [hg,hgn,c35];rfl)
               clear hg hI hgn c9 c10 c13 c32 c44 c35
               go_enter Tryz.func169,Tryz.ntmps169
               go_wp2_with fail
               refine HP.out.mono ?_
               rintro e w1 ⟨rfl,rfl⟩
               go_wp2_with fail
               go_ret
               exact ⟨by rw [hr.out];rfl,Below.refl _ _⟩
             · obtain ⟨g1,g2⟩:=On c35 35 rfl
               have h35:s[0]=35:=by simpa using c35
               rw [hgn,c35] at hg
               simp only [Bool.false_eq_true,if_false,if_true] at hg
               have htl:=Va V7 (s.data.toList.drop 1)
               rw [List.length_drop,Z6] at htl
               rw [List.takeWhile_cons,show V7 s[0]=true by rw [h35];rfl,if_pos rfl,List.length_cons,List.length_cons,List.length_drop,Z6] at hI
               obtain ⟨m,hm⟩:∃ m,((s.data.toList.drop 1).takeWhile V7).length=m:=⟨_,rfl⟩
               rw [hm] at hI hg htl
               have hr:=Hd hg
               clear hg hgn c9 c10 c13 c32 c44 c35 hm h35
               by_cases hlt:m+1 < s.size - 1+1
               · rw [if_pos hlt] at hI
                 have HI:=Hd hI
                 clear hI
                 have hpos:(0:Int) < ((m+1:Nat):Int):=by omega
                 go_enter Tryz.func169,Tryz.ntmps169
                 go_wp2_with fail
                 refine HP.out.mono ?_
                 rintro e w1 ⟨rfl,rfl⟩
                 go_wp2_with fail
                 refine HI.out.mono ?_
                 rintro e w1 ⟨rfl,hb⟩
                 have HB:=Hd hb
                 clear hb
                 go_wp2_with fail
                 go_ret
                 exact ⟨Jy (by rw [hr.out];omega),HB.out⟩
               · rw [if_neg hlt] at hI
                 have HI:=Hd hI
                 clear hI
                 go_enter Tryz.func169,Tryz.ntmps169
                 go_wp2_with fail
                 refine HP.out.mono ?_
                 rintro e w1 ⟨rfl,rfl⟩
                 go_wp2_with fail
                 refine HI.out.mono ?_
                 rintro e w1 ⟨rfl,hb⟩
                 have HB:=Hd hb
                 clear hb
                 go_wp2_with fail
                 go_ret
                 exact ⟨Jy (by rw [hr.out];omega),HB.out⟩
           · obtain ⟨f1,f2⟩:=On c44 44 rfl
             have hr:Hid (V5 s.data.toList=1):=Hd (by rw [hg];simp [Lg,c9,c10,c13,c32,c44])
             clear hg hI c9 c10 c13 c32 c44
             go_enter Tryz.func169,Tryz.ntmps169
             go_wp2_with fail
             refine HP.out.mono ?_
             rintro e w1 ⟨rfl,rfl⟩
             go_wp2_with fail
             go_ret
             exact ⟨by rw [hr.out];rfl,Below.refl _ _⟩
         · obtain ⟨d1,d2⟩:=On c32 32 rfl
           have hr:Hid (V5 s.data.toList=1):=Hd (by rw [hg];simp [Lg,c9,c10,c13,c32])
           clear hg hI c9 c10 c13 c32
           go_enter Tryz.func169,Tryz.ntmps169
           go_wp2_with fail
           refine HP.out.mono ?_
           rintro e w1 ⟨rfl,rfl⟩
           go_wp2_with fail
           go_ret
           exact ⟨by rw [hr.out];rfl,Below.refl _ _⟩
       · obtain ⟨c1,c2⟩:=On c13 13 rfl
         have hr:Hid (V5 s.data.toList=1):=Hd (by rw [hg];simp [Lg,c9,c10,c13])
         clear hg hI c9 c10 c13
         go_enter Tryz.func169,Tryz.ntmps169
         go_wp2_with fail
         refine HP.out.mono ?_
         rintro e w1 ⟨rfl,rfl⟩
         go_wp2_with fail
         go_ret
         exact ⟨by rw [hr.out];rfl,Below.refl _ _⟩
     · obtain ⟨b1,b2⟩:=On c10 10 rfl
       have hr:Hid (V5 s.data.toList=1):=Hd (by rw [hg];simp [Lg,c9,c10])
       clear hg hI c9 c10
       go_enter Tryz.func169,Tryz.ntmps169
       go_wp2_with fail
       refine HP.out.mono ?_
       rintro e w1 ⟨rfl,rfl⟩
       go_wp2_with fail
       go_ret
       exact ⟨by rw [hr.out];rfl,Below.refl _ _⟩
   · obtain ⟨a1,a2⟩:=On c9 9 rfl
     have hr:Hid (V5 s.data.toList=1):=Hd (by rw [hg];simp [Lg,c9])
     clear hg hI c9
     go_enter Tryz.func169,Tryz.ntmps169
     go_wp2_with fail
     refine HP.out.mono ?_
     rintro e w1 ⟨rfl,rfl⟩
     go_wp2_with fail
     go_ret
     exact ⟨by rw [hr.out];rfl,Below.refl _ _⟩
 · have HP:=Hd (Zyk s ⟨#[239,187,191]⟩ w true hp)
   have hr:Hid (V5 s.data.toList=3):=Hd (by
     have h3:=Vk hp
     rw [Z6] at h3
     have h0:0 < s.size:=by simp at h3;omega
     have hc:=Vi s h0
     rw [hc] at hp ⊢
     have h239:s[0]=239:=by
       unfold pre at hp
       rw [List.isPrefixOf_cons_cons] at hp
       simp only [Bool.and_eq_true,beq_iff_eq] at hp
       exact hp.1.symm
     rw [h239] at hp ⊢
     simp only [V5,hp]
     rfl)
   clear hp
   go_enter Tryz.func169,Tryz.ntmps169
   go_wp2_with fail
   refine HP.out.mono ?_
   rintro e w1 ⟨rfl,rfl⟩
   go_wp2_with fail
   go_ret
   exact ⟨by rw [hr.out];rfl,Below.refl _ _⟩
theorem Ylr (s:ByteArray) (k:Nat) (w:World) (hs:s.size≤9000):Calls Tryz.prog 169 #[.string (s.extract k s.size)] w fun e w'=>e=.returned (.int .i64 (V5 (s.data.toList.drop k)))∧Below w.heap.size w w':=by
 have h:=Ykr (s.extract k s.size) w (by rw [Us];omega)
 rwa [Xl] at h
theorem Yml:(Tryz.prog.info? 3).map (fun i=>(i.zero,i.size,i.bytes))=some (some (.int .i64 0),1,8):=by kernel_rfl
theorem W7 {w:World} {base:Nat} {e:TypeId} {v:Value} {n:Nat} {xs:List Value} (h:w.ownsRow base e 1 v n xs):∃ A cap,v=.slice A n cap:=by
 rcases h.2 with ⟨hv,hn⟩|⟨g,cap,cur,hv,_⟩
 · exact ⟨none,0,by rw [hv,hn]⟩
 · exact ⟨_,_,hv⟩
theorem Fu {w:World} {base n:Nat} {A:Option Addr} {cap:Nat} {us:List Int} (h:w.ownsRow base 3 1 (.slice A n cap) us.length (us.map (Value.int .i64))):n=us.length∧Ln w w.heap.size A us.length us:=by
 rcases h.2 with ⟨hv,hn⟩|⟨g,c,cur,hv,hbase,hh,hnc,hm,hcs,htk⟩
 · injection hv with h1 h2 h3
   have hus:us=[]:=List.eq_nil_of_length_eq_zero hn
   subst hus
   exact ⟨by simpa using h2,⟨rfl,fun j z hz=>by simp at hz⟩⟩
 · have hv':=hv
   injection hv' with h1 h2 h3
   subst h1
   refine ⟨h2,rfl,fun j z hz=>⟨g,0,rfl,?_,?_⟩⟩
   · exact (h.lt g rfl).2
   · subst h2 h3
     rw [Nat.zero_add,World.ownsRow.cellAt h j (by have:=(List.getElem?_eq_some_iff.1 hz).1;omega),List.getElem?_map,hz]
     rfl
def Zym (l:List UInt8):Value:=match Ot l with|some p=>.tuple #[.string ⟨p.1.toArray⟩,.int .i64 p.2]|none=>.tuple #[.string ⟨#[]⟩,.int .i64 0]
def Eu:List UInt8:=[34,92,47,98,102,110,114,116]
def Qr:List UInt8:=[34,92,47,8,12,10,13,9]
theorem Yhi:∀ c:UInt8,Lib.indexByte Eu c < 0→Md c=none:=Zw (by decide +kernel)
theorem Yev:∀ c:UInt8,¬ Lib.indexByte Eu c < 0→Lib.indexByte Eu c≤7∧Md c=some (Qr.getD (Lib.indexByte Eu c).toNat 0):=Zw (by decide +kernel)
theorem Yfu {j:Nat} (hj:j < 8) (w:World):(Instr.slice 9 (.string ⟨#[34,92,47,8,12,10,13,9]⟩) (some (.int .i64 (j:Int))) (some (.int .i64 ((j:Int)+1))) none).run Tryz.prog w=.ok (.string ⟨#[Qr.getD j 0]⟩) w:=by
 rcases (by omega:j=0∨j=1∨j=2∨j=3∨j=4∨j=5∨j=6∨j=7) with rfl|rfl|rfl|rfl|rfl|rfl|rfl|rfl<;>kernel_rfl
theorem Xi {B:Nat} {e:TypeId} {k:Nat} {v:Value} {n:Nat} {xs:List Value} {w w':World} (h:w.ownsRow B e k v n xs) (hb:Below w.heap.size w w'):w'.ownsRow B e k v n xs:=
 h.kept (row:=none) ⟨hb.os,hb.tape,hb.output,hb.size,fun j hj _=>hb.block j hj⟩ (Classical.em _)
def Zvj (l:List UInt8) (N:Nat) (us:List Int):Prop:=N=6*us.length∧Yv l=us++Yv (l.drop N)
theorem Zvj.next {l:List UInt8} {N:Nat} {us:List Int} {u:Int} (h:Zvj l N us) (hu:Zg (l.drop N)=some u):Zvj l (N+6) (us++[u]):=by
 refine ⟨by rw [h.1];simp;omega,?_⟩
 rw [h.2,Fr hu,List.drop_drop]
 simp
theorem Zvj.done {l:List UInt8} {N:Nat} {us:List Int} (h:Zvj l N us) (hu:Zg (l.drop N)=none):Yv l=us:=by rw [h.2,U3 hu,List.append_nil]
def ouI (o:Option Int):Int:=match o with|some u=>u|none=>0
theorem Zkk {l:List UInt8} {o:Option Int} (h:Zg l=o):Dd l=.tuple #[.int .i64 (ouI o),.bool o.isSome]:=by
 unfold Dd
 rw [h]
 cases o<;>rfl
theorem Zqv (s:ByteArray) (w:World) (hs:s.size≤9000) (h3:Jw w):Calls Tryz.prog 262 #[.string s] w fun e w'=>e=.returned (Zym s.data.toList)∧Below w.heap.size w w':=by
 obtain ⟨i0,hi,hz0,hz1,hz2⟩:=info_parts Yml
 have hU:=Zjr s w hs h3
 obtain ⟨o0,ho0⟩:∃ o,Zg s.data.toList=o:=⟨_,rfl⟩
 rw [Zkk ho0] at hU
 have HU:=Hd hU
 have H3:=Hd h3
 have HO0:=Hd ho0
 clear hU h3 ho0
 go_enter Tryz.func262,Tryz.ntmps262
 go_wp2_with fail
 refine HU.out.mono ?_
 rintro e w1 ⟨rfl,hb⟩
 have HB0:=Hd hb
 clear hb
 go_wp2_with fail
 go_loopg [4,5,6,7] s.size (fun g un nv uv ov wx=>∃ (N:Nat) (us:List Int) (o:Option Int),N+g=s.size∧nv=.int .i64 N∧uv=.int .i64 (ouI o)∧ov=.bool o.isSome∧us.length≤N∧Aside (Zvj s.data.toList N us)∧Aside (Zg (s.data.toList.drop N)=o)∧wx.ownsRow w.heap.size 3 1 un us.length (us.map (Value.int .i64))∧Below w.heap.size w wx)
 case atStart=>exact ⟨0,[],o0,by omega,rfl,rfl,rfl,by simp,Aside.intro ⟨rfl,rfl⟩,Aside.intro HO0.out,World.ownsRow_nil _ _ _ _,HB0.out⟩
 case round =>
  obtain ⟨N,us,o,hN,rfl,rfl,rfl,hul,HR,HO,hown,hb⟩:=hrel
  obtain ⟨A,cap,rfl⟩:=W7 hown
  have HB:=Hd hb
  have hbs:=hb.size
  have H3r:=Hd (H3.out.below hb)
  clear hb
  cases o with
  | none =>
    have hrun:=Hd (HR.out.done HO.out)
    rcases Nat.eq_zero_or_pos N with hz|hz
    · -- no unit: a single sign
      have hus:us=[]:=List.eq_nil_of_length_eq_zero (by have:=HR.out.1;omega)
      have hn0 : ¬ (0:Int) < (N:Int):=by omega
      rw [hus] at hrun
      clear HR HO hus hz
      by_cases h2:s.size < 2
      · have h2':(s.size:Int) < 2:=by omega
        have hr:Hid (Zym s.data.toList=.tuple #[.string ⟨#[]⟩,.int .i64 0]):=Hd (by
          have hl:=Z6 s
          unfold Zym Ot
          rw [if_pos hrun.out]
          match s.data.toList,hl with
          | [],_=>rfl
          | [_],_=>rfl
          | _ :: _ :: _,hl=>simp only [List.length_cons] at hl;omega)
        clear hrun hown
        go_wp2_with fail
        go_ret2
        exact ⟨by rw [hr.out];rfl,HB.out⟩
      · have h2' : ¬ (s.size:Int) < 2:=by omega
        have h1s:1 < s.size:=by omega
        have he:Ot s.data.toList=(Md s[1]).map fun x=>([x],2):=by
          unfold Ot
          rw [if_pos hrun.out]
          have h0:=Vi s (by omega)
          rw [Z9 s 1 h1s] at h0
          rw [h0]
        have hI:=Fp ⟨#[34,92,47,98,102,110,114,116]⟩ (s[1].toNat:Int) wr
        rw [show ((s[1].toNat:Int).toNat.toUInt8)=s[1] by simp] at hI
        have en:=Yhi s[1]
        have es:=Yev s[1]
        obtain ⟨r,hr⟩:∃ r,Lib.indexByte (⟨#[34,92,47,98,102,110,114,116]⟩:ByteArray).data.toList s[1]=r:=⟨_,rfl⟩
        change (Lib.indexByte Eu s[1])=r at hr
        change Calls _ _ _ _ fun e w'=>e=.returned (.int .i64 (Lib.indexByte Eu s[1]))∧w'=wr at hI
        rw [hr] at hI en es
        have HI:=Hd hI
        clear hI hr hrun hown
        by_cases hneg:r < 0
        · have hr':Hid (Zym s.data.toList=.tuple #[.string ⟨#[]⟩,.int .i64 0]):=Hd (by unfold Zym;rw [he,en hneg];rfl)
          clear he en es
          go_wp2_with fail
          refine HI.out.mono ?_
          rintro e w2 ⟨rfl,rfl⟩
          go_wp2_with fail
          go_ret2
          exact ⟨by rw [hr'.out];rfl,HB.out⟩
        · obtain ⟨e7,ex⟩:=es hneg
          obtain ⟨j,rfl⟩:∃ j:Nat,r=j:=⟨r.toNat,by omega⟩
          have hj7:j < 8:=by omega
          obtain ⟨X,hX⟩:∃ X,Qr.getD j 0=X:=⟨_,rfl⟩
          have hr':Hid (Zym s.data.toList=.tuple #[.string ⟨#[X]⟩,.int .i64 2]):=Hd (by
           unfold Zym
           rw [he,ex,Int.toNat_natCast,hX]
           rfl)
          have hM:=fun w=>Yfu hj7 w
          rw [hX] at hM
          have hj8:(j:Int)+1≤8:=by omega
          clear he en es ex e7 hX
          go_wp2_with fail
          refine HI.out.mono ?_
          rintro e w2 ⟨rfl,rfl⟩
          go_wp2_with fail
          go_ret2
          exact ⟨by rw [hr'.out];rfl,HB.out⟩
    · have hn0:(0:Int) < (N:Int):=by omega
      have hio:=Fu hown
      have hJ:=Yeh A us.length cap us wr (by omega) hio.2
      have hne:us ≠ []:=by intro e;have:=HR.out.1;rw [e] at this;simp at this;omega
      have HN6:Hid (N=6*us.length):=Hd HR.out.1
      obtain ⟨J,hJs⟩:∃ J,Ii us=J:=⟨_,rfl⟩
      cases hjo:Yi us
      · rw [hjo,hJs] at hJ
        have HJ:=Hd hJ
        have hr:Hid (Zym s.data.toList=.tuple #[.string ⟨#[]⟩,.int .i64 0]):=Hd (by
          unfold Zym Ot
          rw [hrun.out,if_neg hne]
          unfold Yi at hjo
          cases hj:Vq us with
          | none=>rfl
          | some x=>rw [hj] at hjo;cases hjo)
        clear hJ hjo hJs hrun HR HO hio hown
        go_wp2_with fail
        refine HJ.out.mono ?_
        rintro e w2 ⟨rfl,hb2⟩
        have HB2:=Hd hb2
        clear hb2
        go_wp2_with fail
        go_ret2
        exact ⟨by rw [hr.out];rfl,HB.out.trans (HB2.out.mono hbs)⟩
      · rw [hjo,hJs] at hJ
        have HJ:=Hd hJ
        have hr:Hid (Zym s.data.toList=.tuple #[.string J,.int .i64 N]):=Hd (by
          unfold Zym Ot
          rw [hrun.out,if_neg hne]
          unfold Yi at hjo
          unfold Ii at hJs
          cases hj:Vq us with
          | none=>rw [hj] at hjo;cases hjo
          | some x=>rw [hj] at hJs;subst hJs;rw [HN6.out];rfl)
        clear hJ hjo hJs hrun HR HO hio hown
        go_wp2_with fail
        refine HJ.out.mono ?_
        rintro e w2 ⟨rfl,hb2⟩
        have HB2:=Hd hb2
        clear hb2
        go_wp2_with fail
        go_ret2
        exact ⟨by rw [hr.out];rfl,HB.out.trans (HB2.out.mono hbs)⟩
  | some u =>
    have h6:N+6≤s.size:=by
      have:=Ve HO.out
      rw [List.length_drop,Z6] at this
      omega
    have h6':(N:Int)+6≤(s.size:Int):=by omega
    have hN0:(0:Int)≤(N:Int)+6:=by omega
    have hR:=Hd (HR.out.next HO.out)
    have hub:=S5 HO.out
    obtain ⟨o2,ho2⟩:∃ o,Zg (s.data.toList.drop (N+6))=o:=⟨_,rfl⟩
    have HO2:=Hd ho2
    clear HR HO ho2
    go_wp2_with (at_builtin;refine wpList_append_own _ rfl _ _ 202 rfl w.heap.size 3 i0 (.int .i64 0) 1 8 Tryz.underlying202 hi hz0 hz1 hz2 rfl (by decide) _ _ _ rfl (hown.alloc _) ⟨wr.heap.size,0,none⟩ 1 1 [.int .i64 u] rfl rfl (cell_one_new _ _ _) (by intro x hx;simp at hx;rcases hx with rfl;rfl) (by unfold maxLen;omega) (by omega) (by simp;omega) ?_;intro v' w3 hown' hgrow _;obtain ⟨A',cap',rfl⟩:=W7 hown';have HG:=Hd hgrow;have HO:=Hd hown';have HW:=Hd hown;clear hgrow hown' hown)
    have hb3:=(HB.out.alloc HB.out.size (.cells #[.int .i64 u] 3)).grown HG.out (by simp;omega) (fun q hq=>(HW.out.lt q hq).1)
    have hU2:=Yis s (N+6) w3 hs (H3.out.below hb3)
    rw [Zkk HO2.out] at hU2
    have HU2:=Hd hU2
    have HB3:=Hd hb3
    clear hU2 hb3
    refine HU2.out.mono ?_
    rintro e w4 ⟨rfl,hb4⟩
    have HB4:=Hd hb4
    clear hb4
    go_wp2_with fail
    go_roundg (gk - 6)
    case measure=>omega
    case rel=>exact ⟨N+6,us++[u],o2,by omega,by go_num,rfl,rfl,by simp;omega,Aside.intro hR.out,Aside.intro HO2.out,by rw [List.map_append,List.length_append];exact Xi HO.out HB4.out,HB3.out.trans (HB4.out.mono HB3.out.size)⟩
end Go.Proofs.YtpkmbhnikilihaaGreatDoor
namespace Go.Proofs.YtpkmbhnikilihaaGreatDoor.Blk
open Go.RowKit
theorem Zxz (s:ByteArray) (w:World) (hs:s.size≤13000) :
  Calls Tryz.prog 285 #[.string s] w fun e w'=>∃ A cap,e=.returned (.slice A (Zx s.data.toList).length cap)∧w'.ownsRow w.heap.size 9 1 (.slice A (Zx s.data.toList).length cap) (Zx s.data.toList).length ((Zx s.data.toList).map Value.string)∧Below w.heap.size w w':=by
 obtain ⟨i0,hi,hz0,hz1,hz2⟩:=Zk3
 go_enter Tryz.func285,Tryz.ntmps285
 go_wp2
 go_loopg [3,4,5] s.size (fun g out fr i wx=>∃ (k f:Nat) (done:List ByteArray),f≤k∧k+g=s.size∧i=.int .i64 k∧fr=.int .i64 f∧done.length≤k∧Aside (V4 s f k done)∧wx.ownsRow w.heap.size 9 1 out done.length (done.map Value.string)∧Below w.heap.size w wx)
 case atStart=>exact ⟨0,0,[],by omega,by omega,rfl,rfl,by simp,Aside.intro ⟨by simp,by simp [Ix]⟩,World.ownsRow_nil _ _ _ _,Below.refl _ _⟩
 case round =>
  obtain ⟨k,f,done,hfk,hk,rfl,rfl,hdl,H,hown,hb⟩:=hrel
  obtain ⟨A,cap,rfl⟩:=Xk hown
  have hf0:(0:Int)≤(f:Int):=by omega
  have hfk':(f:Int)≤(k:Int):=by omega
  have hks:(k:Int)≤(s.size:Int):=by omega
  have HB:=Hd hb
  have hbs:=hb.size
  clear hb
  cases gk with
  | zero =>
    obtain rfl:k=s.size:=by omega
    have hdone:=Hd (H.out.done)
    clear H
    go_wp2_with (at_builtin;refine wpList_append_own _ rfl _ _ 51 rfl w.heap.size 9 i0 (.string ByteArray.empty) 1 16 Tryz.underlying51 hi hz0 hz1 hz2 rfl (by decide) _ _ _ rfl (hown.alloc _) ⟨wr.heap.size,0,none⟩ 1 1 [.string (s.extract f s.size)] rfl rfl (cell_one_new _ _ _) (by intro x hx;simp at hx;rcases hx with rfl;rfl) (by unfold maxLen;omega) (by omega) (by simp;omega) ?_;intro v' w3 hown' hgrow _;obtain ⟨A',cap',rfl⟩:=Xk hown';have HG:=Hd hgrow;have HO:=Hd hown';have HW:=Hd hown;clear hgrow hown' hown)
    go_ret
    refine ⟨A',cap',?_,?_,(HB.out.alloc HB.out.size _).grown HG.out (by simp;omega) (fun q hq=>(HW.out.lt q hq).1)⟩
    · rw [hdone.out,List.length_append];rfl
    · rw [hdone.out,List.map_append,List.length_append];exact HO.out
  | succ g =>
    have hlt:k < s.size:=by omega
    have hlt':(k:Int) < (s.size:Int):=by omega
    by_cases c10:s[k]=10
    · have n10:((s[k].toNat:Int) != 10)=false:=by rw [c10];rfl
      have n13:((s[k].toNat:Int) == 13)=false:=by rw [c10];rfl
      have hT:=Hd (H.out.ten hfk hlt c10)
      clear H c10
      go_wp2_with (at_builtin;refine wpList_append_own _ rfl _ _ 51 rfl w.heap.size 9 i0 (.string ByteArray.empty) 1 16 Tryz.underlying51 hi hz0 hz1 hz2 rfl (by decide) _ _ _ rfl (hown.alloc _) ⟨wr.heap.size,0,none⟩ 1 1 [.string (s.extract f k)] rfl rfl (cell_one_new _ _ _) (by intro x hx;simp at hx;rcases hx with rfl;rfl) (by unfold maxLen;omega) (by omega) (by simp;omega) ?_;intro v' w3 hown' hgrow _;obtain ⟨A',cap',rfl⟩:=Xk hown';have HG:=Hd hgrow;have HO:=Hd hown';have HW:=Hd hown;clear hgrow hown' hown)
      go_roundg g
      case measure=>omega
      case rel=>exact ⟨k+1,k+1,done++[s.extract f k],by omega,by omega,by go_num,by go_num,by simp;omega,Aside.intro hT.out,by rw [List.map_append,List.length_append];exact HO.out,(HB.out.alloc HB.out.size _).grown HG.out (by simp;omega) (fun q hq=>(HW.out.lt q hq).1)⟩
    by_cases c13:s[k]=13
    · have n10:((s[k].toNat:Int) != 10)=true:=by rw [c13];rfl
      have n13:((s[k].toNat:Int) != 13)=false:=by rw [c13];rfl
      have m13:((s[k].toNat:Int) == 13)=true:=by rw [c13];rfl
      by_cases hk1:k+1 < s.size
      · have hk1':(k:Int)+1 < (s.size:Int):=by omega
        by_cases d10:s[k+1]=10
        · have m10:((s[k+1].toNat:Int) == 10)=true:=by rw [d10];rfl
          have hT:=Hd (H.out.both hfk hk1 c13 d10)
          clear H c10 c13 d10
          go_wp2_with (at_builtin;refine wpList_append_own _ rfl _ _ 51 rfl w.heap.size 9 i0 (.string ByteArray.empty) 1 16 Tryz.underlying51 hi hz0 hz1 hz2 rfl (by decide) _ _ _ rfl (hown.alloc _) ⟨wr.heap.size,0,none⟩ 1 1 [.string (s.extract f k)] rfl rfl (cell_one_new _ _ _) (by intro x hx;simp at hx;rcases hx with rfl;rfl) (by unfold maxLen;omega) (by omega) (by simp;omega) ?_;intro v' w3 hown' hgrow _;obtain ⟨A',cap',rfl⟩:=Xk hown';have HG:=Hd hgrow;have HO:=Hd hown';have HW:=Hd hown;clear hgrow hown' hown)
          go_roundg (s.size - (k+2))
          case measure=>omega
          case rel=>exact ⟨k+2,k+2,done++[s.extract f k],by omega,by omega,by go_num,by go_num,by simp;omega,Aside.intro hT.out,by rw [List.map_append,List.length_append];exact HO.out,(HB.out.alloc HB.out.size _).grown HG.out (by simp;omega) (fun q hq=>(HW.out.lt q hq).1)⟩
        · have m10:((s[k+1].toNat:Int) == 10)=false:=Nr (Lc d10)
          have hT:=Hd (H.out.cr hfk hlt c13 (fun _=>d10))
          clear H c10 c13 d10
          go_wp2_with (at_builtin;refine wpList_append_own _ rfl _ _ 51 rfl w.heap.size 9 i0 (.string ByteArray.empty) 1 16 Tryz.underlying51 hi hz0 hz1 hz2 rfl (by decide) _ _ _ rfl (hown.alloc _) ⟨wr.heap.size,0,none⟩ 1 1 [.string (s.extract f k)] rfl rfl (cell_one_new _ _ _) (by intro x hx;simp at hx;rcases hx with rfl;rfl) (by unfold maxLen;omega) (by omega) (by simp;omega) ?_;intro v' w3 hown' hgrow _;obtain ⟨A',cap',rfl⟩:=Xk hown';have HG:=Hd hgrow;have HO:=Hd hown';have HW:=Hd hown;clear hgrow hown' hown)
          go_roundg g
          case measure=>omega
          case rel=>exact ⟨k+1,k+1,done++[s.extract f k],by omega,by omega,by go_num,by go_num,by simp;omega,Aside.intro hT.out,by rw [List.map_append,List.length_append];exact HO.out,(HB.out.alloc HB.out.size _).grown HG.out (by simp;omega) (fun q hq=>(HW.out.lt q hq).1)⟩
      · have hk1' : ¬ ((k:Int)+1 < (s.size:Int)):=by omega
        have hT:=Hd (H.out.cr hfk hlt c13 (fun h=>absurd h hk1))
        clear H c10 c13
        go_wp2_with (at_builtin;refine wpList_append_own _ rfl _ _ 51 rfl w.heap.size 9 i0 (.string ByteArray.empty) 1 16 Tryz.underlying51 hi hz0 hz1 hz2 rfl (by decide) _ _ _ rfl (hown.alloc _) ⟨wr.heap.size,0,none⟩ 1 1 [.string (s.extract f k)] rfl rfl (cell_one_new _ _ _) (by intro x hx;simp at hx;rcases hx with rfl;rfl) (by unfold maxLen;omega) (by omega) (by simp;omega) ?_;intro v' w3 hown' hgrow _;obtain ⟨A',cap',rfl⟩:=Xk hown';have HG:=Hd hgrow;have HO:=Hd hown';have HW:=Hd hown;clear hgrow hown' hown)
        go_roundg g
        case measure=>omega
        case rel=>exact ⟨k+1,k+1,done++[s.extract f k],by omega,by omega,by go_num,by go_num,by simp;omega,Aside.intro hT.out,by rw [List.map_append,List.length_append];exact HO.out,(HB.out.alloc HB.out.size _).grown HG.out (by simp;omega) (fun q hq=>(HW.out.lt q hq).1)⟩
    · have n10:((s[k].toNat:Int) != 10)=true:=Nx (Lc c10)
      have n13:((s[k].toNat:Int) != 13)=true:=Nx (Lc c13)
      have hT:Hid (V4 s f (k+1) done):=Hd ⟨H.out.1,Mx hfk hlt H.out.2 (by simp [eolB,c10,c13])⟩
      clear H c10 c13
      go_wp2
      go_roundg g
      case measure=>omega
      case rel=>exact ⟨k+1,f,done,by omega,by omega,by go_num,rfl,by omega,Aside.intro hT.out,hown,HB.out⟩
theorem Zy6 (c:UInt8):blankB c=(((c.toNat:Int) == 9) || ((c.toNat:Int) == 32)):=by
 unfold blankB
 by_cases h9:c=9
 · subst h9;rfl
 by_cases h32:c=32
 · subst h32;rfl
 have e9:((c.toNat:Int) == 9)=false:=Nr (Lc h9)
 have e32:((c.toNat:Int) == 32)=false:=Nr (Lc h32)
 rw [e9,e32]
 simp [h9,h32]
theorem Mt (c:UInt8) (w:World):Calls Tryz.prog 302 #[.int .u8 (c.toNat:Int)] w fun e w'=>e=.returned (.bool (blankB c))∧w=w':=by
 have H:=Hd (Zy6 c)
 by_cases h9:c=9
 · subst h9
   go_enter Tryz.func302,Tryz.ntmps302
   go_wp2
   go_ret
   exact ⟨rfl,rfl⟩
 · have n9:((c.toNat:Int) == 9)=false:=Nr (Lc h9)
   by_cases h32:c=32
   · subst h32
     go_enter Tryz.func302,Tryz.ntmps302
     go_wp2
     go_ret
     exact ⟨rfl,rfl⟩
   · have n32:((c.toNat:Int) == 32)=false:=Nr (Lc h32)
     have hf:Hid (blankB c=false):=Hd (by rw [H.out,n9,n32];rfl)
     go_enter Tryz.func302,Tryz.ntmps302
     go_wp2
     go_ret
     exact ⟨Yy hf.out.symm,rfl⟩
theorem Ry (s:ByteArray) (w:World) (hs:s.size≤100000):Calls Tryz.prog 287 #[.string s] w fun e w'=>e=.returned (.bool (!inkB s.data.toList))∧w=w':=by
 have HL:Hid (s.data.toList.length=s.size):=Hd Array.length_toList
 go_enter Tryz.func287,Tryz.ntmps287
 go_wp2_with fail
 go_loopg [6] s.size (fun g i wx=>∃ k:Nat,k+g=s.size∧i=.int .i64 k∧Aside ((s.data.toList.take k).all blankB=true)∧w=wx)
 case atStart=>exact ⟨0,by omega,rfl,Aside.intro (by simp),rfl⟩
 case round =>
  obtain ⟨k,hk,rfl,H,rfl⟩:=hrel
  cases gk with
  | zero =>
    obtain rfl:k=s.size:=by omega
    have he:=H.out
    rw [List.take_of_length_le (by rw [HL.out];omega)] at he
    have h2:=Hd (Ds he).2
    clear he H
    go_wp2_with fail
    go_ret
    exact ⟨Yy (by rw [h2.out];rfl),rfl⟩
  | succ g =>
    have hlt:k < s.size:=by omega
    have hlt':(k:Int) < (s.size:Int):=by omega
    have HB:=Hd (fun w=>Mt s[k] w)
    cases hb:blankB s[k]
    · have hT:=Hd (Zqp H.out (by rw [List.getElem?_eq_getElem (by rw [HL.out];exact hlt)];rfl) hb).2
      have hB:=Hd hb
      clear H hb
      go_wp2_with fail
      refine (HB.out _).mono ?_
      rintro e w1 ⟨rfl,rfl⟩
      rw [hB.out]
      go_wp2_with fail
      go_ret
      exact ⟨Yy (by rw [hT.out];rfl),rfl⟩
    · have hT:=Hd (Ew hlt H.out hb)
      have hB:=Hd hb
      clear H hb
      go_wp2_with fail
      refine (HB.out _).mono ?_
      rintro e w1 ⟨rfl,rfl⟩
      rw [hB.out]
      go_wp2_with fail
      go_roundg g
      case measure=>omega
      case rel=>exact ⟨k+1,by omega,by go_num,Aside.intro hT.out,rfl⟩
theorem Zzp (A : Option Addr) (n c:Nat) (xs:List ByteArray) (w:World) (hn:n≤100000) (hz:Fb w w.heap.size A n xs) (hx:∀ x ∈ xs,x.size≤100000) :
  Calls Tryz.prog 286 #[.slice A n c] w fun e w'=>e=.returned (.int .i64 (indentL (Zh xs)))∧w=w':=by
 have HZ:=Hd hz
 have HX:=Hd hx
 clear hz hx
 go_enter Tryz.func286,Tryz.ntmps286
 go_wp2
 go_step3
 go_wp2
 go_step3
 go_wp2
 go_loopg [3,9] n (fun g out i wx=>∃ k:Nat,k+g=n∧i=.int .i64 k∧out=.int .i64 (Ug xs k)∧w=wx)
 case atStart=>exact ⟨0,by omega,rfl,by simp [Ug],rfl⟩
 case round =>
  obtain ⟨k,hkg,rfl,rfl,rfl⟩:=hrel
  have hbd:=Dj xs HX.out k
  have hbd1:=hbd.1
  have hbd2:=hbd.2
  clear hbd
  cases gk with
  | zero =>
    obtain rfl:k=n:=by omega
    have hfin:=Hd (Cs (xs:=xs) (k:=k) (by rw [HZ.out.1];omega))
    go_wp2_with fail
    try rw [Exit.noGoto_ret]
    go_ret
    exact ⟨Yaj hfin.out,rfl⟩
  | succ g =>
    have hlt':(k:Int) < (n:Int):=by omega
    obtain ⟨x,hxk⟩:∃ x,xs[k]? = some x:=⟨_,List.getElem?_eq_getElem (by rw [HZ.out.1];omega)⟩
    obtain ⟨b,o,rfl,hblt,hcell⟩:=HZ.out.2 k x hxk
    have hxs:x.size≤100000:=HX.out x (List.mem_of_getElem? hxk)
    have hk0:(0:Int)≤(k:Int):=by omega
    by_cases hk:k=0
    · have hs:Hid (Ug xs (k+1)=Ug xs k):=Hd (by simp [Ug,hk])
      have hkeq:((k:Int) == 0)=true:=by simp;omega
      clear hxk hk
      generalize Ug xs k=v at *
      go_wp2_with fail
      go_roundg g
      case measure=>omega
      case rel=>exact ⟨k+1,by omega,by go_num,by rw [hs.out],rfl⟩
    · have hk1 : 1≤k:=by omega
      have hkne:((k:Int) == 0)=false:=by simp;omega
      have hs:=Hd (Mz hk1 hxk)
      have HXL:Hid (x.data.toList.length=x.size):=Hd Array.length_toList
      clear hxk hk
      generalize Ug xs k=v at *
      go_wp2_with fail
      go_loopg [3,18] x.size (fun g2 out i wx=>∃ j:Nat,j+g2=x.size∧i=.int .i64 j∧out=.int .i64 v∧Aside ((x.data.toList.take j).all blankB=true)∧w=wx)
      case atStart=>exact ⟨0,by omega,rfl,rfl,Aside.intro (by simp),rfl⟩
      case round =>
       obtain ⟨j,hj,rfl,rfl,H,rfl⟩:=hrel
       cases gk with
       | zero =>
         obtain rfl:j=x.size:=by omega
         have he:=H.out
         rw [List.take_of_length_le (by rw [HXL.out];omega)] at he
         have h2:=(Ds he).2
         have hst:Hid (Ug xs (k+1)=v):=Hd (by rw [hs.out];unfold stepI;rw [if_neg (by rw [h2];simp)])
         clear he H h2
         go_wp2_with fail
         go_roundg g
         case measure=>omega
         case rel=>exact ⟨k+1,by omega,by go_num,by rw [hst.out],rfl⟩
       | succ g2 =>
         have hlt:j < x.size:=by omega
         have hltj:(j:Int) < (x.size:Int):=by omega
         have hj0:(0:Int)≤(j:Int):=by omega
         have HB:=Hd (fun w=>Mt x[j] w)
         cases hb:blankB x[j]
         · have hx2:=Zqp H.out (by rw [List.getElem?_eq_getElem (by rw [HXL.out];exact hlt)];rfl) hb
           have hB:=Hd hb
           have hx21:=Hd hx2.1
           have hx22:=Hd hx2.2
           clear H hb hx2
           by_cases hv:v < 0
           · have hst:Hid (Ug xs (k+1)=(j:Int)):=Hd (by rw [hs.out];unfold stepI;rw [hx21.out,if_pos ⟨hx22.out,.inl hv⟩])
             go_wp2_with fail
             refine (HB.out _).mono ?_
             rintro e w1 ⟨rfl,rfl⟩
             rw [hB.out]
             go_wp2_with fail
             go_roundg g
             case measure=>omega
             case rel=>exact ⟨k+1,by omega,by go_num,by rw [hst.out],rfl⟩
           · have e1:decide (v < 0)=false:=by simp;omega
             by_cases hmv:(j:Int) < v
             · have hst:Hid (Ug xs (k+1)=(j:Int)):=Hd (by rw [hs.out];unfold stepI;rw [hx21.out,if_pos ⟨hx22.out,.inr hmv⟩])
               go_wp2_with fail
               refine (HB.out _).mono ?_
               rintro e w1 ⟨rfl,rfl⟩
               rw [hB.out]
               go_wp2_with fail
               go_roundg g
               case measure=>omega
               case rel=>exact ⟨k+1,by omega,by go_num,by rw [hst.out],rfl⟩
             · have e2:decide ((j:Int) < v)=false:=by simp;omega
               have hst:Hid (Ug xs (k+1)=v):=Hd (by rw [hs.out];unfold stepI;rw [hx21.out,if_neg (by rintro ⟨_,h|h⟩<;>omega)])
               go_wp2_with fail
               refine (HB.out _).mono ?_
               rintro e w1 ⟨rfl,rfl⟩
               rw [hB.out]
               go_wp2_with fail
               go_roundg g
               case measure=>omega
               case rel=>exact ⟨k+1,by omega,by go_num,by rw [hst.out],rfl⟩
         · have hT:=Hd (Ew hlt H.out hb)
           have hB:=Hd hb
           clear H hb
           go_wp2_with fail
           refine (HB.out _).mono ?_
           rintro e w1 ⟨rfl,rfl⟩
           rw [hB.out]
           go_wp2_with fail
           go_roundg g2
           case measure=>omega
           case rel=>exact ⟨j+1,by omega,by go_num,rfl,Aside.intro hT.out,rfl⟩
open Go.Shelf Go.RowKit
def Yas:Go.Shelf.Ren:=⟨fun|156=>288|165=>303|166=>61|169=>62|240=>139|241=>308|276=>203|277=>310|n=>n,fun|0=>0|3=>3|4=>4|5=>5|9=>9|20=>20|31=>51|37=>100|70=>99|72=>102|75=>105|76=>108|80=>110|127=>176|164=>220|n=>n,fun|n=>n⟩
theorem Zkv:Go.Proofs.Lays.n156 Tryz.prog Yas:={
 mixed:=by kernel_rfl
 f156:=Tryz.func288.trans (congrArg some (by kernel_rfl))
 f165:=Tryz.func303.trans (congrArg some (by kernel_rfl))
 f166:=Tryz.func61.trans (congrArg some (by kernel_rfl))
 f169:=Tryz.func62.trans (congrArg some (by kernel_rfl))
 f240:=Tryz.func139.trans (congrArg some (by kernel_rfl))
 f241:=Tryz.func308.trans (congrArg some (by kernel_rfl))
 f276:=Tryz.func203.trans (congrArg some (by kernel_rfl))
 f277:=Tryz.func310.trans (congrArg some (by kernel_rfl))
 t0:=Tryz.underlying0
 a0:=Tryz.isAgg0
 z0:=Tryz.sizeOf0
 v0:=Tryz.zeroValue0
 t3:=Tryz.underlying3
 a3:=Tryz.isAgg3
 z3:=Tryz.sizeOf3
 v3:=Tryz.zeroValue3
 t4:=Tryz.underlying4
 a4:=Tryz.isAgg4
 z4:=Tryz.sizeOf4
 v4:=Tryz.zeroValue4
 t9:=Tryz.underlying9
 a9:=Tryz.isAgg9
 z9:=Tryz.sizeOf9
 v9:=Tryz.zeroValue9
 t20:=Tryz.underlying20
 a20:=Tryz.isAgg20
 z20:=Tryz.sizeOf20
 v20:=Tryz.zeroValue20
 t31:=Tryz.underlying51
 a31:=Tryz.isAgg51
 z31:=Tryz.sizeOf51
 v31:=Tryz.zeroValue51
 t37:=Tryz.underlying100
 a37:=Tryz.isAgg100
 z37:=Tryz.sizeOf100
 v37:=Tryz.zeroValue100
 t70:=Tryz.underlying99
 a70:=Tryz.isAgg99
 z70:=Tryz.sizeOf99
 v70:=Tryz.zeroValue99
 t72:=Tryz.underlying102
 a72:=Tryz.isAgg102
 z72:=Tryz.sizeOf102
 v72:=Tryz.zeroValue102
 t75:=Tryz.underlying105
 a75:=Tryz.isAgg105
 z75:=Tryz.sizeOf105
 v75:=Tryz.zeroValue105
 t76:=Tryz.underlying108
 a76:=Tryz.isAgg108
 z76:=Tryz.sizeOf108
 v76:=Tryz.zeroValue108
 t127:=Tryz.underlying176
 a127:=Tryz.isAgg176
 z127:=Tryz.sizeOf176
 v127:=Tryz.zeroValue176
 t164:=Tryz.underlying220
 a164:=Tryz.isAgg220
 z164:=Tryz.sizeOf220
 v164:=Tryz.zeroValue220 }
theorem Ro:Builder.Extra Tryz.prog Yas:={
 sizeBuilder:=by kernel_rfl
 liesBuilder:=by kernel_rfl
 t5:=Tryz.underlying5
 a5:=Tryz.isAgg5
 z5:=Tryz.sizeOf5
 v5:=Tryz.zeroValue5
 infoByte:=by kernel_rfl
 cellsByte:=by kernel_rfl
 sizeByte:=by kernel_rfl
 neB5:=by decide }
theorem Zxy (bk o c:Nat) (xs:List ByteArray) (sep:ByteArray) (w:World) (hcells:∀ (j:Nat) x,xs[j]? = some x→w.cell? ⟨bk,o+j,none⟩=some (.string x)) (hbk:bk < w.heap.size) (hN:xs.length≤140737488355328) (hcap:xs.length≤c) (hlen:(Lib.join (xs.map (·.data.toList)) sep.data.toList).length≤140737488355328) :
  Calls Tryz.prog 288 #[.slice (some ⟨bk,o,none⟩) xs.length c,.string sep] w fun e w'=>e=.returned (.string ⟨(Lib.join (xs.map (·.data.toList)) sep.data.toList).toArray⟩)∧Below w.heap.size w w':=
 Any.strings_Join Zkv Ro bk o c xs sep w hcells hbk hN hcap hlen
theorem Zve (a:Option Addr) (c:Nat) (sep:ByteArray) (w:World) :
  Calls Tryz.prog 288 #[.slice a 0 c,.string sep] w fun e w'=>e=.returned (.string ⟨#[]⟩)∧w'=w:=
 Any.strings_Join_none Zkv Ro a c sep w
def Me:List (List UInt8)→Nat
 | []=>0
 | x :: t=>x.length+Me t
theorem Zqs:∀ ls:List (List UInt8),(joinTen ls).length+1=Me ls+ls.length+(if ls=[] then 1 else 0):=by
 intro ls
 induction ls with
 | nil=>rfl
 | cons x t ih =>
   cases t with
   | nil=>simp [joinTen,Me]
   | cons y t =>
     rw [if_neg (by simp)] at ih ⊢
     show (x++10 :: joinTen (y :: t)).length+1=_
     rw [List.length_append,List.length_cons]
     show _=x.length+Me (y :: t)+((y :: t).length+1)+0
     omega
theorem By (a b:List (List UInt8)):Me (a++b)=Me a+Me b:=by
 induction a with
 | nil=>simp [Me]
 | cons x t ih=>rw [List.cons_append];simp only [Me];omega
theorem Yd7 {a b:List (List UInt8)} (h:a <:+: b):Me a+a.length≤Me b+b.length:=by
 obtain ⟨p,q,rfl⟩:=h
 rw [By,By,List.length_append,List.length_append]
 omega
theorem trim_infix (ls:List (List UInt8)):O0 ls <:+: ls:=by
 have h1:O0 ls <+: Iv ls:=by
  have:=List.dropWhile_suffix (l:=(Iv ls).reverse) (fun x=>!inkB x)
  have h2:=List.reverse_prefix.2 this
  rw [List.reverse_reverse] at h2
  exact h2
 have h2:Iv ls <:+ ls:=List.dropWhile_suffix _
 exact h1.isInfix.trans h2.isInfix
theorem Yjb (n:Nat) (ls:List (List UInt8)):Me (cutL n ls)≤Me ls∧(cutL n ls).length=ls.length:=by
 cases ls with
 | nil=>exact ⟨Nat.le_refl _,rfl⟩
 | cons x t =>
   simp only [cutL,Me,List.length_cons,List.length_map,and_true]
   have:Me (t.map (List.drop n))≤Me t:=by
    induction t with
    | nil=>exact Nat.le_refl _
    | cons y t ih=>simp only [List.map_cons,Me,List.length_drop];omega
   omega
theorem Yar {l t:List UInt8} (h:afterL l=some t):(firstL l).length+1+t.length≤l.length:=by
 have e:(firstL l).length+(l.dropWhile fun c=>!eolB c).length=l.length:=by
  unfold firstL
  rw [← List.length_append,List.takeWhile_append_dropWhile]
 have : t.length < (l.dropWhile fun c=>!eolB c).length:=by
  unfold afterL at h
  generalize l.dropWhile (fun c=>!eolB c)=r at *
  split at h
  · cases h
  · split at h
    · split at h
      · split at h
        · cases h;simp only [List.length_cons];omega
        · cases h;simp only [List.length_cons];omega
      · cases h;simp
    · cases h;simp
 omega
theorem Ydi:∀ (n:Nat) (l:List UInt8),l.length < n→Me (linesL l)+(linesL l).length≤l.length+1:=by
 intro n
 induction n with
 | zero=>intro l h;omega
 | succ n ih =>
   intro l hl
   have hf:(firstL l).length≤l.length:=by
     unfold firstL
     have e:(l.takeWhile fun c=>!eolB c).length+(l.dropWhile fun c=>!eolB c).length=l.length:=by rw [← List.length_append,List.takeWhile_append_dropWhile]
     omega
   rw [linesL_eq]
   cases ha:afterL l with
   | none=>simp only [Me,List.length_cons,List.length_nil];omega
   | some t =>
     have hr:=Yar ha
     have:=ih t (by omega)
     simp only [Me,List.length_cons]
     omega
theorem value_len (raw:List UInt8):(valueL raw).length≤raw.length:=by
 have h1:=Ydi _ raw (Nat.lt_succ_self _)
 have h2:=Yjb (max (indentL (linesL raw)) 0).toNat (linesL raw)
 have h3:=Yd7 (trim_infix (cutL (max (indentL (linesL raw)) 0).toNat (linesL raw)))
 have h4:=Zqs (Tw raw)
 unfold valueL
 by_cases hs:Tw raw=[]
 · rw [hs];simp [joinTen]
 · rw [if_neg hs] at h4
   have h3':Me (Tw raw)+(Tw raw).length≤Me (cutL (max (indentL (linesL raw)) 0).toNat (linesL raw))+(cutL (max (indentL (linesL raw)) 0).toNat (linesL raw)).length:=h3
   omega
def V5 (n:Nat):List UInt8:=List.replicate n 32
theorem Yak (k:Nat) (xs:List ByteArray):Wk 0 k xs=xs:=by
 apply List.ext_getElem?
 intro j
 rw [Uo]
 cases xs[j]? with
 | none=>rfl
 | some x =>
   simp only [Option.map_some]
   split
   · congr 1;unfold Zky;rw [Nat.zero_min];exact ByteArray.extract_zero_size
   · rfl
theorem Px {ys:List ByteArray} {f n j:Nat} {x:ByteArray} (h:((ys.drop f).take n)[j]? = some x):ys[f+j]? = some x:=by
 rw [List.getElem?_take] at h
 split at h
 · rw [List.getElem?_drop] at h;exact h
 · cases h
theorem Yfa:∀ ls:List (List UInt8),Lib.join ls [10]=joinTen ls:=by
 intro ls
 induction ls with
 | nil=>rfl
 | cons x t ih =>
   cases t with
   | nil=>exact Lib.join_one x [10]
   | cons y t =>
     rw [Lib.join_cons]
     show _=x++10 :: joinTen (y :: t)
     rw [← ih,Lib.join_cons]
     simp [Lib.joinTail]
theorem Nl (s:ByteArray) (w:World) (hs:s.size≤13000) :
  Calls Tryz.prog 261 #[.string s] w fun e w'=>e=.returned (.string ⟨(valueL s.data.toList).toArray⟩)∧Below w.heap.size w w':=by
 have HR:=Hd (Zxz s w hs)
 go_enter Tryz.func261,Tryz.ntmps261
 go_wp2_with fail
 refine HR.out.mono ?_
 rintro e w1 ⟨A,cap,rfl,hown,hb⟩
 have hroom:=Nm (s.data.toList.length+1) s.data.toList (by omega)
 rw [← Lib.size_eq] at hroom
 have hxs:∀ x ∈ Zx s.data.toList,x.size≤13000:=by
  intro x hx
  obtain ⟨l,hl,rfl⟩:=List.mem_map.1 hx
  have:=hroom.2.1 l hl
  show l.length≤_
  omega
 have hN:(Zx s.data.toList).length≤13001:=by unfold Zx;rw [List.length_map];omega
 have hN1:1≤(Zx s.data.toList).length:=by
  unfold Zx
  rw [List.length_map]
  have:=Bw s.data.toList
  cases h:linesL s.data.toList with
  | nil=>exact absurd h this
  | cons _ _=>simp
 clear hroom
 obtain ⟨g0,rfl,hbg,hgl,hcap⟩:=Rq hown (by omega)
 have HI:=Hd (Zzp (some ⟨g0,0,none⟩) (Zx s.data.toList).length cap (Zx s.data.toList) w1 (by omega) (C5 hown).2 (fun x hx=>by have:=hxs x hx;omega))
 have hib:=Dj _ (fun x hx=>by have:=hxs x hx;omega) (Zx s.data.toList).length
 rw [Cs (Nat.le_refl _)] at hib
 have HVAL:Hid (valueL s.data.toList=joinTen (O0 (cutL (max (indentL (Zh (Zx s.data.toList))) 0).toNat (Zh (Zx s.data.toList))))):=Hd (by rw [Ol];rfl)
 generalize Zx s.data.toList=xs at *
 generalize hv:indentL (Zh xs)=v at *
 have hib1:=hib.1
 have hib2:=hib.2
 have HEX:=Hd hxs
 have HB:=Hd hb
 clear hxs hv hib hb HR
 go_upto_if 13 with (fail)
 refine HI.out.mono ?_
 rintro e w2 ⟨rfl,rfl⟩
 obtain ⟨tst,hd⟩:∃ t:Bool,decide (0 < v)=t:=⟨_,rfl⟩
 go_upto_if 13 with (fail)
 have HD:=Hd hd
 clear hd
 obtain ⟨M,hM⟩:∃ M,(max v 0).toNat=M:=⟨_,rfl⟩
 have hm1:M≤100000:=by omega
 rw [hM] at HVAL
 have HM:=Hd hM
 clear hM
 go_cut [3] (fun l wx=>l=.slice (some ⟨g0,0,none⟩) xs.length cap∧wx.ownsRow w.heap.size 9 1 (.slice (some ⟨g0,0,none⟩) xs.length cap) xs.length ((Wk M xs.length xs).map Value.string)∧Below w.heap.size w wx)
 case first =>
  cases tst
  · obtain rfl:M=0:=by have h1:=HM.out;have h2:=of_decide_eq_false HD.out;omega
    go_wp2_with fail
    go_meet
    exact ⟨rfl,by rw [Yak];exact hown,HB.out⟩
  · have hv0:=of_decide_eq_true HD.out
    obtain ⟨m,rfl⟩:∃ m:Nat,v=m:=⟨v.toNat,by omega⟩
    obtain rfl:m=M:=by have:=HM.out;omega
    clear HI hib1 hib2 HM HD
    go_wp2_with fail
    go_loopg [5] (xs.length - 1) (fun g i wx=>∃ k:Nat,1≤k∧k+g=xs.length∧i=.int .i64 k∧wx.ownsRow w.heap.size 9 1 (.slice (some ⟨g0,0,none⟩) xs.length cap) xs.length ((Wk m k xs).map Value.string)∧Below w.heap.size w wx)
    case atStart=>exact ⟨1,by omega,by omega,rfl,by rw [N1];exact hown,HB.out⟩
    case round =>
      obtain ⟨k,hk1,hk,rfl,hown,hb⟩:=hrel
      cases gk with
      | succ g =>
        have hlt:k < xs.length:=by omega
        have hlt':(k:Int) < (xs.length:Int):=by omega
        have hk0:(0:Int)≤(k:Int):=by omega
        obtain ⟨x,hx⟩:∃ x,xs[k]? = some x:=⟨_,List.getElem?_eq_getElem hlt⟩
        have hget:(Wk m k xs)[k]? = some x:=by
          rw [Uo,hx]
          simp only [Option.map_some]
          rw [if_neg (by omega)]
        have c1:wr.cell? ⟨g0,k,none⟩=some (.string x):=by
          rw [World.ownsRow.cellAt hown k (by omega),List.getElem?_map,hget];rfl
        have f1:wr.frozen? ⟨g0,k,none⟩=false:=World.ownsRow.frozenAt hown k
        have hxs:x.size≤13000:=HEX.out x (List.mem_of_getElem? hx)
        have HO:=Hd (World.ownsRow.stored hown k (.string (Zky m x)))
        have HS:=Hd (Zk0 (m:=m) hk1 hx)
        have HB2:=Hd hb
        have hcx:Hid (Zky m x=x.extract (min m x.size) x.size):=Hd rfl
        clear hown hb hx hget HB
        obtain ⟨K,hKd⟩:∃ K,min m x.size=K:=⟨_,rfl⟩
        have hK:min (m:Int) (x.size:Int)=(K:Int):=by omega
        have hKs:(K:Int)≤(x.size:Int):=by omega
        have hK0:(0:Int)≤(K:Int):=by omega
        have HKd:=Hd hKd
        clear hKd
        go_wp2_with fail
        go_still_tail 15,(by kernel_rfl)
        change wpList _ _ _ _ _ wr.drew
        go_wp2
        go_roundg g
        case measure=>omega
        case rel =>
          refine ⟨k+1,by omega,by omega,by go_num,?_,(HB2.out.drew).setCell hbg _⟩
          have e:((Wk m k xs).map Value.string).set k (.string (Zky m x))=(Wk m (k+1) xs).map Value.string:=by rw [← HS.out,List.map_set]
          rw [← e,hcx.out,HKd.out]
          rw [hcx.out,HKd.out] at HO
          exact HO.out.1.drew
      | zero =>
        obtain rfl:k=xs.length:=by omega
        go_wp2_with fail
        go_meet
        exact ⟨rfl,hown,hb⟩
 case rest =>
  obtain ⟨rfl,hown,hb⟩:=hcut
  clear HI hib1 hib2 HM HD
  have hyl:(Wk M xs.length xs).length=xs.length:=M6 _ _ _
  have hyb:=P7 M xs
  have hys:∀ y ∈ Wk M xs.length xs,y.size≤13000:=by
    intro y hy
    obtain ⟨j,hj⟩:=List.mem_iff_getElem?.1 hy
    rw [Uo] at hj
    obtain ⟨x,hx,rfl⟩:=Option.map_eq_some_iff.1 hj
    have:=HEX.out x (List.mem_of_getElem? hx)
    split
    · unfold Zky;rw [ByteArray.size_extract];omega
    · exact this
  have hval:Hid (valueL s.data.toList=joinTen (O0 (Zh (Wk M xs.length xs)))):=Hd (by rw [HVAL.out,hyb])
  generalize Wk M xs.length xs=ys at *
  have hgc:g0 < wc.heap.size:=(hown.lt g0 rfl).2
  have HS:=Hd (D8 hown)
  have HYS:=Hd hys
  have HYL:=Hd hyl
  have HBB:=Hd hb
  clear hown hyb hys hyl hb HVAL HB
  generalize xs.length=N at *
  clear HEX
  go_upto_block 2 with (fail)
  go_cut [6] (fun fr wx=>∃ f:Nat,f≤N∧fr=.int .i64 f∧Aside (Iv (Zh ys)=(Zh ys).drop f)∧wc=wx)
  case first =>
    go_wp2_with fail
    go_loopg [6] N (fun g fr wx=>∃ f:Nat,f+g=N∧fr=.int .i64 f∧Aside (((Zh ys).take f).all (fun l=>!inkB l)=true)∧wc=wx)
    case atStart=>exact ⟨0,by omega,rfl,Aside.intro (by simp),rfl⟩
    case round =>
      obtain ⟨f,hf,rfl,H,rfl⟩:=hrel
      cases gk with
      | zero =>
        obtain rfl:f=N:=by omega
        have hT:=Hd (S6 H.out (by unfold Zh;rw [List.length_map,HYL.out];omega))
        clear H
        go_wp2_with fail
        go_meet
        exact ⟨_,by omega,rfl,Aside.intro (by rw [hT.out,List.drop_eq_nil_of_le (by unfold Zh;rw [List.length_map,HYL.out];omega)]),rfl⟩
      | succ g =>
        have hlt:f < N:=by omega
        have hlt':(f:Int) < (N:Int):=by omega
        obtain ⟨y,hy⟩:∃ y,ys[f]? = some y:=⟨_,List.getElem?_eq_getElem (by rw [HYL.out];omega)⟩
        obtain ⟨b,o,e,_,hcell⟩:=HS.out.2 f y hy
        injection e with e
        injection e with e1 e2
        subst e1 e2
        rw [Nat.zero_add] at hcell
        have HBk:=Hd (Ry y wc (by have:=HYS.out y (List.mem_of_getElem? hy);omega))
        have hyb:(Zh ys)[f]? = some y.data.toList:=by unfold Zh;rw [List.getElem?_map,hy];rfl
        cases hi:inkB y.data.toList
        · have hT:=Hd (N8 H.out hyb hi)
          have HIk:=Hd hi
          clear H hy hyb hi
          go_wp2_with fail
          refine HBk.out.mono ?_
          rintro e w2 ⟨rfl,rfl⟩
          rw [HIk.out]
          go_wp2_with fail
          go_roundg g
          case measure=>omega
          case rel=>exact ⟨f+1,by omega,by go_num,Aside.intro hT.out,rfl⟩
        · have hT:=Hd (Nk H.out hyb hi)
          have HIk:=Hd hi
          clear H hy hyb hi
          go_wp2_with fail
          refine HBk.out.mono ?_
          rintro e w2 ⟨rfl,rfl⟩
          rw [HIk.out]
          go_wp2_with fail
          go_meet
          exact ⟨f,by omega,rfl,Aside.intro hT.out,rfl⟩
  case rest =>
    obtain ⟨f,hfN,rfl,HF,rfl⟩:=hcut
    go_upto_block 4 with (fail)
    go_cut [7] (fun tv wx=>∃ t:Nat,f≤t∧t≤N∧tv=.int .i64 t∧Aside (O0 (Zh ys)=((Zh ys).drop f).take (t - f))∧wc=wx)
    case first =>
      go_wp2_with fail
      go_loopg [7] (N - f) (fun g tv wx=>∃ t:Nat,f≤t∧t≤f+g∧t≤N∧tv=.int .i64 t∧Aside (((Zh ys).drop t).all (fun l=>!inkB l)=true)∧wc=wx)
      case atStart=>exact ⟨N,by omega,by omega,by omega,rfl,Aside.intro (by rw [List.drop_eq_nil_of_le (by unfold Zh;rw [List.length_map,HYL.out];omega)];rfl),rfl⟩
      case round =>
        obtain ⟨t,hft,htg,htN,rfl,H,rfl⟩:=hrel
        by_cases hte:t=f
        · subst hte
          have hT:=Hd (Zx2 HF.out H.out)
          clear H
          go_wp2_with fail
          go_meet
          exact ⟨t,by omega,by omega,rfl,Aside.intro hT.out,rfl⟩
        · have hft1:f < t:=by omega
          obtain ⟨g,rfl⟩:∃ g,gk=g+1:=⟨gk - 1,by omega⟩
          obtain ⟨u,rfl⟩:∃ u,t=u+1:=⟨t - 1,by omega⟩
          have hfu:(f:Int) < (u:Int)+1:=by omega
          have hu0:(0:Int)≤(u:Int):=by omega
          have hu1:(u:Int) < (N:Int):=by omega
          obtain ⟨y,hy⟩:∃ y,ys[u]? = some y:=⟨_,List.getElem?_eq_getElem (by rw [HYL.out];omega)⟩
          obtain ⟨b,o,e,_,hcell⟩:=HS.out.2 u y hy
          injection e with e
          injection e with e1 e2
          subst e1 e2
          rw [Nat.zero_add] at hcell
          have HBk:=Hd (Ry y wc (by have:=HYS.out y (List.mem_of_getElem? hy);omega))
          have hyb:(Zh ys)[u]? = some y.data.toList:=by unfold Zh;rw [List.getElem?_map,hy];rfl
          cases hi:inkB y.data.toList
          · have hT:=Hd (N2 H.out hyb hi)
            have HIk:=Hd hi
            clear H hy hyb hi hte
            go_wp2_with fail
            refine HBk.out.mono ?_
            rintro e w2 ⟨rfl,rfl⟩
            rw [HIk.out]
            go_wp2_with fail
            go_roundg g
            case measure=>omega
            case rel=>exact ⟨u,by omega,by omega,by omega,by go_num,Aside.intro hT.out,rfl⟩
          · have hT:=Hd (Rx HF.out (by omega) H.out hyb hi)
            have HIk:=Hd hi
            clear H hy hyb hi hte
            go_wp2_with fail
            refine HBk.out.mono ?_
            rintro e w2 ⟨rfl,rfl⟩
            rw [HIk.out]
            go_wp2_with fail
            go_meet
            exact ⟨u+1,by omega,by omega,by go_num,Aside.intro hT.out,rfl⟩
    case rest =>
      obtain ⟨t,hft,htN,rfl,HT,rfl⟩:=hcut
      have hf0:(0:Int)≤(f:Int):=by omega
      have hft':(f:Int)≤(t:Int):=by omega
      have hzl:Hid (((ys.drop f).take (t - f)).length=t - f):=Hd (by rw [List.length_take,List.length_drop,HYL.out];omega)
      have hzb:Hid (Lib.join (((ys.drop f).take (t - f)).map (·.data.toList)) (⟨#[10]⟩:ByteArray).data.toList=valueL s.data.toList):=Hd (by
        show Lib.join _ [10]=_
        rw [Yfa,hval.out,HT.out];unfold Zh;rw [List.map_take,List.map_drop])
      have hvl:(valueL s.data.toList).length≤13000:=by have:=value_len s.data.toList;rw [← Lib.size_eq] at this;omega
      by_cases hcf:cap=f
      · obtain rfl:t=f:=by omega
        have hnil:Hid ((⟨(valueL s.data.toList).toArray⟩:ByteArray)=⟨#[]⟩):=Hd (by rw [hval.out,HT.out];simp [joinTen])
        have HC:=Hd hcf
        subst hcf
        have HJ:=Hd (fun a c=>Zve a c ⟨#[10]⟩ wc)
        have ht0:cap - cap=0:=by omega
        go_wp2_with fail
        refine (HJ.out _ _).mono ?_
        rintro e w3 ⟨rfl,rfl⟩
        go_wp2_with fail
        go_ret
        exact ⟨Zqd hnil.out.symm,HBB.out⟩
      · have HJ:=Hd (Zxy g0 f (cap - f) ((ys.drop f).take (t - f)) ⟨#[10]⟩ wc (fun j x hj=>by
          obtain ⟨b,o,e,_,hc⟩:=HS.out.2 (f+j) x (Px hj)
          injection e with e
          injection e with e1 e2
          subst e1 e2
          rw [Nat.zero_add] at hc
          exact hc) hgc (by rw [hzl.out];omega) (by rw [hzl.out];omega) (by rw [hzb.out];omega))
        rw [hzl.out,hzb.out] at HJ
        go_wp2_with fail
        refine HJ.out.mono ?_
        rintro e w3 ⟨rfl,hb3⟩
        have HB3:=Hd hb3
        clear hb3
        obtain ⟨V,hV⟩:∃ V:ByteArray,(⟨(valueL s.data.toList).toArray⟩:ByteArray)=V:=⟨_,rfl⟩
        have HV:=Hd hV
        rw [hV]
        clear hV
        go_wp2_with fail
        go_ret
        exact ⟨Zqd HV.out.symm,HBB.out.trans (HB3.out.mono HBB.out.size)⟩
theorem pvalue (s:ByteArray) (w:World) (hs:s.size≤13000):Calls Tryz.prog 261 #[.string s] w fun e w'=>e=.returned (.string ⟨(valueL s.data.toList).toArray⟩)∧Below w.heap.size w w':=Nl s w hs
end Go.Proofs.YtpkmbhnikilihaaGreatDoor.Blk
