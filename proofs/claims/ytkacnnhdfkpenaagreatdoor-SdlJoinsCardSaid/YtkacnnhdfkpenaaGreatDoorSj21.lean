/- The walks of strings.IndexRune and strings.IndexAny where the text holds other than plain bytes, for two plain signs. -/
import Derived.Test.YtkacnnhdfkpenaaGreatDoorSj20
import Derived.Laws.RangeString
import Derived.Laws.RangeAny
import Derived.Laws.Cover4
import Derived.Lib.OthersKept
set_option maxRecDepth 100000
set_option maxHeartbeats 1000000
namespace Go.Proofs.YtkacnnhdfkpenaaGreatDoor
open Go.RowKit
def SomeBool (e:Ending):Prop:=∃ b,e=.returned (.bool b)
theorem valid_some (r:Int) (h0:0≤r) (w:World):Calls Tryz.prog 298 #[.int .i32 r] w fun e w'=>SomeBool e∧w=w':=by
 go_enter Tryz.func298,Tryz.ntmps298
 go_wp2
 all_goals go_ret
 all_goals (refine ⟨?_,rfl⟩;exact ⟨_,rfl⟩)
theorem below_iter (w:World) (s:ByteArray) (i:Nat):Below w.heap.size w (w.iter s i):=(Below.refl _ _).alloc (Nat.le_refl _) _
theorem enc_size {r:Int} (h:128≤r):2≤(Utf8.encode r).size∧(Utf8.encode r).size≤4:=by
 have hc:128≤(if Utf8.valid r then r.toNat else Utf8.runeError):=by
   split
   · omega
   · simp [Utf8.runeError]
 refine ⟨?_,encode_size_le r⟩
 unfold Utf8.encode
 simp only
 generalize (if Utf8.valid r=true then r.toNat else Utf8.runeError)=c at *
 rw [if_neg (by omega)]
 split
 · exact Nat.le_refl 2
 · split
   · exact Nat.le_succ 2
   · exact Nat.le_succ_of_le (Nat.le_succ 2)
theorem enc_one {r:Int} (h:128≤r) (h2:(Utf8.encode r).size=2):128≤((Utf8.encode r)[1]'(by omega)).toNat:=by
 have hc:128≤(if Utf8.valid r then r.toNat else Utf8.runeError):=by
  split
  · omega
  · simp [Utf8.runeError]
 have e:Utf8.encode r=⟨#[UInt8.ofNat (0xC0+(if Utf8.valid r then r.toNat else Utf8.runeError) / 64),UInt8.ofNat (0x80+(if Utf8.valid r then r.toNat else Utf8.runeError) % 64)]⟩:=by
  unfold Utf8.encode at h2 ⊢
  simp only at h2 ⊢
  generalize (if Utf8.valid r=true then r.toNat else Utf8.runeError)=c at *
  rw [if_neg (by omega)] at h2 ⊢
  split at h2
  · rename_i hl;rw [if_pos hl]
  · split at h2
    · exact absurd h2 (by show ¬ (3=2);decide)
    · exact absurd h2 (by show ¬ (4=2);decide)
 generalize (if Utf8.valid r=true then r.toNat else Utf8.runeError)=c at *
 simp only [e]
 show 128≤(UInt8.ofNat (0x80+c % 64)).toNat
 rw [UInt8.toNat_ofNat']
 omega
theorem indexByte_end (c:UInt8) (w:World):Calls Tryz.prog 177 #[.string ByteArray.empty,.int .u8 (c.toNat:Int)] w fun e w'=>e=.returned (.int .i64 (-1))∧w'=w:=
 indexByte_any ByteArray.empty (c.toNat:Int) w
theorem slice_two (w:World):(Instr.slice 9 (.string ⟨#[10,13]⟩) (some (.int .i64 2)) none none).run Tryz.prog w=.ok (.string ((⟨#[10,13]⟩:ByteArray).extract 2 2)) w:=by kernel_rfl
theorem indexRune_high (q:ByteArray) (hq3:q=⟨#[10,13]⟩) (hq2:q.size=2) (hq:∀ i (h:i < q.size),q[i].toNat < 128) (r:Int) (h0:128≤r) (w:World):Calls Tryz.prog 256 #[.string q,.int .i32 r] w fun e w'=>e=.returned (.int .i64 (-1))∧Below w.heap.size w w':=by
 have hsl:∀ w,(Instr.slice 9 (.string q) (some (.int .i64 2)) none none).run Tryz.prog w=.ok (.string (q.extract 2 2)) w:=by subst hq3;exact slice_two
 clear hq3
 have hr0:(0:Int)≤r:=by omega
 have hr1 : ¬ r < 128:=by omega
 cases hE:(r == 65533)
 · have HV:=Hd (valid_some r hr0 w)
   have he:=enc_size h0
   obtain ⟨E,hEE⟩:∃ E,Utf8.encode r=E:=⟨_,rfl⟩
   rw [hEE] at he
   obtain ⟨he0,he1⟩:=he
   go_enter Tryz.func256,Tryz.ntmps256
   go_wp2_with fail
   refine HV.out.mono ?_
   rintro e w1 ⟨⟨b,rfl⟩,rfl⟩
   cases b
   · go_wp2_with fail
     go_ret
     exact ⟨rfl,Below.refl _ _⟩
   · go_wp2_with fail
     go_wp2_with fail
     go_step3
     go_wp2_with fail
     refine wp_loop_once ?_
     by_cases hs2:E.size=2
     · have e1:(E.size:Int) - 1=1:=by omega
       have h1q:1 < q.size:=by omega
       have h1E:1 < E.size:=by omega
       have hqs:(1:Int) < (q.size:Int):=by omega
       have hes:(1:Int) < (E.size:Int):=by omega
       have hne:((q[1].toNat:Int) != (E[1].toNat:Int))=true:=by
        have h1:=hq 1 h1q
        have h2:128≤E[1].toNat:=by
         subst hEE
         exact enc_one h0 hs2
        simp
        omega
       go_wp2_with fail
       go_step3
       go_wp2_with fail
       go_quiet (fail)
       go_wp2_with fail
       have hw2:IntKind.i64.wrap 2=2:=by decide
       go_quiet ((go_at_call 177;exact (indexByte_end E[1] _).mono fun _ _ h=>⟨h.1,_,h.2⟩))
       go_wp2_with fail
       rw [Exit.noGoto_ret]
       simp +zetaDelta only [Exit.inBlock,Exit.then,Exit.noGoto]
       refine bodyPost_ret (results_tmp rfl _ _ _) rfl ?_
       exact ⟨rfl,bdraw (Below.refl _ _) _⟩
     · have e1 : ¬ (E.size:Int) - 1 < (q.size:Int):=by omega
       go_wp2_with fail
       go_ret
       exact ⟨rfl,Below.refl _ _⟩
 · go_enter Tryz.func256,Tryz.ntmps256
   go_wp2_with fail
   go_loopg [5,6] 2 (fun g _ _ wx=>∃ i:Nat,i+g=2∧wx=w.iter q i)
   case atStart=>exact ⟨0,by omega,rfl⟩
   case round =>
     obtain ⟨i,hi,rfl⟩:=hrel
     cases gk with
     | zero =>
       obtain rfl:i=2:=by omega
       have hnx:=fun ty=>run_next_end (P:=Tryz.prog) w q 2 ty (by omega)
       go_wp2
       go_ret
       exact ⟨rfl,below_iter _ _ _⟩
     | succ g =>
       have hi2:i < q.size:=by omega
       have hlt:=hq i hi2
       have hnx:=fun ty=>run_next_ascii (P:=Tryz.prog) w q i ty hi2 hlt
       have hne:((q[i].toNat:Int) == 65533)=false:=by simp;omega
       go_wp2
       go_roundg g
       case measure=>omega
       case rel=>exact ⟨i+1,by omega,rfl⟩
theorem decode_tail (s:ByteArray) (pos:Nat):∀ j,1≤j→j < (Utf8.decode s pos).2→pos+j < s.size∧(s.get! (pos+j)).toNat / 64=2:=by
 intro j h1 h2
 have hj:j=1∨j=2∨j=3∨4≤j:=by omega
 simp only [Utf8.decode] at h2
 rcases hj with rfl|rfl|rfl|hj
 all_goals
  repeat' split at h2
  all_goals simp_all
  all_goals omega
theorem get_at (s:ByteArray) (i:Nat) (h:i < s.size):s.get! i=s[i]:=by
 simp [ByteArray.get!,h]
 rfl
theorem noAny_skip {s:ByteArray} {i K:Nat} (hn:Lib.NoAny s.data.toList [10,13] i) (hi:i < s.size) (h128:128≤(s[i]'hi).toNat) (hK:∀ j,1≤j→j < K→i+j < s.size∧(s.get! (i+j)).toNat / 64=2):Lib.NoAny s.data.toList [10,13] (i+K):=by
 intro j b hj hb
 by_cases h1:j < i
 · exact hn j b h1 hb
 · have hbig:128≤b.toNat:=by
    have hjl:j < s.data.toList.length:=(List.getElem?_eq_some_iff.1 hb).1
    rw [len_data] at hjl
    have hb':s[j]=b:=by
      have:=(List.getElem?_eq_some_iff.1 hb).2
      rw [← this]
      rfl
    by_cases h2:j=i
    · subst h2;rw [← hb'];exact h128
    · have:=(hK (j - i) (by omega) (by omega)).2
      rw [show i+(j - i)=j by omega,get_at s j hjl,hb'] at this
      omega
   have h10:b ≠ 10:=fun e=>by subst e;exact absurd hbig (by decide)
   have h13:b ≠ 13:=fun e=>by subst e;exact absurd hbig (by decide)
   simp [h10,h13]
theorem below_iterAt {B:Nat} {a w:World} (h:Below B a w) {k:Nat} (hk:B≤k) (s:ByteArray) (p:Nat):Below B a (w.iterAt k s p):=by
 refine ⟨h.os,h.tape,h.output,by simpa [World.iterAt] using h.size,fun j hj=>?_⟩
 rw [← h.block j hj]
 show (w.heap.setIfInBounds k (.stringIter s p))[j]? = w.heap[j]?
 rw [Array.getElem?_setIfInBounds_ne (by omega)]
theorem short_set (n:Nat) (h8:(n:Int)≤8) (w:World):Calls Tryz.prog 257 #[.int .i64 (n:Int)] w fun e w'=>e=.returned (.bool false)∧w=w':=by
 go_enter Tryz.func257,Tryz.ntmps257
 go_wp2
 go_ret
 exact ⟨ret_bool (by simp;omega),rfl⟩
theorem indexAny_short (s:ByteArray) (w:World) (h8:s.size≤8):Calls Tryz.prog 186 #[.string s,.string ⟨#[10,13]⟩] w fun e w'=>e=.returned (.int .i64 (Lib.indexAny s.data.toList [10,13]))∧Below w.heap.size w w':=by
 have hl:=len_data s
 have h8z:(s.size:Int)≤8:=by omega
 have HLEN:=Hd hl
 clear hl
 go_enter Tryz.func186,Tryz.ntmps186
 go_wp2_with fail
 refine (short_set s.size h8z _).mono ?_
 rintro e w' ⟨rfl,rfl⟩
 go_wp2_with fail
 go_loopg [9,10] s.size (fun g _ _ wx=>∃ i:Nat,i+g=s.size∧wx.heap[w.heap.size]? = some (.stringIter s i)∧Below w.heap.size w wx∧Aside (Lib.NoAny s.data.toList [10,13] i))
 case atStart=>exact ⟨0,by omega,World.iter_heap _ _ _,below_iter _ _ _,Aside.intro (Lib.NoAny.zero _ _)⟩
 case round =>
  obtain ⟨i,hig,hit,hb,HN⟩:=hrel
  have HB:=Hd hb
  have hbs:=hb.size
  clear hb
  by_cases hi:i < s.size
  · have HIT:=Hd hit
    have hlt:w.heap.size < wr.heap.size:=(Array.getElem?_eq_some_iff.1 hit).1
    by_cases ha:(s[i]'hi).toNat < 128
    · have hnx:=fun ty=>Lib.run_next_ascii_at (P:=Tryz.prog) wr w.heap.size s i ty hit hi ha
      obtain ⟨x,hx⟩:∃ x:UInt8,s[i]'hi=x:=⟨_,rfl⟩
      have hxl:s.data.toList[i]? = some x:=by rw [← hx];exact Lib.data_getElem? s i hi
      rw [hx] at hnx ha
      have hI:=indexRune_ascii ⟨#[10,13]⟩ (x.toNat:Int) (wr.iterAt w.heap.size s (i+1)) (by omega) (by omega)
      rw [show ((x.toNat:Int)).toNat.toUInt8=x by simp] at hI
      have hcon:=Lib.contains_iff_indexByte [10,13] x
      obtain ⟨r,hr⟩:∃ r,Lib.indexByte (⟨#[10,13]⟩:ByteArray).data.toList x=r:=⟨_,rfl⟩
      rw [hr] at hI
      change Lib.indexByte [10,13] x=r at hr
      rw [hr] at hcon
      have HI:=Hd hI
      have Hxl:=Hd hxl
      clear hit hx hxl hI hr
      cases hin:([10,13]:List UInt8).contains x
      · have hneg : ¬ (0:Int)≤r:=by rw [hin] at hcon;exact of_decide_eq_false hcon.symm
        have HN2:=Hd (HN.out.succ Hxl.out hin)
        clear hcon hin HN
        go_wp2_with fail
        refine HI.out.mono ?_
        rintro e w2 ⟨rfl,rfl⟩
        go_wp2_with fail
        go_roundg (gk - 1)
        case measure=>omega
        case rel=>exact ⟨i+1,by omega,Lib.iterAt_heap _ _ _ _ _ HIT.out,below_iterAt HB.out (Nat.le_refl _) _ _,Aside.intro HN2.out⟩
      · have hpos:(0:Int)≤r:=by rw [hin] at hcon;exact of_decide_eq_true hcon.symm
        have hr:Hid (Lib.indexAny s.data.toList [10,13]=i):=Hd (Lib.indexAny_hit HN.out Hxl.out hin)
        clear hcon hin HN
        go_wp2_with fail
        refine HI.out.mono ?_
        rintro e w2 ⟨rfl,rfl⟩
        go_wp2_with fail
        go_ret
        exact ⟨ret_i hr.out.symm,below_iterAt HB.out (Nat.le_refl _) _ _⟩
    · have hd:=decode_high s i hi (by omega)
      have hnx:=fun ty=>Lib.run_next_any_at (P:=Tryz.prog) wr w.heap.size s i ty hit hi
      have HN2:=Hd (noAny_skip HN.out hi (by omega) (decode_tail s i))
      have hw4:i+(Utf8.decode s i).2≤s.size:=by
        by_cases h1:(Utf8.decode s i).2=1
        · omega
        · have:=(decode_tail s i ((Utf8.decode s i).2 - 1) (by omega) (by omega)).1
          omega
      obtain ⟨c,hc⟩:∃ c,(Utf8.decode s i).1=c:=⟨_,rfl⟩
      obtain ⟨K,hK⟩:∃ K,(Utf8.decode s i).2=K:=⟨_,rfl⟩
      rw [hc] at hd hnx
      rw [hK] at hd hnx HN2 hw4
      have HI:=Hd (indexRune_high ⟨#[10,13]⟩ rfl rfl (by decide) (c:Int) (by omega) (wr.iterAt w.heap.size s (i+K)))
      clear hit hc hK HN
      go_wp2_with fail
      refine HI.out.mono ?_
      rintro e w2 ⟨rfl,hb2⟩
      have HBb:=Hd hb2
      clear hb2
      go_wp2_with fail
      go_roundg (gk - K)
      case measure=>omega
      case rel=>exact ⟨i+K,by omega,(HBb.out.block w.heap.size (by simpa [World.iterAt] using hlt)).trans (Lib.iterAt_heap _ _ _ _ _ HIT.out),(below_iterAt HB.out (Nat.le_refl _) s (i+K)).trans (HBb.out.mono (by simpa [World.iterAt] using hbs)),Aside.intro HN2.out⟩
  · obtain rfl:i=s.size:=by omega
    have hnx:=fun ty=>Lib.run_next_end_at (P:=Tryz.prog) wr w.heap.size s s.size ty hit hi
    have hr:Hid (Lib.indexAny s.data.toList [10,13] = -1):=Hd (Lib.indexAny_none (by rw [HLEN.out];exact HN.out))
    clear hit HN
    go_wp2_with fail
    go_ret
    exact ⟨ret_i hr.out.symm,HB.out⟩
theorem indexAny_ends (s:ByteArray) (w:World) (hs:s.size≤9000):Calls Tryz.prog 186 #[.string s,.string ⟨#[10,13]⟩] w fun e w'=>e=.returned (.int .i64 (Lib.indexAny s.data.toList [10,13]))∧Below w.heap.size w w':=by
 by_cases h8:s.size≤8
 · exact indexAny_short s w h8
 · exact indexAny_long s ⟨#[10,13]⟩ w (by decide) (by omega) (by omega) (by decide) (fun j b hb=>by
    match j,hb with
    | 0,hb=>cases hb;decide
    | 1,hb=>cases hb;decide
    | j+2,hb=>simp at hb)
theorem idx_eol:∀ l:List UInt8,Lib.indexAny l [10,13]=if (l.takeWhile noEol).length < l.length then ((l.takeWhile noEol).length:Int) else -1:=by
 intro l
 induction l with
 | nil=>rfl
 | cons b t ih =>
   have hb:([10,13]:List UInt8).contains b = !noEol b:=by unfold noEol;cases h10:(b == 10)<;>cases h13:(b == 13)<;>simp_all
   rw [Lib.indexAny,hb,List.takeWhile_cons]
   cases hn:noEol b
   · simp
   · have:=takeWhile_le noEol t
     simp only [Bool.not_true,Bool.false_eq_true,if_false,if_true,List.length_cons]
     rw [ih]
     by_cases h:(t.takeWhile noEol).length < t.length
     · rw [if_pos h,if_neg (show ¬ (((t.takeWhile noEol).length:Int) == -1)=true by simp),if_pos (show (t.takeWhile noEol).length+1 < t.length+1 by omega)]
       omega
     · rw [if_neg h,if_pos (show ((-1:Int) == -1)=true by rfl),if_neg (show ¬ (t.takeWhile noEol).length+1 < t.length+1 by omega)]
theorem gapL_at (s:ByteArray) (h:0 < s.size) (hp:pre [239,187,191] s.data.toList=false):gapL s.data.toList=if isGap s[0] then 1 else if s[0] == 35 then 1+((s.data.toList.drop 1).takeWhile noEol).length else 0:=by
 rw [cons_at s h] at hp
 conv=>lhs;rw [cons_at s h]
 simp only [gapL,hp]
 rfl
theorem gap_any (s:ByteArray) (w:World) (hs:s.size≤9000):Calls Tryz.prog 105 #[.string s] w fun e w'=>e=.returned (.int .i64 (gapL s.data.toList))∧Below w.heap.size w w':=by
 cases hp:pre [239,187,191] s.data.toList
 · have HP := Hd (hasP s ⟨#[239,187,191]⟩ w false hp)
   rcases Nat.eq_zero_or_pos s.size with h0|h0
   · have hr:Hid (gapL s.data.toList=0):=Hd (by rw [nil_of_size h0];rfl)
     have he:=empty_yes h0
     clear hp
     go_enter Tryz.func105,Tryz.ntmps105
     go_wp2_with fail
     refine HP.out.mono ?_
     rintro e w1 ⟨rfl,rfl⟩
     go_wp2_with fail
     go_ret
     exact ⟨by rw [hr.out];rfl,Below.refl _ _⟩
   have he:=empty_no h0
   have hg:=gapL_at s h0 hp
   have hI:=indexAny_ends s w hs
   rw [idx_eol,cons_at s h0] at hI
   have h0':(0:Int) < (s.size:Int):=by omega
   clear hp
   cases c9:(s[0] == 9)
   · obtain ⟨a1, a2⟩:=beqF c9 9 rfl
     cases c10:(s[0] == 10)
     · obtain ⟨b1,b2⟩:=beqF c10 10 rfl
       cases c13:(s[0] == 13)
       · obtain ⟨c1,c2⟩:=beqF c13 13 rfl
         cases c32:(s[0] == 32)
         · obtain ⟨d1,d2⟩:=beqF c32 32 rfl
           cases c44:(s[0] == 44)
           · obtain ⟨f1,f2⟩:=beqF c44 44 rfl
             have hgn:isGap s[0]=false:=by simp [isGap,c9,c10,c13,c32,c44]
             cases c35:(s[0] == 35)
             · obtain ⟨g1,g2⟩:=beqF c35 35 rfl
               have hr:Hid (gapL s.data.toList=0):=Hd (by rw [hg,hgn,c35];rfl)
               clear hg hI hgn c9 c10 c13 c32 c44 c35
               go_enter Tryz.func105,Tryz.ntmps105
               go_wp2_with fail
               refine HP.out.mono ?_
               rintro e w1 ⟨rfl,rfl⟩
               go_wp2_with fail
               go_ret
               exact ⟨by rw [hr.out];rfl,Below.refl _ _⟩
             · obtain ⟨g1,g2⟩:=beqT c35 35 rfl
               have h35:s[0]=35:=by simpa using c35
               rw [hgn,c35] at hg
               simp only [Bool.false_eq_true,if_false,if_true] at hg
               have htl:=takeWhile_le noEol (s.data.toList.drop 1)
               rw [List.length_drop,len_data] at htl
               rw [List.takeWhile_cons,show noEol s[0]=true by rw [h35];rfl,if_pos rfl,List.length_cons,List.length_cons,List.length_drop,len_data] at hI
               obtain ⟨m,hm⟩:∃ m,((s.data.toList.drop 1).takeWhile noEol).length=m:=⟨_,rfl⟩
               rw [hm] at hI hg htl
               have hr:=Hd hg
               clear hg hgn c9 c10 c13 c32 c44 c35 hm h35
               by_cases hlt:m+1 < s.size - 1+1
               · rw [if_pos hlt] at hI
                 have HI:=Hd hI
                 clear hI
                 have hpos:(0:Int) < ((m+1:Nat):Int):=by omega
                 go_enter Tryz.func105,Tryz.ntmps105
                 go_wp2_with fail
                 refine HP.out.mono ?_
                 rintro e w1 ⟨rfl,rfl⟩
                 go_wp2_with fail
                 refine HI.out.mono ?_
                 rintro e w1 ⟨rfl,hb⟩
                 have HB:=Hd hb
                 clear hb
                 go_wp2_with fail
                 go_ret
                 exact ⟨ret_i (by rw [hr.out];omega),HB.out⟩
               · rw [if_neg hlt] at hI
                 have HI:=Hd hI
                 clear hI
                 go_enter Tryz.func105,Tryz.ntmps105
                 go_wp2_with fail
                 refine HP.out.mono ?_
                 rintro e w1 ⟨rfl,rfl⟩
                 go_wp2_with fail
                 refine HI.out.mono ?_
                 rintro e w1 ⟨rfl,hb⟩
                 have HB:=Hd hb
                 clear hb
                 go_wp2_with fail
                 go_ret
                 exact ⟨ret_i (by rw [hr.out];omega),HB.out⟩
           · obtain ⟨f1,f2⟩:=beqT c44 44 rfl
             have hr:Hid (gapL s.data.toList=1):=Hd (by rw [hg];simp [isGap,c9,c10,c13,c32,c44])
             clear hg hI c9 c10 c13 c32 c44
             go_enter Tryz.func105,Tryz.ntmps105
             go_wp2_with fail
             refine HP.out.mono ?_
             rintro e w1 ⟨rfl,rfl⟩
             go_wp2_with fail
             go_ret
             exact ⟨by rw [hr.out];rfl,Below.refl _ _⟩
         · obtain ⟨d1,d2⟩:=beqT c32 32 rfl
           have hr:Hid (gapL s.data.toList=1):=Hd (by rw [hg];simp [isGap,c9,c10,c13,c32])
           clear hg hI c9 c10 c13 c32
           go_enter Tryz.func105,Tryz.ntmps105
           go_wp2_with fail
           refine HP.out.mono ?_
           rintro e w1 ⟨rfl,rfl⟩
           go_wp2_with fail
           go_ret
           exact ⟨by rw [hr.out];rfl,Below.refl _ _⟩
       · obtain ⟨c1,c2⟩:=beqT c13 13 rfl
         have hr:Hid (gapL s.data.toList=1):=Hd (by rw [hg];simp [isGap,c9,c10,c13])
         clear hg hI c9 c10 c13
         go_enter Tryz.func105,Tryz.ntmps105
         go_wp2_with fail
         refine HP.out.mono ?_
         rintro e w1 ⟨rfl,rfl⟩
         go_wp2_with fail
         go_ret
         exact ⟨by rw [hr.out];rfl,Below.refl _ _⟩
     · obtain ⟨b1,b2⟩:=beqT c10 10 rfl
       have hr:Hid (gapL s.data.toList=1):=Hd (by rw [hg];simp [isGap,c9,c10])
       clear hg hI c9 c10
       go_enter Tryz.func105,Tryz.ntmps105
       go_wp2_with fail
       refine HP.out.mono ?_
       rintro e w1 ⟨rfl,rfl⟩
       go_wp2_with fail
       go_ret
       exact ⟨by rw [hr.out];rfl,Below.refl _ _⟩
   · obtain ⟨a1,a2⟩:=beqT c9 9 rfl
     have hr:Hid (gapL s.data.toList=1):=Hd (by rw [hg];simp [isGap,c9])
     clear hg hI c9
     go_enter Tryz.func105,Tryz.ntmps105
     go_wp2_with fail
     refine HP.out.mono ?_
     rintro e w1 ⟨rfl,rfl⟩
     go_wp2_with fail
     go_ret
     exact ⟨by rw [hr.out];rfl,Below.refl _ _⟩
 · have HP:=Hd (hasP s ⟨#[239,187,191]⟩ w true hp)
   have hr:Hid (gapL s.data.toList=3):=Hd (by
     have h3:=pre_len hp
     rw [len_data] at h3
     have h0:0 < s.size:=by simp at h3;omega
     have hc:=cons_at s h0
     rw [hc] at hp ⊢
     have h239:s[0]=239:=by
       unfold pre at hp
       rw [List.isPrefixOf_cons_cons] at hp
       simp only [Bool.and_eq_true,beq_iff_eq] at hp
       exact hp.1.symm
     rw [h239] at hp ⊢
     simp only [gapL,hp]
     rfl)
   clear hp
   go_enter Tryz.func105,Tryz.ntmps105
   go_wp2_with fail
   refine HP.out.mono ?_
   rintro e w1 ⟨rfl,rfl⟩
   go_wp2_with fail
   go_ret
   exact ⟨by rw [hr.out];rfl,Below.refl _ _⟩
theorem gap_at (s:ByteArray) (k:Nat) (w:World) (hs:s.size≤9000):Calls Tryz.prog 105 #[.string (s.extract k s.size)] w fun e w'=>e=.returned (.int .i64 (gapL (s.data.toList.drop k)))∧Below w.heap.size w w':=by
 have h:=gap_any (s.extract k s.size) w (by rw [ext_size];omega)
 rwa [ext_data] at h
end Go.Proofs.YtkacnnhdfkpenaaGreatDoor
