/- The walks of token's mark and word. -/
import Derived.Test.YtaekdfcpbepepaaGreatDoorQb15
set_option maxRecDepth 100000
set_option maxHeartbeats 1000000
namespace Go.Proofs.YtaekdfcpbepepaaGreatDoor
open Go.RowKit
theorem ret_tok {R:Ending→World→Prop} {fn:Func} {a:Act} {W:World} {k v:Value} {b:Nat} (hf:fn.results=#[.cell 2 228,.tmp 3]) (h2:a.tmps.getD 2 undef=.pointer (some ⟨b,0,none⟩)) (hd:a.defers=[])
  (hc:W.heap[b]? = some (.cells #[k,v] 228 (0,0))) (hR:R (.returned (.tuple #[.agg #[k,v],a.tmps.getD 3 undef])) W):bodyPost Tryz.prog fn R .ret a W:=by
 have hl:(loadVar 228 ⟨b,0,none⟩).run Tryz.prog W=.ok (.agg #[k,v]) W:=
  run_loadVar_row W b 228 228 #[k,v] (0,0) _ hc Tryz.underlying228 rfl (by kernel_rfl)
 refine bodyPost_ret ?_ hd hR
 have h2':a.tmps[2]?.getD undef=.pointer (some ⟨b,0,none⟩):=by rw [← h2];simp
 simp [results,hf,h2',asAddr,hl]
theorem below_newT {w:World} {cs:Array Value} {t:TypeId} : Below w.heap.size w (w.alloc (.cells cs t)):=(Below.refl _ _).alloc (Nat.le_refl _) _
theorem ret_t {k n m:Int} {x y:ByteArray} (hx:x=y) (h:n=m):Ending.returned (.tuple #[.agg #[.int .i64 k,.string x],.int .i64 n])=.returned (.tuple #[.agg #[.int .i64 k,.string y],.int .i64 m]):=by rw [hx,h]
def tokS (k:Int) (l:List UInt8) (n:Nat):Value:=if n=0 then .tuple #[.agg #[.int .i64 0,.string ⟨#[]⟩],.int .i64 0] else .tuple #[.agg #[.int .i64 k,.string ⟨l.toArray⟩],.int .i64 n]
theorem tokS_yes {k:Int} {l:List UInt8} {n:Nat} (h:n ≠ 0):tokS k l n=.tuple #[.agg #[.int .i64 k,.string ⟨l.toArray⟩],.int .i64 n]:=if_neg h
theorem tletter_at (s:ByteArray) (k:Nat) (w:World):Calls Tryz.prog 256 #[.string (s.extract k s.size)] w fun e w'=>e=.returned (.bool (headB letU (s.data.toList.drop k)))∧w=w':=by
 have h:=tletter_any (s.extract k s.size) w
 rwa [ext_data] at h
theorem tdigit_at (s:ByteArray) (k:Nat) (w:World):Calls Tryz.prog 255 #[.string (s.extract k s.size)] w fun e w'=>e=.returned (.bool (headB digU (s.data.toList.drop k)))∧w=w':=by
 have h:=tdigit_any (s.extract k s.size) w
 rwa [ext_data] at h
theorem frac_at (s:ByteArray) (k:Nat) (w:World) (hs:s.size≤1100000):Calls Tryz.prog 253 #[.string (s.extract k s.size)] w fun e w'=>e=.returned (.int .i64 (fracL (s.data.toList.drop k)))∧w=w':=by
 have h:=fraction_any (s.extract k s.size) w (by rw [ext_size];omega)
 rwa [ext_data] at h
theorem expo_at (s:ByteArray) (k:Nat) (w:World) (hs:s.size≤1100000):Calls Tryz.prog 254 #[.string (s.extract k s.size)] w fun e w'=>e=.returned (.int .i64 (expoL (s.data.toList.drop k)))∧w=w':=by
 have h:=exponent_any (s.extract k s.size) w (by rw [ext_size];omega)
 rwa [ext_data] at h
theorem dot_at (s:ByteArray) (k:Nat) (w:World) (b:Bool) (h:headB (fun b=>b == 46) (s.data.toList.drop k)=b):Calls Tryz.prog 146 #[.string (s.extract k s.size),.string ⟨#[46]⟩] w fun e w'=>e=.returned (.bool b)∧w=w':=
 hasP (s.extract k s.size) ⟨#[46]⟩ w b (by rw [ext_data];exact (pre_one 46 _).trans h)
theorem minusL_head (l:List UInt8):minusL l=if headB (fun b=>b == 45) l then 1 else 0:=by cases l<;>rfl
theorem minus_trim (s:ByteArray) (w:World):∃ t:ByteArray,t.size+minusL s.data.toList=s.size∧Calls Tryz.prog 251 #[.string s,.string ⟨#[45]⟩] w fun e w'=>e=.returned (.string t)∧w=w':=by
 refine ⟨⟨(Lib.trimPrefix s.data.toList [45]).toArray⟩,?_,(trimPrefix_any s ⟨#[45]⟩ w).mono fun _ _ ⟨he,hw⟩=>⟨he,hw.symm⟩⟩
 rw [size_mk,minusL_head]
 have hl:=len_data s
 cases hb:headB (fun b=>b == 45) s.data.toList
 · rw [show Lib.trimPrefix s.data.toList [45]=s.data.toList from if_neg (by show ¬ pre [45] s.data.toList=true;rw [pre_one,hb];simp)]
   simp [hl]
 · rw [show Lib.trimPrefix s.data.toList [45]=s.data.toList.drop 1 from if_pos (by show pre [45] s.data.toList=true;rw [pre_one,hb])]
   have:s.data.toList ≠ []:=by intro e;rw [e] at hb;cases hb
   have:s.data.toList.length ≠ 0:=fun e=>this (List.eq_nil_of_length_eq_zero e)
   rw [List.length_drop]
   simp only [if_true]
   omega
theorem whole_run (l:List UInt8):wholeL l=0 ↔ runL l=0:=by
 cases l with
 | nil=>simp [wholeL,runL]
 | cons b t =>
   simp only [wholeL]
   split
   · rename_i h
     have:b=48:=by simpa using h
     subst this
     rw [runL_yes (by decide)]
     omega
   · exact Iff.rfl
theorem number_mid {l:List UInt8} {m W f x K K2 N:Nat} (hm:minusL l=m) (hW:wholeL (l.drop m)=W) (h0:W ≠ 0) (hK:m+W=K) (hf:fracL (l.drop K)=f) (hK2:K+f=K2) (hx:expoL (l.drop K2)=x) (hN:K2+x=N) :
  nmL l=(N,if f=0∧x=0 then 3 else 4):=by
 unfold nmL
 subst hm hW hK hf hK2 hx hN
 rw [if_neg h0]
theorem behind_head (l:List UInt8):behindB l=(headB digU l || headB letU l || headB (fun b=>b == 46) l):=by cases l<;>rfl
theorem number_bad {l:List UInt8} {N:Nat} {k:Int} (h:nmL l=(N,k)) (hb:behindB (l.drop N)=true):nbL l=(0,0):=by
 unfold nbL
 rw [h]
 simp only [hb]
 split<;>rfl
theorem number_good {l:List UInt8} {N:Nat} {k:Int} (h:nmL l=(N,k)) (h0:N ≠ 0) (hb:behindB (l.drop N)=false):nbL l=(N,k):=by
 unfold nbL
 rw [h]
 simp [hb,h0]
abbrev tok0:Obj:=.cells #[.int .i64 0,.string ⟨#[]⟩] 228
theorem number_any (s:ByteArray) (w:World) (hs:s.size≤1100000):Calls Tryz.prog 246 #[.string s] w fun e w'=>e=.returned (tokS (nbL s.data.toList).2 (s.data.toList.take (nbL s.data.toList).1) (nbL s.data.toList).1)∧Below w.heap.size w w':=by
 obtain ⟨t,ht,hT⟩:=minus_trim s (w.alloc tok0)
 have hml:=minusL_le s.data.toList
 rw [len_data] at hml
 obtain ⟨m,hM⟩:∃ m,minusL s.data.toList=m:=⟨_,rfl⟩
 rw [hM] at ht hml
 have hD:=digits_at s m (w.alloc tok0) hs
 have hrl:=runL_le (s.data.toList.drop m)
 rw [List.length_drop,len_data] at hrl
 have hwr:=whole_run (s.data.toList.drop m)
 obtain ⟨r,hR⟩:∃ r,runL (s.data.toList.drop m)=r:=⟨_,rfl⟩
 rw [hR] at hD hrl hwr
 have E0:(s.size:Int) - (t.size:Int)=(m:Int):=by omega
 have hm0:(m:Int)≤(s.size:Int):=by omega
 have HT:=Hd hT
 have HD:=Hd hD
 have HM:=Hd hM
 clear hT hD hM ht
 rcases Nat.eq_zero_or_pos r with hz|hz
 · have hr:Hid (nbL s.data.toList=(0,0)):=Hd (by
    unfold nbL nmL
    rw [HM.out,if_pos (hwr.2 hz)]
    rfl)
   have e0:((r:Int) == 0)=true:=by simp;omega
   clear hz hwr hR
   go_enter Tryz.func246,Tryz.ntmps246
   go_wp2_with fail
   refine HT.out.mono ?_
   rintro e w1 ⟨rfl,rfl⟩
   go_wp2_with fail
   refine HD.out.mono ?_
   rintro e w1 ⟨rfl,rfl⟩
   go_wp2_with fail
   refine ret_tok rfl rfl rfl (heap_alloc_last _ _) ⟨?_,below_newT⟩
   rw [hr.out]
   rfl
 · have e0:((r:Int) == 0)=false:=by simp;omega
   have hmlt:m < s.size:=by omega
   have hmlt':(m:Int) < (s.size:Int):=by omega
   have hwd:wholeL (s.data.toList.drop m)=if s[m] == 48 then 1 else r:=by
    rw [← hR,drop_at s m hmlt];rfl
   have hwl:=wholeL_le (s.data.toList.drop m)
   rw [List.length_drop,len_data] at hwl
   obtain ⟨W,hW⟩:∃ W,wholeL (s.data.toList.drop m)=W:=⟨_,rfl⟩
   rw [hW] at hwd hwl hwr
   have hW0:W ≠ 0:=fun h=>by have:=hwr.1 h;omega
   obtain ⟨K,hK⟩:∃ K,m+W=K:=⟨_,rfl⟩
   have E1:(m:Int)+(W:Int)=(K:Int):=by omega
   have hKs:(K:Int)≤(s.size:Int):=by omega
   have hF:=frac_at s K (w.alloc tok0) hs
   have hfl:=fracL_le (s.data.toList.drop K)
   rw [List.length_drop,len_data] at hfl
   obtain ⟨f,hf⟩:∃ f,fracL (s.data.toList.drop K)=f:=⟨_,rfl⟩
   rw [hf] at hF hfl
   obtain ⟨K2,hK2⟩:∃ K2,K+f=K2:=⟨_,rfl⟩
   have E2:(K:Int)+(f:Int)=(K2:Int):=by omega
   have hK2s:(K2:Int)≤(s.size:Int):=by omega
   have hX:=expo_at s K2 (w.alloc tok0) hs
   have hxl:=expoL_le (s.data.toList.drop K2)
   rw [List.length_drop,len_data] at hxl
   obtain ⟨x,hx⟩:∃ x,expoL (s.data.toList.drop K2)=x:=⟨_,rfl⟩
   rw [hx] at hX hxl
   obtain ⟨N,hN⟩:∃ N,K2+x=N:=⟨_,rfl⟩
   have E3:(K2:Int)+(x:Int)=(N:Int):=by omega
   have hNs:(N:Int)≤(s.size:Int):=by omega
   have hNum:=Hd (number_mid HM.out hW hW0 hK hf hK2 hx hN)
   have HF:=Hd hF
   have HX:=Hd hX
   have HN0:Hid (N ≠ 0):=Hd (by omega)
   have HWD:=Hd hwd
   have HK:=Hd hK
   have HK2:=Hd hK2
   have HN:=Hd hN
   clear hF hX hwd hwr hW hK hf hK2 hx hN hz hR hfl hxl hwl hW0 hrl
   go_enter Tryz.func246,Tryz.ntmps246
   go_wp2_with fail
   refine HT.out.mono ?_
   rintro e w1 ⟨rfl,rfl⟩
   go_wp2_with fail
   refine HD.out.mono ?_
   rintro e w1 ⟨rfl,rfl⟩
   go_upto_if 26 with (fail)
   go_cut [5] (fun wv wx=>wv=.int .i64 W∧wx=w.alloc tok0)
   case first =>
    cases hb:(s[m] == 48)
    · obtain ⟨b1,b2⟩:=beqF hb 48 rfl
      obtain rfl:W=r:=by have:=HWD.out;rw [hb] at this;exact this
      clear hb
      go_wp2_with fail
      go_meet
      exact ⟨rfl,rfl⟩
    · obtain ⟨b1,b2⟩:=beqT hb 48 rfl
      obtain rfl:W=1:=by have:=HWD.out;rw [hb] at this;exact this
      clear hb
      go_wp2_with fail
      go_meet
      exact ⟨rfl,rfl⟩
   case rest =>
    obtain ⟨rfl,rfl⟩:=hcut
    go_upto_if 35 with (fail)
    refine HF.out.mono ?_
    rintro e w1 ⟨rfl,rfl⟩
    go_upto_if 35 with (fail)
    go_cut [4,6] (fun nv kv wx=>nv=.int .i64 K2∧kv=.int .i64 (if f=0 then 3 else 4)∧wx=w.alloc tok0)
    case first =>
      rcases Nat.eq_zero_or_pos f with hz|hz
      · have hz' : ¬ (0:Int) < (f:Int):=by omega
        have HZ:=Hd hz
        clear hz
        go_wp2_with fail
        go_meet
        exact ⟨by have:=HK2.out;have:=HZ.out;congr 1;omega,by rw [if_pos HZ.out],rfl⟩
      · have hz':(0:Int) < (f:Int):=by omega
        have HZ:=Hd hz
        clear hz
        go_wp2_with fail
        go_meet
        exact ⟨rfl,by have:=HZ.out;rw [if_neg (by omega)],rfl⟩
    case rest =>
      obtain ⟨rfl,rfl,rfl⟩:=hcut
      obtain ⟨k1,hk1⟩:∃ k1:Int,(if f=0 then 3 else 4:Int)=k1:=⟨_,rfl⟩
      rw [hk1]
      have HK1:=Hd hk1
      clear hk1
      go_upto_if 44 with (fail)
      refine HX.out.mono ?_
      rintro e w1 ⟨rfl,rfl⟩
      go_upto_if 44 with (fail)
      go_cut [4,6] (fun nv kv wx=>nv=.int .i64 N∧kv=.int .i64 (if f=0∧x=0 then 3 else 4)∧wx=w.alloc tok0)
      case first =>
        rcases Nat.eq_zero_or_pos x with hz|hz
        · have hz' : ¬ (0:Int) < (x:Int):=by omega
          have HZ:=Hd hz
          clear hz
          go_wp2_with fail
          go_meet
          exact ⟨by have:=HN.out;have:=HZ.out;congr 1;omega,by rw [← HK1.out];have:=HZ.out;simp [this],rfl⟩
        · have hz':(0:Int) < (x:Int):=by omega
          have HZ:=Hd hz
          clear hz
          go_wp2_with fail
          go_meet
          exact ⟨rfl,by have:=HZ.out;rw [if_neg (by omega)],rfl⟩
      case rest =>
        obtain ⟨rfl,rfl,rfl⟩:=hcut
        obtain ⟨k2,hk2⟩:∃ k2:Int,(if f=0∧x=0 then 3 else 4:Int)=k2:=⟨_,rfl⟩
        rw [hk2]
        have hnum:=hNum.out
        rw [hk2] at hnum
        have HNU:=Hd hnum
        clear hk2 hnum hNum HK1
        have HDG:=Hd (tdigit_at s N (w.alloc tok0))
        have HLT:=Hd (tletter_at s N (w.alloc tok0))
        have hbh:=behind_head (s.data.toList.drop N)
        cases hd:headB digU (s.data.toList.drop N)
        · cases hl:headB letU (s.data.toList.drop N)
          · cases hp:headB (fun b=>b == 46) (s.data.toList.drop N)
            · have HP:=Hd (dot_at s N (w.alloc tok0) false hp)
              have hr:=Hd (number_good HNU.out HN0.out (by rw [hbh,hd,hl,hp];rfl))
              have hd':=Hd hd
              have hl':=Hd hl
              clear hbh hd hl hp
              go_wp2_with fail
              refine HDG.out.mono ?_
              rintro e w1 ⟨rfl,rfl⟩
              rw [hd'.out]
              go_wp2_with fail
              refine HLT.out.mono ?_
              rintro e w1 ⟨rfl,rfl⟩
              rw [hl'.out]
              go_wp2_with fail
              refine HP.out.mono ?_
              rintro e w1 ⟨rfl,rfl⟩
              go_wp2_with fail
              refine ret_tok rfl rfl rfl (heap_alloc_last _ _) ⟨?_,below_newT⟩
              rw [hr.out,tokS_yes HN0.out]
              exact ret_t (mk_of (ext_take s N)).symm rfl
            · have HP:=Hd (dot_at s N (w.alloc tok0) true hp)
              have hr:=Hd (number_bad HNU.out (by rw [hbh,hd,hl,hp];rfl))
              have hd':=Hd hd
              have hl':=Hd hl
              clear hbh hd hl hp
              go_wp2_with fail
              refine HDG.out.mono ?_
              rintro e w1 ⟨rfl,rfl⟩
              rw [hd'.out]
              go_wp2_with fail
              refine HLT.out.mono ?_
              rintro e w1 ⟨rfl,rfl⟩
              rw [hl'.out]
              go_wp2_with fail
              refine HP.out.mono ?_
              rintro e w1 ⟨rfl,rfl⟩
              go_wp2_with fail
              refine ret_tok rfl rfl rfl (heap_alloc_last _ _) ⟨?_,below_newT⟩
              rw [hr.out]
              rfl
          · have hr:=Hd (number_bad HNU.out (by rw [hbh,hd,hl];rfl))
            have hd':=Hd hd
            have hl':=Hd hl
            clear hbh hd hl
            go_wp2_with fail
            refine HDG.out.mono ?_
            rintro e w1 ⟨rfl,rfl⟩
            rw [hd'.out]
            go_wp2_with fail
            refine HLT.out.mono ?_
            rintro e w1 ⟨rfl,rfl⟩
            rw [hl'.out]
            go_wp2_with fail
            refine ret_tok rfl rfl rfl (heap_alloc_last _ _) ⟨?_,below_newT⟩
            rw [hr.out]
            rfl
        · have hr:=Hd (number_bad HNU.out (by rw [hbh,hd];rfl))
          have hd':=Hd hd
          clear hbh hd
          go_wp2_with fail
          refine HDG.out.mono ?_
          rintro e w1 ⟨rfl,rfl⟩
          rw [hd'.out]
          go_wp2_with fail
          refine ret_tok rfl rfl rfl (heap_alloc_last _ _) ⟨?_,below_newT⟩
          rw [hr.out]
          rfl
theorem vnumber_zero {l:List UInt8} (h:(nbL l).1=0):(nbL l).2=0:=by
 unfold nbL at *
 by_cases h0:(nmL l).1=0
 · rw [if_pos h0]
 · rw [if_neg h0] at h ⊢
   cases hb:behindB (l.drop (nmL l).1)
   · rw [hb] at h;exact absurd h h0
   · rfl
theorem vnumberf_any (s:ByteArray) (w:World) (hs:s.size≤1100000):Calls Tryz.prog 238 #[.string s] w fun e w'=>e=.returned (.int .i64 (kindL s.data.toList))∧Below w.heap.size w w':=by
 have hN:=number_any s w hs
 have hk:kindL s.data.toList=if (nbL s.data.toList).1 < s.size then 0 else (nbL s.data.toList).2:=by unfold kindL;rw [len_data]
 have hz:=fun h=>vnumber_zero (l:=s.data.toList) h
 obtain ⟨n,hn⟩:∃ n,(nbL s.data.toList).1=n:=⟨_,rfl⟩
 obtain ⟨k,hkk⟩:∃ k,(nbL s.data.toList).2=k:=⟨_,rfl⟩
 rw [hn,hkk] at hN hk hz
 have hT:∃ x:ByteArray,tokS k (s.data.toList.take n) n=.tuple #[.agg #[.int .i64 k,.string x],.int .i64 n]:=by
   by_cases h0:n=0
   · rw [hz h0,h0];exact ⟨_,rfl⟩
   · exact ⟨_,tokS_yes h0⟩
 obtain ⟨x,hx⟩:=hT
 rw [hx] at hN
 have HN:=Hd hN
 clear hN hx hz hn hkk
 by_cases hlt:n < s.size
 · have hlt':(n:Int) < (s.size:Int):=by omega
   have hr:Hid (kindL s.data.toList=0):=Hd (by rw [hk,if_pos hlt])
   clear hk
   go_enter Tryz.func238,Tryz.ntmps238
   go_wp2_with fail
   refine HN.out.mono ?_
   rintro e w1 ⟨rfl,hb⟩
   have HB:=Hd hb
   have hbs:=hb.size
   clear hb
   go_wp2_with fail
   go_ret
   exact ⟨ret_i (by rw [hr.out]),HB.out.alloc hbs _⟩
 · have hlt' : ¬ (n:Int) < (s.size:Int):=by omega
   have hr:Hid (kindL s.data.toList=k):=Hd (by rw [hk,if_neg hlt])
   clear hk
   go_enter Tryz.func238,Tryz.ntmps238
   go_wp2_with fail
   refine HN.out.mono ?_
   rintro e w1 ⟨rfl,hb⟩
   have HB:=Hd hb
   have hbs:=hb.size
   clear hb
   go_wp2_with fail
   go_ret
   exact ⟨ret_i (by rw [hr.out]),HB.out.alloc hbs _⟩
theorem vnumber_any (s:ByteArray) (w:World) (hs:s.size≤1100000) (hw:Laid5 w):Calls Tryz.prog 227 #[.string s] w fun e w'=>e=.returned (.bool (numB s.data.toList))∧Below w.heap.size w w':=by
 have hN:=vnumberf_any s w hs
 by_cases h4:kindL s.data.toList=4
 · have hr:Hid (numB s.data.toList=true):=Hd (by unfold numB;rw [h4];rfl)
   rw [h4] at hN
   have HN:=Hd hN
   clear hN h4
   go_enter Tryz.func227,Tryz.ntmps227
   go_wp2_with fail
   refine HN.out.mono ?_
   rintro e w1 ⟨rfl,hb⟩
   have HB:=Hd hb
   clear hb
   go_wp2_with fail
   go_ret
   exact ⟨ret_bool hr.out.symm,HB.out⟩
 · by_cases h3:kindL s.data.toList=3
   · cases hf:fits64 (intN s.data.toList) with
     | true =>
       have hr:Hid (numB s.data.toList=false):=Hd (by unfold numB;rw [h3,hf];rfl)
       have HP:=fun wx=>Hd (parseInt_yes s hs h3 hf wx)
       rw [h3] at hN
       have HN:=Hd hN
       clear hN h3 h4 hf
       go_enter Tryz.func227,Tryz.ntmps227
       go_wp2_with fail
       refine HN.out.mono ?_
       rintro e w1 ⟨rfl,hb⟩
       have HB:=Hd hb
       clear hb
       go_wp2_with fail
       refine (HP _).out.mono ?_
       rintro e w2 ⟨rfl,hb⟩
       have HB2:=Hd (HB.out.trans (hb.mono HB.out.size))
       clear hb
       go_wp2_with fail
       go_ret
       exact ⟨ret_bool hr.out.symm,HB2.out⟩
     | false =>
       have hr:Hid (numB s.data.toList=true):=Hd (by unfold numB;rw [h3,hf];rfl)
       have HP:=fun wx (hx:Laid5 wx)=>Hd (parseInt_no s hs h3 hf wx hx)
       rw [h3] at hN
       have HN:=Hd hN
       have HW:=Hd hw
       clear hN h3 h4 hf hw
       go_enter Tryz.func227,Tryz.ntmps227
       go_wp2_with fail
       refine HN.out.mono ?_
       rintro e w1 ⟨rfl,hb⟩
       have HB:=Hd hb
       clear hb
       go_wp2_with fail
       refine (HP _ (HW.out.below HB.out)).out.mono ?_
       rintro e w2 ⟨⟨z,N,rfl⟩,hb⟩
       have HB2:=Hd (HB.out.trans (hb.mono HB.out.size))
       clear hb
       go_wp2_with fail
       go_ret
       exact ⟨ret_bool hr.out.symm,HB2.out⟩
   · have hr:Hid (numB s.data.toList=false):=Hd (by unfold numB;simp [h3,h4])
     obtain ⟨k,hk⟩:∃ k,kindL s.data.toList=k:=⟨_,rfl⟩
     rw [hk] at hN h3 h4
     have g4:(k == 4)=false:=by simpa using h4
     have g3:(k == 3)=false:=by simpa using h3
     have HN:=Hd hN
     clear hN h3 h4 hk
     go_enter Tryz.func227,Tryz.ntmps227
     go_wp2_with fail
     refine HN.out.mono ?_
     rintro e w1 ⟨rfl,hb⟩
     have HB:=Hd hb
     clear hb
     go_wp2_with fail
     go_ret
     exact ⟨ret_bool hr.out.symm,HB.out⟩
theorem enum_said {s:ByteArray} {b0 b1 b2 b3:Bool} (h0:nameB s.data.toList=b0) (h1:(s.toList == [110,117,108,108])=b1) (h2:(s.toList == [116,114,117,101])=b2) (h3:(s.toList == [102,97,108,115,101])=b3) :
  enumB s.data.toList=(b0 && !b1 && !b2 && !b3):=by
 rw [Lib.toList_data] at h1 h2 h3
 unfold enumB
 rw [h0,← h1,← h2,← h3]
 rfl
theorem venum_any (s:ByteArray) (w:World) (hs:s.size≤1100000):Calls Tryz.prog 228 #[.string s] w fun e w'=>e=.returned (.bool (enumB s.data.toList))∧Below w.heap.size w w':=by
 have hN:=fun wx=>name_any s wx (by omega)
 obtain ⟨b0,h0⟩:∃ b,nameB s.data.toList=b:=⟨_,rfl⟩
 obtain ⟨b1,h1⟩:∃ b,(s.toList == [110,117,108,108])=b:=⟨_,rfl⟩
 obtain ⟨b2,h2⟩:∃ b,(s.toList == [116,114,117,101])=b:=⟨_,rfl⟩
 obtain ⟨b3,h3⟩:∃ b,(s.toList == [102,97,108,115,101])=b:=⟨_,rfl⟩
 have hr:=Hd (enum_said h0 h1 h2 h3)
 rw [h0] at hN
 have HN:=fun wx=>Hd (hN wx)
 clear hN h0
 cases b0<;>cases b1<;>cases b2<;>cases b3
 all_goals
  go_enter Tryz.func228,Tryz.ntmps228
  go_wp2_with (go_at_call 17;refine (HN _).out.mono ?_;rintro e w1 ⟨rfl,rfl⟩)
  go_ret
  exact ⟨ret_bool (by rw [hr.out];rfl),Below.refl _ _⟩
end Go.Proofs.YtaekdfcpbepepaaGreatDoor
