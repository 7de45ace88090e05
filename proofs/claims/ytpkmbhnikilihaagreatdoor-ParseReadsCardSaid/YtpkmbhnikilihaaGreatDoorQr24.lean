/- The document's reader of values: maps. (gen_prlist.py wrote it.) -/
import Derived.Test.YtpkmbhnikilihaaGreatDoorQr23
set_option maxRecDepth 100000
set_option maxHeartbeats 8000000
namespace Go.Proofs.YtpkmbhnikilihaaGreatDoor
open Go.RowKit
variable {nT:Nat}
theorem Ylo (N : Nat) (IH:Ynb nT N) (fx:Bool) (d r:Nat) (tx:ByteArray) (us:List Tok) (w:World) (hG:Ze ((1,tx) :: us)) (hN:us.length≤N) (hd:d≤16) (hb0:isS 1 X9 (.ok ((1,tx) :: us))=false) (hb1:isS 1 oB (.ok ((1,tx) :: us))=false) (hb:isS 1 omB (.ok ((1,tx) :: us))=true) (h:RP nT w r d (.ok ((1,tx) :: us))):Calls Tryz.prog 50 #[.pointer (some ⟨r,0,none⟩),.bool fx] w (Zy5 nT fx d r (.ok ((1,tx) :: us)) w):=by
 obtain ⟨i0,hi,hz0,hz1,hz2⟩:=info_parts Ak
 have HR:=Hd (Yh2 fx d hb)
 have HIH:=Hd IH
 have HD:=Hd hd
 have hln:us.length≤200000:=by obtain ⟨_,_,_,_,_,_,_,h1,_,_,_,h2⟩:=h;have:=congrArg List.length h2.2.2;simp at this;omega
 have HOK:Hid (∀ ts,Li d omB (.ok ((1,tx) :: us))=.ok ts→ts=us∧d+1≤16):=Hd (fun ts e=>by
  by_cases h16:d=16
  · rw [Bv hb h16] at e;cases e
  · rw [Od (fun hh=>h16 hh.2)] at e
    obtain ⟨t9,ts9,e9,e8⟩:=Xh hb
    rw [e8] at e
    have e9:=Except.ok.inj e9
    have e:=Except.ok.inj e
    injection e9 with _ e9
    exact ⟨by rw [← e,← e9],by omega⟩)
 obtain ⟨Kc,hKc⟩:∃ K,msS fx (d+1) .nil (Li d omB (.ok ((1,tx) :: us)))=K:=⟨_,rfl⟩
 rw [hKc] at HR
 have HKC:=Hd hKc
 have HG:=Hd (show Ze us from fun t ht=>hG t (List.mem_cons_of_mem _ ht))
 have K0:=Hd (Q0.start h #[.int .i64 0,.int .i64 0,.string ⟨#[]⟩,.slice none 0 0,.slice none 0 0] 35)
 have HP:Hid (Calls Tryz.prog 107 #[.pointer (some ⟨r,0,none⟩)] (w.alloc (.cells #[.int .i64 0,.int .i64 0,.string ⟨#[]⟩,.slice none 0 0,.slice none 0 0] 35)) fun e w'=>e=.returned (.agg #[.int .i64 1,.string tx])∧Below (w.alloc (.cells #[.int .i64 0,.int .i64 0,.string ⟨#[]⟩,.slice none 0 0,.slice none 0 0] 35)).heap.size (w.alloc (.cells #[.int .i64 0,.int .i64 0,.string ⟨#[]⟩,.slice none 0 0,.slice none 0 0] 35)) w'):=Hd (Fw r d _ _ K0.out.rd)
 have HB:=Hd (And.intro hb0 (And.intro hb1 hb))
 clear h hG hd hKc IH hb hb1 hb0
 go_enter Tryz.func50,Tryz.ntmps50
 go_wp2_with fail
 refine HP.out.mono ?_
 rintro e w1 ⟨rfl,hb1⟩
 have K1:=Hd (K0.out.next (K0.out.rd.below hb1) (Z0.of_below hb1))
 have K2:=Hd (K1.out.next (K1.out.rd.below (blw w1 (.cells #[.int .i64 1,.string tx] 70))) (Z0.of_below (blw w1 (.cells #[.int .i64 1,.string tx] 70))))
 have I2:=Hd (ris r d _ X9 _ K2.out.rd)
 rw [HB.out.1] at I2
 clear hb1
 go_wp2_with fail
 refine I2.out.mono ?_
 rintro e w3 ⟨rfl,hb3⟩
 have K3:=Hd (K2.out.next (K2.out.rd.below hb3) (Z0.of_below hb3))
 have I3:=Hd (ris r d _ oB _ K3.out.rd)
 rw [HB.out.2.1] at I3
 clear hb3 I2
 go_wp2_with fail
 refine I3.out.mono ?_
 rintro e w4 ⟨rfl,hb4⟩
 have K4:=Hd (K3.out.next (K3.out.rd.below hb4) (Z0.of_below hb4))
 clear hb4 I3
 have I4:=Hd (ris r d _ omB _ K4.out.rd)
 rw [HB.out.2.2] at I4
 go_wp2_with fail
 refine I4.out.mono ?_
 rintro e w5 ⟨rfl,hb5⟩
 have K5:=Hd (K4.out.next (K4.out.rd.below hb5) (Z0.of_below hb5))
 have HO:=Hd (Yik r d _ omB w5 HD.out K5.out.rd)
 clear hb5 I4
 go_wp2_with fail
 refine HO.out.mono ?_
 rintro e w6 ⟨rfl,h6,m6⟩
 have K6:=Hd (Q1.make (K5.out.next h6 m6) #[.int .i64 7,.int .i64 0,.string ⟨#[]⟩,.slice none 0 0,.slice none 0 0] 35)
 clear h6 m6 HO
 obtain ⟨b8,hb8⟩:∃ b,w6.heap.size=b:=⟨_,rfl⟩
 rw [hb8] at K6
 go_wp2_with fail
 clear hb8
 go_loopg [] (us.length+1) (fun g wx=>∃ (Sx:StP) (l:VM) (T:TrL) (V:Value),(∀ ts,Sx=.ok ts→ts.length < g∧T.len+ts.length≤200000)∧T.len≤200001∧Aside (Q1 nT w r wx (.cells #[.int .i64 0,.int .i64 0,.string ⟨#[]⟩,.slice none 0 0,.slice none 0 0] 35 (0,0)) b8 (.cells #[.int .i64 7,.int .i64 0,.string ⟨#[]⟩,.slice none 0 0,V] 35 (0,0)) Sx (d+1)∧RTr 98 6 (b8+1) wx V T∧msS fx (d+1) l Sx=Kc∧∀ ts,Sx=.ok ts→T=Jf l∧Ze ts∧ts.length≤N∧d+1≤16))
 case atStart =>
  refine ⟨_,.nil,.nil,.slice none 0 0,fun ts e=>?_,Nat.zero_le _,Zu ⟨K6.out,RTr.start _ _ _ _,HKC.out,fun ts e=>?_⟩⟩
  · obtain ⟨rfl,_⟩:=HOK.out ts e
    exact ⟨by omega,by show 0+_≤_;omega⟩
  · obtain ⟨rfl,h16⟩:=HOK.out ts e
    exact ⟨rfl,HG.out,hN,h16⟩
 case round =>
  obtain ⟨Sx,l,T,V,hms,hTl,HA⟩:=hrel
  have KX:=Hd HA.out.1
  have HRR:=Hd HA.out.2.1
  have HKX:=Hd HA.out.2.2.1
  have HFX:=Hd HA.out.2.2.2
  clear HA K6
  obtain ⟨Ao,co,rfl⟩:=HRR.out.shape
  obtain ⟨A,n,c,p,dd,x0,h0,h1,h2⟩:=KX.out.rd.cells
  obtain ⟨c0,c1,c2,c3,cz⟩:=Z8 h0
  clear cz h0
  rcases Sx with y|ts
  · obtain ⟨rfl,hy⟩:=h2
    have t1:(x0 == 0)=false:=by simpa using hy
    have hs7:=Hd (Zvn r d (.error x0) cmB _ HD.out KX.out.rd)
    have HKX:=Hd (show (.error x0:Except Int (VM × List Tok))=Kc from HKX.out)
    clear hy h1 hms
    go_wp2_with fail
    refine hs7.out.mono ?_
    rintro e w7 ⟨rfl,hh7,mm7⟩
    have M7:=Hd mm7
    clear c0 c1 c2 c3
    have K7:=Hd (KX.out.next hh7 mm7)
    obtain ⟨k0,k1,k2,k3,k4,kz⟩:=gvc K7.out.loc
    obtain ⟨q0,q1,q2,q3,q4,qz⟩:=gvc K7.out.res
    have qf0:=qz 0
    have qf1:=qz 1
    have qf2:=qz 2
    have qf3:=qz 3
    have qf4:=qz 4
    clear hh7 mm7 kz qz
    go_wp2_with fail
    have F:=K7.out.fin (ys:=vaZ) [.int .i64 7,.int .i64 0,.string ⟨#[]⟩,.slice none 0 0,.slice Ao T.len co] rfl
    have TT:=Qp (w:=w) (RTr.moved HRR.out M7.out (by have:=KX.out.rb;omega)) (by omega) (by have:=KX.out.bl;omega) [.int .i64 7,.int .i64 0,.string ⟨#[]⟩,.slice none 0 0,.slice Ao T.len co]
    refine Y8 (cs:=[.int .i64 7,.int .i64 0,.string ⟨#[]⟩,.slice none 0 0,.slice Ao T.len co]) rfl rfl rfl F.1 Tryz.underlying35 ⟨_,rfl⟩ (by kernel_rfl) ?_
    have hk:=HKX.out
    refine ⟨_,_,_,_,_,_,_,_,_,rfl,⟨.cons (.one (.int .i64 7)) (.cons (.one (.int .i64 0)) (.cons (.one (.string ⟨#[]⟩)) (.cons (.row .nil) (.cons (.row T) .nil)))),TS.int (TS.int (TS.str (Nat.zero_le _) (TS.row (TP.none _ _) (TS.row TT (TS.nil _ _))))),fun a us e=>?_⟩,?_,F.2.2⟩
    · rw [HR.out,← hk] at e
      cases e
    · rw [HR.out,← hk]
      exact F.2.1
  · obtain ⟨rfl,rfl⟩:=h2
    have HF:=Hd (HFX.out ts rfl)
    obtain ⟨hg1,hg2⟩:=hms ts rfl
    have hi7:=Hd (ris r (d+1) (.ok ts) cmB _ KX.out.rd)
    cases hc:isS 1 cmB (.ok ts) with
    | true =>
      rw [hc] at hi7
      have HC:=Hd hc
      clear hc h1 hms
      go_wp2_with fail
      refine hi7.out.mono ?_
      rintro e w6' ⟨rfl,hb6⟩
      have KX':=Hd (KX.out.next (KX.out.rd.below hb6) (Z0.of_below hb6))
      have HRR':=Hd (HRR.out.moved (Z0.of_below (r:=r) hb6) (by have:=KX.out.rb;omega))
      have hs7:=Hd (Zvn r d (.ok ts) cmB _ HD.out KX'.out.rd)
      clear hb6 c0 c1 c2 c3 KX HRR
      have KX:=KX'
      have HRR:=HRR'
      go_wp2_with fail
      refine hs7.out.mono ?_
      rintro e w7 ⟨rfl,hh7,mm7⟩
      have M7:=Hd mm7
      have K7:=Hd (KX.out.next hh7 mm7)
      obtain ⟨k0,k1,k2,k3,k4,kz⟩:=gvc K7.out.loc
      obtain ⟨q0,q1,q2,q3,q4,qz⟩:=gvc K7.out.res
      have qf0:=qz 0
      have qf1:=qz 1
      have qf2:=qz 2
      have qf3:=qz 3
      have qf4:=qz 4
      clear hh7 mm7 kz qz
      go_wp2_with fail
      have F:=K7.out.fin (ys:=vaZ) [.int .i64 7,.int .i64 0,.string ⟨#[]⟩,.slice none 0 0,.slice Ao T.len co] rfl
      have TT:=Qp (w:=w) (RTr.moved HRR.out M7.out (by have:=KX.out.rb;omega)) (by omega) (by have:=KX.out.bl;omega) [.int .i64 7,.int .i64 0,.string ⟨#[]⟩,.slice none 0 0,.slice Ao T.len co]
      refine Y8 (cs:=[.int .i64 7,.int .i64 0,.string ⟨#[]⟩,.slice none 0 0,.slice Ao T.len co]) rfl rfl rfl F.1 Tryz.underlying35 ⟨_,rfl⟩ (by kernel_rfl) ?_
      have hk:=HKX.out
      rw [Ymb HC.out] at hk
      refine ⟨_,_,_,_,_,_,_,_,_,rfl,⟨.cons (.one (.int .i64 7)) (.cons (.one (.int .i64 0)) (.cons (.one (.string ⟨#[]⟩)) (.cons (.row .nil) (.cons (.row T) .nil)))),TS.int (TS.int (TS.str (Nat.zero_le _) (TS.row (TP.none _ _) (TS.row TT (TS.nil _ _))))),fun a us e=>?_⟩,?_,F.2.2⟩
      · rw [HR.out,← hk] at e
        obtain ⟨a2,e2,rfl⟩:=Jp e
        obtain ⟨a3,e3,rfl⟩:=Jp e2
        rw [HF.out.1]
        rfl
      · rw [HR.out,← hk,Yc,Yc,show Yk (Za (fun ts=>Except.ok ((),ts)) (tkS cmB (.ok ts)))=tkS cmB (.ok ts) from Jn _]
        exact F.2.1
    | false =>
      rw [hc] at hi7
      have HNX:=Hd (by have hk:=HKX.out;rw [Ykx hc] at hk;exact hk)
      cases gk with
      | zero=>omega
      | succ g =>
        clear hc h1 hms
        go_wp2_with fail
        refine hi7.out.mono ?_
        rintro e w6' ⟨rfl,hb6⟩
        have KX':=Hd (KX.out.next (KX.out.rd.below hb6) (Z0.of_below hb6))
        have HRR':=Hd (HRR.out.moved (Z0.of_below (r:=r) hb6) (by have:=KX.out.rb;omega))
        have CV:=fun wx (hb:Below w6'.heap.size w6' wx)=>Hd (HIH.out fx (d+1) (.ok ts) r wx (fun us e=>by rw [← Except.ok.inj e];exact HF.out.2.1) (fun us e=>by rw [← Except.ok.inj e];exact HF.out.2.2.1) HF.out.2.2.2 (KX'.out.rd.below hb))
        clear hb6 c0 c1 c2 c3 KX HRR
        have KX:=KX'
        obtain ⟨m0,m1,m2,m3,m4,mz⟩:=gvc KX.out.loc
        have z3:=mz 4
        obtain ⟨xs,P,hown,hvals,hP⟩:=HRR'.out
        have HVB:Hid (∀ c,(Value.slice Ao T.len co).ownBlock=some c→b8 < c):=Hd (fun c hc=>by have:=(hown.lt c hc).1;omega)
        have HRT:=Hd (And.intro hown (And.intro hvals hP))
        clear mz hown hvals hP
        go_wp2_with fail
        refine wp_region_held_drew (S:=fun _=>True) (by kernel_rfl) trivial (fun _=>?_)
        refine tkE (i:=0) (v:=?_) rfl (Or.inl ⟨by rfl,?_⟩) ?_
        rotate_left
        · (intro w _;go_simp;try with_reducible rfl)
        simp only [Act.put,List.setIfInBounds_toArray]
        refine tkE (i:=2) (v:=?_) rfl (Or.inl ⟨by rfl,?_⟩) ?_
        rotate_left
        · (intro w _;go_simp;try with_reducible rfl)
        simp only [Act.put]
        refine tkE (i:=3) (v:=?_) rfl (Or.inl ⟨by rfl,?_⟩) ?_
        rotate_left
        · (intro w _;go_simp;try with_reducible rfl)
        simp only [Act.put]
        refine rd2E 1 4 rfl rfl (fun K hK=>?_) (fun K hK=>?_)
        focus
          go_simp
          refine hK.out _ _ trivial (fun _=>?_)
          clear hK K
          try simp only [Act.put,stT,stZ,stS]
          refine rd1E 4 rfl (fun K hK=>?_)
          go_simp
          go_at_call 126
          refine (CV _ (Below.drew (Below.refl _ _))).out.mono ?_
          rintro e w3 ⟨nm,vk,vn,vs,A3,n3,k3,A4,n4,k4,rfl,⟨xt,hts,hxe⟩,r3,m3⟩
          have HM3:=Hd ((Z0.of_below (r:=r) (Below.drew (Below.refl _ _))).trans m3)
          have HTS:=Hd hts
          have HXE:=Hd hxe
          have K3:=Hd (KX.out.next r3 HM3.out)
          clear hts hxe r3 m3
          obtain ⟨j0,j1,j2,j3,j4,jz⟩:=gvc K3.out.loc
          have y3:=jz 4
          have jA:=fun o=>(World.cell?_of_block (a:=⟨b8,4,none⟩) (Below.heap_alloc w3 o _ K3.out.blt)).trans j4
          clear jz m0 m1 m2 m3 m4 z3
          go_wp2_with fail
          refine hK.out _ _ trivial (fun _=>?_)
          clear hK K
          try simp only [Act.put,stT,stZ,stS]
          refine rdE (rs:=[5]) ?_
        rotate_left
        focus
          go_simp
          go_at_call 126
          refine (CV _ (Below.drew (Below.refl _ _))).out.mono ?_
          rintro e w3 ⟨nm,vk,vn,vs,A3,n3,k3,A4,n4,k4,rfl,⟨xt,hts,hxe⟩,r3,m3⟩
          have HM3:=Hd ((Z0.of_below (r:=r) (Below.drew (Below.refl _ _))).trans m3)
          have HTS:=Hd hts
          have HXE:=Hd hxe
          have K3:=Hd (KX.out.next r3 HM3.out)
          clear hts hxe r3 m3
          obtain ⟨j0,j1,j2,j3,j4,jz⟩:=gvc K3.out.loc
          have y3:=jz 4
          have jA:=fun o=>(World.cell?_of_block (a:=⟨b8,4,none⟩) (Below.heap_alloc w3 o _ K3.out.blt)).trans j4
          clear jz m0 m1 m2 m3 m4 z3
          go_wp2_with fail
          refine hK.out _ _ trivial (fun _=>?_)
          clear hK K
          try simp only [Act.put,stT,stZ,stS]
          refine rd2E 1 5 rfl rfl (fun K hK=>?_) (fun K hK=>?_)
          focus
           go_simp
           refine hK.out _ _ trivial (fun _=>?_)
           clear hK K
           try simp only [Act.put,stT,stZ,stS]
           refine rdE (rs:=[5]) ?_
          rotate_left
          focus
           go_simp
           refine hK.out _ _ trivial (fun _=>?_)
           clear hK K
           try simp only [Act.put,stT,stZ,stS]
           refine rdE (rs:=[1]) ?_
        all_goals
          refine AllReadyH.cons rfl (fun K hK=>?_) AllReadyH.nil
          go_simp
          refine hK.out _ _ trivial (fun _=>?_)
          clear hK K
          try simp only [Act.put,stT,stZ,stS]
          refine rd1E 6 rfl (fun K hK=>?_)
          refine step_append_lies _ (by rfl) _ _ 33 (by rfl) (b8+1) 98 i0 (.agg #[.string ⟨#[]⟩,.int .i64 0,.int .i64 0,.string ⟨#[]⟩,.slice none 0 0,.slice none 0 0]) 6 96 Tryz.underlying33 hi hz0 hz1 hz2 (by rfl) (by decide) _ T.len xs (by rfl) (Xn (Xu HRT.out.1 HM3.out (by have:=KX.out.rb;omega)) ((Below.refl _ _).alloc (Nat.le_refl _) _)) _ 1 1 [.string nm,.int .i64 vk,.int .i64 vn,.string vs,.slice A3 n3 k3,.slice A4 n4 k4] (by rfl) (by rfl) (Sn _ _ _ (by first|rfl|(simp;done))) (by intro y hy;simp at hy;rcases hy with rfl|rfl|rfl|rfl|rfl|rfl<;>rfl) (by decide) (by unfold maxLen;omega) (by omega) (by have h1:=K3.out.blt;simp;omega) _ rfl ?_
          intro gg cap2 w4 hown4 hgrow hat hlt4
          have HG4:=Hd hgrow
          have HO4:=Hd hown4
          have HT4:=Hd hat
          have K4:=Hd (K3.out.grown hgrow HVB.out)
          obtain ⟨x0,x1,x2,x3,x4,xz⟩:=gvc K4.out.loc
          have u3:=xz 4
          clear hgrow hown4 hat xz j0 j1 j2 j3 j4 y3 jA
          refine hK.out _ _ trivial (fun _=>?_)
          clear hK K
          simp only [Act.put,List.setIfInBounds_toArray]
          refine rd1E 7 rfl (fun K hK=>?_)
          go_simp
          refine hK.out _ _ trivial (fun _=>?_)
          clear hK K
          try simp only [Act.put,stT,stZ,stS]
          refine rd1E 8 rfl (fun K hK=>?_)
          go_simp
          refine hK.out _ _ trivial (fun _=>?_)
          clear hK K
          try simp only [Act.put,stT,stZ,stS]
          refine wpAnyH_done (by kernel_rfl) ?_ _
          go_wp2_with fail
          have T4:=RTr.app (by have:=KX.out.rb;omega) (Nat.succ_le_of_lt KX.out.blt) HRT.out.1 HRT.out.2.1 HRT.out.2.2 HM3.out HTS.out HO4.out HG4.out HT4.out
          have hrun:=HNX.out
          go_roundg g
          case measure=>omega
          case rel =>
           rcases hR1:Za (Cy fx (d+1)) (.ok ts) with y|a
           · rw [hR1] at hrun
             have K5:=K4.out.put 4 (.slice (some ⟨gg,0,none⟩) (T.len+1) cap2)
             rw [hR1] at K5
             exact ⟨.error y,l,T.snoc xt,_,(fun us e=>by cases e),by rw [TrL.snoc_len];omega,Zu ⟨K5,T4.moved Z0.set (Nat.lt_succ_self _),hrun,fun us e=>by cases e⟩⟩
           · rw [hR1] at hrun
             have K5:=K4.out.put 4 (.slice (some ⟨gg,0,none⟩) (T.len+1) cap2)
             rw [hR1] at K5
             have hsf:=An hR1
             refine ⟨.ok a.2,l.snoc a.1.1 a.1.2,T.snoc xt,_,(fun us e=>?_),by rw [TrL.snoc_len];omega,Zu ⟨K5,T4.moved Z0.set (Nat.lt_succ_self _),hrun,fun us e=>?_⟩⟩
             · have e:=Except.ok.inj e
               subst e
               have:=hsf.2
               rw [TrL.snoc_len]
               exact ⟨by omega,by omega⟩
             · have e:=Except.ok.inj e
               subst e
               have hf:=HF.out.1
               refine ⟨?_,Zr hsf.1 HF.out.2.1,Nat.le_trans (Nat.le_of_lt hsf.2) HF.out.2.2.1,HF.out.2.2.2⟩
               rw [hf,HXE.out a.1 a.2 (by rw [hR1])]
               exact (Fl l a.1.1 a.1.2).symm
variable {nT:Nat}
theorem Yjo {s t:ByteArray} {ts:List Tok} (h:atB 1 s ts=true) (hne:(s.data.toList == t.data.toList)=false):atB 1 t ts=false:=by
 rcases ts with _|⟨u,us⟩
 · cases h
 · have e:(u.1 == 1 && (u.2.toList == s.toList))=true:=h
   rw [Bool.and_eq_true] at e
   have e2:u.2.toList=s.toList:=by simpa using e.2
   show (u.1 == 1 && (u.2.toList == t.toList))=false
   rw [e2,e.1,Lib.toList_data,Lib.toList_data,hne];rfl
theorem Q6 {s t:ByteArray} {S:StP} (h:isS 1 s S=true) (hne:(s.data.toList == t.data.toList)=false):isS 1 t S=false:=by
 rcases S with y|ts
 · cases h
 · exact Yjo h hne
theorem Yga (d:Nat) {S:StP} (h:isS 1 X9 S=true):Za (Uq false d) S=Eh (fun _=>.mk 8 0 (nmV (tkS X9 S)) .nil .nil) (Za Zv7 (nmS (tkS X9 S))):=by
 have h0:=Q6 (t:=oB) h (by decide)
 have h1:=Q6 (t:=omB) h (by decide)
 obtain ⟨t,ts,rfl,h2⟩:=Xh h
 have a0:atB 1 oB (t :: ts)=false:=h0
 have a1:atB 1 omB (t :: ts)=false:=h1
 have a2:atB 1 X9 (t :: ts)=true:=h
 rw [h2]
 show Uq false d (t :: ts)=_
 rw [Ww]
 simp only [ifR,Ymp,a0,a1,a2,Bool.false_eq_true,if_false,if_true,List.tail_cons,nmR,nmS,nmV]
 cases Zb ts<;>rfl
theorem Ygw (fx:Bool) (d:Nat) {S:StP} (h0:isS 1 oB S=false) (h1:isS 1 omB S=false) (h2:(isS 1 X9 S && !fx)=false) (h3:∀ t ts,S=.ok (t :: ts)→Zo t=none):(∀ a ts,Za (Uq fx d) S ≠ .ok (a,ts))∧Yk (Za (Uq fx d) S)=B7 2 S:=by
 rcases S with y|ts
 · exact ⟨fun a ts h=>(by cases h),rfl⟩
 · have a0:atB 1 oB ts=false:=h0
   have a1:atB 1 omB ts=false:=h1
   have a2:(atB 1 X9 ts && !fx)=false:=h2
   have h1:Zqa ts=.error 2:=by
     rcases ts with _|⟨t,us⟩
     · rfl
     · exact Zzm (h3 t us rfl)
   have e:Uq fx d ts=.error 2:=by
     rw [Ww]
     simp only [ifR,a0,a1,Bool.false_eq_true,if_false]
     cases fx with
     | true=>rw [if_pos rfl];exact h1
     | false =>
       have a3:atB 1 X9 ts=false:=by simpa using a2
       rw [if_neg (by simp)]
       simp only [Ymp,ifR,a3,Bool.false_eq_true,if_false]
       exact h1
   refine ⟨fun a us h=>?_,?_⟩
   · have h:Uq fx d ts=.ok (a,us):=h
     rw [e] at h;cases h
   · show Yk (Uq fx d ts)=_
     rw [e];rfl
theorem Zql {w:World} {P:Nat→Prop} {k n:Int} {s:ByteArray} (hs:s.size≤9000):TS w P (Lm (.mk k n s .nil .nil)) [.int .i64 k,.int .i64 n,.string s,.slice none 0 0,.slice none 0 0]:=
 TS.int (TS.int (TS.str hs (TS.row (TP.none _ _) (TS.row (TP.none _ _) (TS.nil _ _)))))
theorem Eg {fx:Bool} {d r:Nat} {t:Tok} {ts:List Tok} {k n:Int} {s:ByteArray} {w w':World} {e:Ending} (h1:t.1 ≠ 1) (h:Zo t=some (k,n,s)) (hs:s.size≤9000) (hf:Cl nT r d ts k n s w e w'):Zy5 nT fx d r (.ok (t :: ts)) w e w':=by
 obtain ⟨rfl,h2,h3⟩:=hf
 have hr:Za (Uq fx d) (.ok (t :: ts))=.ok (.mk k n s .nil .nil,ts):=Zyp fx d ts h1 h
 refine ⟨_,_,_,_,_,_,_,_,_,rfl,⟨_,Zql hs,fun a us e=>?_⟩,by rw [hr];exact h2,h3⟩
 rw [hr] at e
 have e:=(Prod.mk.inj (Except.ok.inj e)).1
 rw [← e]
theorem Ymm (d r:Nat) (tx:ByteArray) (us:List Tok) (w:World) (hG:Ze us) (hb:isS 1 X9 (.ok ((1,tx) :: us))=true) (h:RP nT w r d (.ok ((1,tx) :: us))):Calls Tryz.prog 50 #[.pointer (some ⟨r,0,none⟩),.bool false] w (Zy5 nT false d r (.ok ((1,tx) :: us)) w):=by
 have HR:=Hd (Yga d hb)
 have hns:(nmV (tkS X9 (.ok ((1,tx) :: us)))).size≤9000:=by
   obtain ⟨t9,ts9,e9,e8⟩:=Xh hb
   rw [e8]
   have e9:=Except.ok.inj e9
   injection e9 with _ e9
   subst e9
   simp only [nmV]
   cases hn:Zb us with
   | none=>exact Nat.zero_le _
   | some a=>exact (hG.name (s:=a.1) (r:=a.2) hn).1
 have HNS:=Hd hns
 have K0:=Hd (Q0.start h #[.int .i64 0,.int .i64 0,.string ⟨#[]⟩,.slice none 0 0,.slice none 0 0] 35)
 have HP:Hid (Calls Tryz.prog 107 #[.pointer (some ⟨r,0,none⟩)] (w.alloc (.cells #[.int .i64 0,.int .i64 0,.string ⟨#[]⟩,.slice none 0 0,.slice none 0 0] 35)) fun e w'=>e=.returned (.agg #[.int .i64 1,.string tx])∧Below (w.alloc (.cells #[.int .i64 0,.int .i64 0,.string ⟨#[]⟩,.slice none 0 0,.slice none 0 0] 35)).heap.size (w.alloc (.cells #[.int .i64 0,.int .i64 0,.string ⟨#[]⟩,.slice none 0 0,.slice none 0 0] 35)) w'):=Hd (Fw r d _ _ K0.out.rd)
 have HB:=Hd hb
 clear h hG hns hb
 go_enter Tryz.func50,Tryz.ntmps50
 go_wp2_with fail
 refine HP.out.mono ?_
 rintro e w1 ⟨rfl,hb1⟩
 have K1:=Hd (K0.out.next (K0.out.rd.below hb1) (Z0.of_below hb1))
 have K2:=Hd (K1.out.next (K1.out.rd.below (blw w1 (.cells #[.int .i64 1,.string tx] 70))) (Z0.of_below (blw w1 (.cells #[.int .i64 1,.string tx] 70))))
 have I2:=Hd (ris r d _ X9 _ K2.out.rd)
 rw [HB.out] at I2
 clear hb1
 go_wp2_with fail
 refine I2.out.mono ?_
 rintro e w3 ⟨rfl,hb3⟩
 have K3:=Hd (K2.out.next (K2.out.rd.below hb3) (Z0.of_below hb3))
 have T3:=Hd (Id r d _ X9 _ K3.out.rd)
 clear hb3 I2
 go_wp2_with fail
 refine T3.out.mono ?_
 rintro e w4 ⟨rfl,h4,m4⟩
 have K4:=Hd (K3.out.next h4 m4)
 have N4:=Hd (L2 r d _ _ K4.out.rd)
 clear h4 m4 T3
 go_wp2_with fail
 refine N4.out.mono ?_
 rintro e w5 ⟨rfl,h5,m5⟩
 have K5:=Hd (K4.out.next h5 m5)
 obtain ⟨q0,q1,q2,q3,q4,qz⟩:=gvc K5.out.res
 have qf0:=qz 0
 have qf1:=qz 1
 have qf2:=qz 2
 have qf3:=qz 3
 have qf4:=qz 4
 clear h5 m5 N4 qz
 go_wp2_with fail
 have F:=K5.out.fin (ys:=vaZ) [.int .i64 8,.int .i64 0,.string (nmV (tkS X9 (.ok ((1,tx) :: us)))),.slice none 0 0,.slice none 0 0] rfl
 refine Y8 (cs:=[.int .i64 8,.int .i64 0,.string (nmV (tkS X9 (.ok ((1,tx) :: us)))),.slice none 0 0,.slice none 0 0]) rfl rfl rfl F.1 Tryz.underlying35 ⟨_,rfl⟩ (by kernel_rfl) ?_
 refine ⟨_,_,_,_,_,_,_,_,_,rfl,⟨_,Zql HNS.out,fun a ts e=>?_⟩,?_,F.2.2⟩
 · rw [HR.out] at e
   obtain ⟨_,rfl⟩:=Wq e
   rfl
 · rw [HR.out,Yc,Jn]
   exact F.2.1
theorem Yax (fx:Bool) (d r:Nat) (S:StP) (w:World) (e2:((V6 S).1 == 2)=false) (e3:((V6 S).1 == 3)=false) (e4:((V6 S).1 == 4)=false) (e5:((V6 S).1 == 5)=false) (h0:isS 1 oB S=false) (h1:isS 1 omB S=false) (h2:(isS 1 X9 S && !fx)=false) (h:RP nT w r d S):Calls Tryz.prog 50 #[.pointer (some ⟨r,0,none⟩),.bool fx] w (Zy5 nT fx d r S w):=by
 have HR:=Hd (Ygw fx d h0 h1 h2 (fun t ts e=>by
  subst e
  have e2:(t.1 == 2)=false:=e2
  have e3:(t.1 == 3)=false:=e3
  have e4:(t.1 == 4)=false:=e4
  have e5:(t.1 == 5)=false:=e5
  unfold Zo
  rw [if_neg (by simpa using e2),if_neg (by simpa using e3),if_neg (by simpa using e4),if_neg (by simpa using e5)]))
 have K0:=Hd (Q0.start h #[.int .i64 0,.int .i64 0,.string ⟨#[]⟩,.slice none 0 0,.slice none 0 0] 35)
 have HP:=Hd (Fw r d S _ K0.out.rd)
 have HB:=Hd (And.intro h0 h1)
 obtain ⟨q,hq⟩:∃ q,V6 S=q:=⟨_,rfl⟩
 rw [hq] at HP e2 e3 e4 e5
 obtain ⟨tk,tx⟩:=q
 dsimp only at HP e2 e3 e4 e5
 obtain ⟨bd,hbd⟩:∃ b,isS 1 X9 S=b:=⟨_,rfl⟩
 rw [hbd] at h2
 have HBD:=Hd hbd
 clear h hq h0 h1 hbd
 go_enter Tryz.func50,Tryz.ntmps50
 go_wp2_with fail
 refine HP.out.mono ?_
 rintro e w1 ⟨rfl,hb1⟩
 have K1:=Hd (K0.out.next (K0.out.rd.below hb1) (Z0.of_below hb1))
 have K2:=Hd (K1.out.next (K1.out.rd.below (blw w1 (.cells #[.int .i64 tk,.string tx] 70))) (Z0.of_below (blw w1 (.cells #[.int .i64 tk,.string tx] 70))))
 have I2:=Hd (ris r d _ X9 _ K2.out.rd)
 rw [HBD.out] at I2
 clear hb1
 go_wp2_with fail
 refine I2.out.mono ?_
 rintro e w3 ⟨rfl,hb3⟩
 have K3:=Hd (K2.out.next (K2.out.rd.below hb3) (Z0.of_below hb3))
 have I3:=Hd (ris r d _ oB _ K3.out.rd)
 rw [HB.out.1] at I3
 have hcase:bd=false∨(bd=true∧fx=true):=by cases bd<;>cases fx<;>simp_all
 clear hb3 I2 h2
 rcases hcase with rfl|⟨rfl,rfl⟩
 all_goals
  go_wp2_with fail
  refine I3.out.mono ?_
  rintro e w4 ⟨rfl,hb4⟩
  have K4:=Hd (K3.out.next (K3.out.rd.below hb4) (Z0.of_below hb4))
  have I4:=Hd (ris r d _ omB _ K4.out.rd)
  rw [HB.out.2] at I4
  clear hb4
  go_wp2_with fail
  refine I4.out.mono ?_
  rintro e w5 ⟨rfl,hb5⟩
  have K5:=Hd (K4.out.next (K4.out.rd.below hb5) (Z0.of_below hb5))
  have F5:=Hd (Rm r d _ 2 (by decide) _ K5.out.rd)
  clear hb5
  go_wp2_with fail
  refine F5.out.mono ?_
  rintro e w6 ⟨rfl,h6,m6⟩
  have K6:=Hd (K5.out.next h6 m6)
  obtain ⟨q0,q1,q2,q3,q4,qz⟩:=gvc K6.out.res
  have qf0:=qz 0
  have qf1:=qz 1
  have qf2:=qz 2
  have qf3:=qz 3
  have qf4:=qz 4
  clear h6 m6 qz
  go_wp2_with fail
  have F:=K6.out.fin (ys:=vaZ) [.int .i64 0,.int .i64 0,.string ⟨#[]⟩,.slice none 0 0,.slice none 0 0] rfl
  refine Y8 (cs:=[.int .i64 0,.int .i64 0,.string ⟨#[]⟩,.slice none 0 0,.slice none 0 0]) rfl rfl rfl F.1 Tryz.underlying35 ⟨_,rfl⟩ (by kernel_rfl) ?_
  refine ⟨_,_,_,_,_,_,_,_,_,rfl,⟨_,Zql (Nat.zero_le _),fun a ts e=>absurd e (HR.out.1 a ts)⟩,?_,F.2.2⟩
  rw [HR.out.2]
  exact F.2.1
theorem Ylc {s:ByteArray} {l:List UInt8} : (s.data.toList=l) ↔ (s.toList == l)=true:=by
 rw [Lib.toList_data];simp
theorem Ybt (N : Nat) (IHV:Yld nT N) (IHM:Ynb nT N):Yld nT (N+1):=by
 intro fx d S r w hG hL hd h
 by_cases hk:(V6 S).1=0∨(V6 S).1=1∨((V6 S).1 ≠ 2∧(V6 S).1 ≠ 3∧(V6 S).1 ≠ 4∧(V6 S).1 ≠ 5)
 · have e2 : ((V6 S).1 == 2)=false:=by simp;omega
   have e3:((V6 S).1 == 3)=false:=by simp;omega
   have e4:((V6 S).1 == 4)=false:=by simp;omega
   have e5:((V6 S).1 == 5)=false:=by simp;omega
   cases h0:isS 1 oB S with
   | true =>
     have hdl:=Q6 (t:=X9) h0 (by decide)
     obtain ⟨t,ts,rfl,_⟩:=Xh h0
     obtain ⟨tk,tx⟩:=t
     have:tk=1:=by
       have e:(tk == 1 && (tx.toList == oB.toList))=true:=h0
       rw [Bool.and_eq_true] at e
       simpa using e.1
     subst this
     exact Yiw N IHV fx d r tx ts w (hG _ rfl) (by have:=hL _ rfl;simpa using this) hd hdl h0 h
   | false =>
     cases h1:isS 1 omB S with
     | true =>
       have hdl:=Q6 (t:=X9) h1 (by decide)
       obtain ⟨t,ts,rfl,_⟩:=Xh h1
       obtain ⟨tk,tx⟩:=t
       have:tk=1:=by
         have e:(tk == 1 && (tx.toList == omB.toList))=true:=h1
         rw [Bool.and_eq_true] at e
         simpa using e.1
       subst this
       exact Ylo N IHM fx d r tx ts w (hG _ rfl) (by have:=hL _ rfl;simpa using this) hd hdl h0 h1 h
     | false =>
       cases h2:(isS 1 X9 S && !fx) with
       | false=>exact Yax fx d r S w e2 e3 e4 e5 h0 h1 h2 h
       | true =>
         rw [Bool.and_eq_true] at h2
         obtain ⟨h2,hf⟩:=h2
         have:fx=false:=by simpa using hf
         subst this
         obtain ⟨t,ts,rfl,_⟩:=Xh h2
         obtain ⟨tk,tx⟩:=t
         have:tk=1:=by
           have e:(tk == 1 && (tx.toList == X9.toList))=true:=h2
           rw [Bool.and_eq_true] at e
           simpa using e.1
         subst this
         exact Ymm d r tx ts w (fun t ht=>hG _ rfl t (List.mem_cons_of_mem _ ht)) h2 h
 · rcases S with y|ts
   · exact absurd (.inl rfl) hk
   · rcases ts with _|⟨t,ts⟩
     · exact absurd (.inl rfl) hk
     · obtain ⟨tk,tx⟩:=t
       obtain ⟨hsz,hk3⟩:=hG _ rfl (tk,tx) (List.mem_cons_self ..)
       have hk':tk=2∨tk=3∨tk=4∨tk=5:=by
         have hk : ¬ (tk=0∨tk=1∨(tk ≠ 2∧tk ≠ 3∧tk ≠ 4∧tk ≠ 5)):=hk
         omega
       rcases hk' with rfl|rfl|rfl|rfl
       · cases b1:(tx.toList == [110,117,108,108]) with
         | true =>
           exact (Yjw fx d r tx ts w b1 h).mono fun e w' hf=>Eg (by dsimp only;decide) (by unfold Zo Wn Zx6;rw [if_pos rfl,if_pos (Ylc.2 b1)]) (Nat.zero_le _) hf
         | false =>
           have n1 : ¬ (tx.data.toList=[110,117,108,108]):=fun e=>by rw [Ylc.1 e] at b1;cases b1
           cases b2:(tx.toList == [116,114,117,101]) with
           | true =>
             exact (Yj1 fx d r tx ts w b1 b2 h).mono fun e w' hf=>Eg (by dsimp only;decide) (by unfold Zo Wn Zx6 Yac;rw [if_pos rfl,if_neg n1,if_pos (Ylc.2 b2)]) (Nat.zero_le _) hf
           | false =>
             have n2 : ¬ (tx.data.toList=[116,114,117,101]):=fun e=>by rw [Ylc.1 e] at b2;cases b2
             cases b3:(tx.toList == [102,97,108,115,101]) with
             | true =>
               exact (Yh0 fx d r tx ts w b1 b2 b3 h).mono fun e w' hf=>Eg (by dsimp only;decide) (by unfold Zo Wn Zx6 Yac Zkj;rw [if_pos rfl,if_neg n1,if_neg n2,if_pos (Ylc.2 b3)]) (Nat.zero_le _) hf
             | false =>
               have n3 : ¬ (tx.data.toList=[102,97,108,115,101]):=fun e=>by rw [Ylc.1 e] at b3;cases b3
               exact (Yl9 fx d r tx ts w b1 b2 b3 h).mono fun e w' hf=>Eg (by dsimp only;decide) (by unfold Zo Wn Zx6 Yac Zkj;rw [if_pos rfl,if_neg n1,if_neg n2,if_neg n3]) hsz hf
       · have hk9:=hk3 rfl
         cases hf:Ja (Mm tx.data.toList) with
         | true =>
           exact (Yms fx d r tx ts w hsz hk9 hf h).mono fun e w' hq=>Eg (by dsimp only;decide) (by unfold Zo;rw [if_neg (by dsimp only;decide),if_pos rfl,if_pos hf]) (Nat.zero_le _) hq
         | false =>
           exact (Ylw fx d r tx ts w hsz hk9 hf h).mono fun e w' hq=>Eg (by dsimp only;decide) (by unfold Zo;rw [if_neg (by dsimp only;decide),if_pos rfl,if_neg (by rw [hf];simp)]) hsz hq
       · exact (Yfr fx d r tx ts w h).mono fun e w' hq=>Eg (by dsimp only;decide) (by unfold Zo;rw [if_neg (by dsimp only;decide),if_neg (by dsimp only;decide),if_pos rfl]) hsz hq
       · exact (Ydx fx d r tx ts w h).mono fun e w' hq=>Eg (by dsimp only;decide) (by unfold Zo;rw [if_neg (by dsimp only;decide),if_neg (by dsimp only;decide),if_neg (by dsimp only;decide),if_pos rfl]) hsz hq
abbrev meZ:List Value:=[.string ⟨#[]⟩,.int .i64 0,.int .i64 0,.string ⟨#[]⟩,.slice none 0 0,.slice none 0 0]
theorem Yam {w:World} {b:Nat} {z0 z1 z2 z3 z4 z5:Value} {t:TypeId} (h:w.heap[b]? = some (.cells #[z0,z1,z2,z3,z4,z5] t (0,0))):w.cell? ⟨b,0,none⟩=some z0∧w.cell? ⟨b,1,none⟩=some z1∧w.cell? ⟨b,2,none⟩=some z2∧w.cell? ⟨b,3,none⟩=some z3∧w.cell? ⟨b,4,none⟩=some z4∧w.cell? ⟨b,5,none⟩=some z5∧∀ i,w.frozen? ⟨b,i,none⟩=false:=by
 refine ⟨?_,?_,?_,?_,?_,?_,?_⟩<;>simp [World.cell?,World.frozen?,h]
theorem Un {S:StP} {ts:List Tok} (h:nmS S=.ok ts):∃ us,S=.ok us∧ts <:+ us∧ts.length < us.length:=by
 rcases S with y|us
 · cases h
 · simp only [nmS] at h
   cases hn:Zb us with
   | none=>rw [hn] at h;cases h
   | some a =>
     rw [hn] at h
     have h:=Except.ok.inj h
     subst h
     have:=Zc (s:=a.1) (r:=a.2) hn
     exact ⟨us,rfl,this.1,this.2⟩
theorem F6 {s:ByteArray} {S:StP} {ts:List Tok} (h:tkS s S=.ok ts):∃ us,S=.ok us∧ts <:+ us∧ts.length < us.length:=by
 rcases S with y|us
 · cases h
 · simp only [tkS] at h
   split at h
   · rename_i hb
     have h:=Except.ok.inj h
     subst h
     have:=Zf hb
     exact ⟨us,rfl,this.1,this.2⟩
   · cases h
theorem Ib {S:StP} (hG:∀ ts,S=.ok ts→Ze ts):(nmV S).size≤9000:=by
 rcases S with y|ts
 · exact Nat.zero_le _
 · simp only [nmV]
   cases hn:Zb ts with
   | none=>exact Nat.zero_le _
   | some a=>exact ((hG ts rfl).name (s:=a.1) (r:=a.2) hn).1
theorem Sf (N:Nat) (IH:Yld nT N):Ynb nT (N+1):=by
 intro fx d S r w hG hL hd h
 have HR:=Hd (Yku fx d S)
 have HNS:=Hd (Ib hG)
 have HV:=fun wx (hr:RP nT wx r d (tkS Jq (nmS S)))=>Hd (IH fx d (tkS Jq (nmS S)) r wx (fun ts e=>by
   obtain ⟨us,e1,s1,_⟩:=F6 e
   obtain ⟨vs,e2,s2,_⟩:=Un e1
   exact Zr (s1.trans s2) (hG vs e2)) (fun ts e=>by
   obtain ⟨us,e1,s1,l1⟩:=F6 e
   obtain ⟨vs,e2,s2,l2⟩:=Un e1
   have:=hL vs e2
   omega) hd hr)
 have K0:=Hd (Q0.start h #[.string ⟨#[]⟩,.int .i64 0,.int .i64 0,.string ⟨#[]⟩,.slice none 0 0,.slice none 0 0] 98)
 have HN:=Hd (L2 r d S _ K0.out.rd)
 clear h hG hL hd IH
 go_enter Tryz.func126,Tryz.ntmps126
 go_wp2_with fail
 refine HN.out.mono ?_
 rintro e w1 ⟨rfl,h1,m1⟩
 have K1:=Hd (K0.out.next h1 m1)
 have K2:=Hd (Q1.make K1.out #[.string (nmV S),.int .i64 0,.int .i64 0,.string ⟨#[]⟩,.slice none 0 0,.slice none 0 0] 98)
 have HT:=Hd (Id r d _ Jq _ K2.out.rd)
 clear h1 m1 HN
 go_wp2_with fail
 refine HT.out.mono ?_
 rintro e w3 ⟨rfl,h3,m3⟩
 have K3:=Hd (K2.out.next h3 m3)
 have HY:=HV _ K3.out.rd
 clear h3 m3 HT HV
 go_wp2_with fail
 refine HY.out.mono ?_
 rintro e w4 ⟨vk,vn,vs,A3,n3,k3,A4,n4,k4,rfl,⟨x,hts,hx⟩,h4,m4⟩
 have K4:=Hd (K3.out.next h4 m4)
 have O4:=Hd (OvS.of hts K3.out.blt)
 have HX:=Hd hx
 obtain ⟨y0,y1,y2,y3,y4,y5,yz⟩:=Yam K4.out.loc
 have yf1:=yz 1
 have yf2:=yz 2
 have yf3:=yz 3
 have yf4:=yz 4
 have yf5:=yz 5
 have K5:=Hd (((((K4.out.put 1 (.int .i64 vk)).put 2 (.int .i64 vn)).put 3 (.string vs)).put 4 (.slice A3 n3 k3)).put 5 (.slice A4 n4 k4))
 have O5:=Hd (((((O4.out.put (Nat.le_refl _) (i:=1) (v:=.int .i64 vk)).put (Nat.le_refl _) (i:=2) (v:=.int .i64 vn)).put (Nat.le_refl _) (i:=3) (v:=.string vs)).put (Nat.le_refl _) (i:=4) (v:=.slice A3 n3 k3)).put (Nat.le_refl _) (i:=5) (v:=.slice A4 n4 k4))
 obtain ⟨x0,x1,x2,x3,x4,x5,xz⟩:=Yam K5.out.loc
 obtain ⟨q0,q1,q2,q3,q4,q5,qz⟩:=Yam K5.out.res
 have qf0:=qz 0
 have qf1:=qz 1
 have qf2:=qz 2
 have qf3:=qz 3
 have qf4:=qz 4
 have qf5:=qz 5
 clear hts hx h4 m4 yz xz qz HY
 go_wp2_with fail
 have F:=K5.out.fin (ys:=meZ) [.string (nmV S),.int .i64 vk,.int .i64 vn,.string vs,.slice A3 n3 k3,.slice A4 n4 k4] rfl
 have O6:=O5.out.fin (w:=w) (Nat.le_of_lt K5.out.bl) [.string (nmV S),.int .i64 vk,.int .i64 vn,.string vs,.slice A3 n3 k3,.slice A4 n4 k4]
 refine Y8 (cs:=[.string (nmV S),.int .i64 vk,.int .i64 vn,.string vs,.slice A3 n3 k3,.slice A4 n4 k4]) rfl rfl rfl F.1 Tryz.underlying98 ⟨_,rfl⟩ (by kernel_rfl) ?_
 refine ⟨_,_,_,_,_,_,_,_,_,_,rfl,⟨.cons (.one (.string (nmV S))) x,TS.str HNS.out O6,fun a ts e=>?_⟩,?_,F.2.2⟩
 · rw [HR.out] at e
   obtain ⟨v,e2,rfl⟩:=Jp e
   rw [HX.out v ts e2]
   rfl
 · rw [HR.out,Yc]
   exact F.2.1
theorem Ylp:∀ N,Yld nT N∧Ynb nT N:=by
 intro N
 induction N with
 | zero =>
   have h0:Yld nT 0:=fun fx d S r w hG hL hd h=>by
    have hp:V6 S=(0,⟨#[]⟩):=by
     rcases S with y|ts
     · rfl
     · have:=hL ts rfl
       have:ts=[]:=List.eq_nil_of_length_eq_zero (by omega)
       subst this;rfl
    have hi:∀ s,isS 1 s S=false:=fun s=>by rw [Zj7 1 s S (by decide),hp];rfl
    exact Yax fx d r S w (by rw [hp];rfl) (by rw [hp];rfl) (by rw [hp];rfl) (by rw [hp];rfl) (hi _) (hi _) (by rw [hi];rfl) h
   exact ⟨h0,fun fx d S r w hG hL hd h=>Sf 0 h0 fx d S r w hG (fun ts e=>Nat.le_trans (hL ts e) (Nat.zero_le _)) hd h⟩
 | succ k ih=>exact ⟨Ybt k ih.1 ih.2,Sf k ih.1⟩
variable {nT:Nat}
def Zk4 (l:List UInt8):StP:=if (Zq l).2 ≠ 0 then .error (Zq l).2 else .ok (Lj (Zq l).1)
theorem Ydz {w:World} {A:Option Addr} {cap:Nat} {l:List UInt8} (h:Ee w A cap (Zq l).1) (hl:(Zq l).1.length≤200000):RP (Zq l).1.length (w.alloc (.cells #[.slice A (Zq l).1.length cap,.int .i64 0,.int .i64 0,.int .i64 (Zq l).2] 81)) w.heap.size 0 (Zk4 l):=by
 refine ⟨A,cap,0,0,(Zq l).2,Lj (Zq l).1,by rw [U5];exact heap_alloc_new _ _,by rw [U5];exact hl,Nat.zero_le _,fun j t ht=>?_,U5 _,?_⟩
 · obtain ⟨h0,h1⟩:=Cc _ j t ht
   obtain ⟨g,hA,hg,c0⟩:=h.1 _ _ h0
   obtain ⟨g',hA',_,c1⟩:=h.1 _ _ h1
   rw [hA] at hA'
   have hA':=Option.some.inj hA'
   injection hA' with e _ _
   subst e
   have hs:=Below.heap_alloc w (.cells #[.slice A (Zq l).1.length cap,.int .i64 0,.int .i64 0,.int .i64 (Zq l).2] 81) g hg
   exact ⟨g,0,hA,hg,by rw [Nat.zero_add];exact (World.cell?_of_block (a:=⟨g,j*2,none⟩) hs).trans c0,by rw [Nat.zero_add];exact (World.cell?_of_block (a:=⟨g,j*2+1,none⟩) hs).trans c1⟩
 · unfold Zk4
   by_cases hx:(Zq l).2 ≠ 0
   · rw [if_pos hx];exact ⟨rfl,hx⟩
   · rw [if_neg hx];exact ⟨by simpa using hx,rfl,rfl⟩
variable {nT:Nat}
def Yns {α:Type} (enc:α→TrL) (w w':World) (R:Except Int (α × List Tok)) (A:Option Addr) (n c:Nat):Prop:=∃ x:TrL,TP w' (Zs w w') (.row x) (.slice A n c)∧∀ a ts,R=.ok (a,ts)→x=enc a
theorem I9 {w W W':World} {r:Nat} {k:Option Nat} {o:Obj} (m:Z0 r w W) (hg:(W.alloc o).grownBy W' k) (hk:∀ c,k=some c→w.heap.size≤c):Z0 r w W':=by
 have hsz:(W.alloc o).heap.size=W.heap.size+1:=by simp
 have hs:=m.size
 exact ⟨hg.os.trans m.os,hg.tape.trans m.tape,hg.output.trans m.output,by have:=hg.size;omega,fun i hi hn=>((hg.block i (by omega) (fun e=>by have:=hk i e.symm;omega)).trans (Below.heap_alloc _ _ _ (by omega))).trans (m.block i hi hn)⟩
def Yet (nT:Nat) {α:Type} (enc:α→TrL) (p:Rdr α) (d r:Nat) (S:StP) (w:World) (e:Ending) (w':World):Prop:=∃ (A:Option Addr) (n c:Nat),e=.returned (.slice A n c)∧Yns enc w w' (Za p S) A n c∧RP nT w' r d (Yk (Za p S))∧Z0 r w w'
theorem Yiq (fx:Bool) (d r:Nat) (S:StP) (w:World) (hG:∀ ts,S=.ok ts→Ze ts) (hL:∀ ts,S=.ok ts→ts.length≤200000) (hd:d≤16) (h:RP nT w r d S):Calls Tryz.prog 186 #[.pointer (some ⟨r,0,none⟩),.bool fx] w (Yet nT Jf (Ym fx d) d r S w):=by
 obtain ⟨i0,hi,hz0,hz1,hz2⟩:=info_parts Ak
 have H:=Hd h
 have HD:=Hd hd
 have HRW:=Hd h.lt
 have HI:=Hd (ris r d S opB w h)
 cases hb:isS 1 opB S with
 | false =>
   rw [hb] at HI
   have HR:=Hd (Yk6 (fx:=fx) (d:=d) hb)
   clear h hb hd hG hL
   go_enter Tryz.func186,Tryz.ntmps186
   go_wp2_with fail
   refine HI.out.mono ?_
   rintro e w1 ⟨rfl,hb1⟩
   have B1:=Hd hb1
   clear hb1
   go_wp2_with fail
   go_ret
   refine ⟨none,0,0,rfl,⟨.nil,TP.none _ _,fun a ts e=>?_⟩,?_,Z0.of_below B1.out⟩
   · rw [HR.out] at e
     obtain ⟨_,_,rfl⟩:=Jp e
     rfl
   · rw [HR.out,Yc,show Yk (Za (fun ts=>Except.ok ((),ts)) S)=S from Jn _]
     exact H.out.below B1.out
 | true =>
   rw [hb] at HI
   have HR:=Hd (Ye7 (fx:=fx) (d:=d) hb)
   have HS1:Hid (∀ ts,tkS opB S=.ok ts→Ze ts∧ts.length≤200000∧True):=Hd (fun ts e=>by
     obtain ⟨us,e1,s1,l1⟩:=F6 e
     have:=hL us e1
     exact ⟨Zr s1 (hG us e1),by omega,trivial⟩)
   obtain ⟨Kc,hKc⟩:∃ K,Pb (Cy fx d) Zq8 cpB .nil true (tkS opB S)=K:=⟨_,rfl⟩
   rw [hKc] at HR
   have HKC:=Hd (show Pb (Cy fx d) Zq8 cpB .nil (decide (TrL.nil.len=0)) (tkS opB S)=Kc from hKc)
   have HT:=fun wx (hb:Below w.heap.size w wx)=>Hd (Id r d S opB wx (H.out.below hb))
   clear h hb hd hG hL hKc
   go_enter Tryz.func186,Tryz.ntmps186
   go_wp2_with fail
   refine HI.out.mono ?_
   rintro e w1 ⟨rfl,hb1⟩
   have B1:=Hd hb1
   clear hb1
   go_wp2_with fail
   refine (HT _ B1.out).out.mono ?_
   rintro e w2 ⟨rfl,h2,m2⟩
   have H1:=Hd h2
   have M1:=Hd ((Z0.of_below (r:=r) B1.out).trans m2)
   clear h2 m2 HT HI
   go_wp2_with fail
   go_loopg [5] 200001 (fun g v wx=>∃ (Sx:StP) (l:VM) (T:TrL) (co:Nat) (Ao:Option Addr),v=.slice Ao T.len co∧(∀ ts,Sx=.ok ts→ts.length < g∧T.len+ts.length≤200000)∧T.len≤200001∧Aside (RP nT wx r (d) Sx∧Z0 r w wx∧RTr 98 6 w.heap.size wx (.slice Ao T.len co) T∧Pb (Cy fx d) Zq8 cpB l (decide (T.len=0)) Sx=Kc∧∀ ts,Sx=.ok ts→T=Jf l∧Ze ts))
   case atStart=>exact ⟨_,.nil,.nil,0,none,rfl,fun ts e=>⟨by have:=(HS1.out ts e).2.1;omega,by show 0+_≤_;have:=(HS1.out ts e).2.1;omega⟩,Nat.zero_le _,Zu ⟨H1.out,M1.out,RTr.start _ _ _ _,HKC.out,fun ts e=>⟨rfl,(HS1.out ts e).1⟩⟩⟩
   case round =>
     obtain ⟨Sx,l,T,co,Ao,rfl,hms,hTl,HA⟩:=hrel
     have RX:=Hd HA.out.1
     have MX:=Hd HA.out.2.1
     have HRR:=Hd HA.out.2.2.1
     have HKX:=Hd HA.out.2.2.2.1
     have HFX:=Hd HA.out.2.2.2.2
     clear HA
     obtain ⟨A,n,c,p,dd,x0,h0,h1,h2⟩:=RX.out.cells
     obtain ⟨c0,c1,c2,c3,cz⟩:=Z8 h0
     clear cz h0
     rcases Sx with y|ts
     · obtain ⟨rfl,hy⟩:=h2
       have t1:(x0 == 0)=false:=by simpa using hy
       have hs7:=Hd (Id r d (.error x0) cpB _ RX.out)
       have HKX:=Hd (show (.error x0:Except Int (VM × List Tok))=Kc by rw [← HKX.out,I8])
       clear hy h1 hms
       go_wp2_with fail
       refine hs7.out.mono ?_
       rintro e w7 ⟨rfl,hh7,mm7⟩
       have H7:=Hd hh7
       have M7:=Hd (MX.out.trans mm7)
       have T7:=Hd (HRR.out.moved mm7 HRW.out)
       clear hh7 mm7
       go_wp2_with fail
       go_ret
       have hk:=HKX.out
       refine ⟨_,_,_,rfl,⟨T,T7.out.fin (by omega),fun a us e=>?_⟩,?_,M7.out⟩
       · rw [HR.out,← hk] at e
         cases e
       · rw [HR.out,← hk]
         exact H7.out
     · obtain ⟨rfl,rfl⟩:=h2
       have HF:=Hd (HFX.out ts rfl)
       obtain ⟨hg1,hg2⟩:=hms ts rfl
       have CV:=fun wy (hr:RP nT wy r (d) (.ok ts))=>Hd ((Ylp 200000).2 fx d (.ok ts) r wy (fun us e=>by rw [← Except.ok.inj e];exact HF.out.2) (fun us e=>by rw [← Except.ok.inj e];omega) HD.out hr)
       refine Or.elim (Classical.em (T.len=0∨isS 1 cpB (.ok ts)=false)) (fun hgo=>?_) (fun hend=>?_)
       focus
         cases gk with
         | zero=>omega
         | succ g =>
           refine Or.elim (Classical.em (T.len=0)) (fun hT=>?_) (fun hT=>?_)
           focus
            have t2:((T.len:Int) == 0)=true:=by simp;omega
            have HNX:=Hd (by have hk:=HKX.out;rw [Gb (Pl fx d) (.inl (by simp [hT]))] at hk;exact hk)
            clear h1 hms hT hgo c0 c1 c2
            rename World=>wx
           rotate_left
           focus
            have t2:((T.len:Int) == 0)=false:=by simp;omega
            have hc:isS 1 cpB (.ok ts)=false:=by rcases hgo with h|h;exact absurd h hT;exact h
            have hi7:=Hd (ris r (d) (.ok ts) cpB _ RX.out)
            rw [hc] at hi7
            have HKX:=Hd (by have hk:=HKX.out;rw [show decide (T.len=0)=false by simp [hT]] at hk;exact hk)
            have HNX:=Hd (by have hk:=HKX.out;rw [Gb (Pl fx d) (.inr hc)] at hk;exact hk)
            clear hc h1 hms hT hgo
            go_wp2_with fail
            refine hi7.out.mono ?_
            rintro e wx ⟨rfl,hb6⟩
            have RX':=Hd (RX.out.below hb6)
            have MX':=Hd (MX.out.trans (Z0.of_below (r:=r) hb6))
            have HRR':=Hd (HRR.out.moved (Z0.of_below (r:=r) hb6) HRW.out)
            clear hb6 hi7 c0 c1 c2 c3 RX MX HRR
            have RX:=RX'
            have MX:=MX'
            have HRR:=HRR'
           all_goals
            go_wp2_with fail
            refine (CV _ RX.out).out.mono ?_
            rintro e w3 ⟨nm,vk,vn,vs,A3,n3,k3,A4,n4,k4,rfl,⟨xt,hts,hxe⟩,r3,m3⟩
            have HM3:=Hd m3
            have HTS:=Hd hts
            have HXE:=Hd hxe
            have H3:=Hd r3
            obtain ⟨xs,P,hown,hvals,hP⟩:=HRR.out
            have hrw:=HRW.out
            have hbx:=MX.out.size
            have HRT:=Hd (And.intro hown (And.intro (And.intro hvals hP) (And.intro hbx hrw)))
            have O3:=Hd (Xu hown m3 hrw)
            have s3:=Hd (Nat.le_trans hbx m3.size)
            clear hts hxe r3 m3 hown hvals hP hrw hbx
            go_wp2_with (at_builtin;refine wpList_append_lies _ rfl _ _ 33 rfl w.heap.size 98 i0 (.agg #[.string ⟨#[]⟩,.int .i64 0,.int .i64 0,.string ⟨#[]⟩,.slice none 0 0,.slice none 0 0]) 6 96 Tryz.underlying33 hi hz0 hz1 hz2 rfl (by decide) _ T.len xs rfl (Xn O3.out (blw _ _)) _ 1 1 [.string nm,.int .i64 vk,.int .i64 vn,.string vs,.slice A3 n3 k3,.slice A4 n4 k4] rfl rfl (fun j u hj=>World.news_of_block (heap_alloc_new _ _) j u hj) (by intro y hy;simp at hy;rcases hy with rfl|rfl|rfl|rfl|rfl|rfl<;>rfl) (by decide) (by unfold maxLen;omega) (by omega) (by have:=s3.out;simp;omega) _ rfl ?_;intro gg cap2 w4 hown4 hgrow hat hlt4;have HG4:=Hd hgrow;have HO4:=Hd hown4;have HT4:=Hd hat;clear hgrow hown4 hat)
            have T4:=RTr.app HRT.out.2.2.2 HRT.out.2.2.1 HRT.out.1 HRT.out.2.1.1 HRT.out.2.1.2 HM3.out HTS.out HO4.out HG4.out HT4.out
            have R4:=(H3.out.below (blw _ _)).grown HG4.out (fun c hc=>by have:=(HRT.out.1.lt c hc).1;have:=HRT.out.2.2.2;omega)
            have M4:=I9 (MX.out.trans HM3.out) HG4.out (fun c hc=>(HRT.out.1.lt c hc).1)
            have hrun:=HNX.out
            go_roundg g
            case measure=>omega
            case rel =>
             rcases hR1:Za (Cy fx d) (.ok ts) with y|a
             · rw [hR1] at hrun R4
               refine ⟨.error y,l,T.snoc xt,cap2,some ⟨gg,0,none⟩,by rw [TrL.snoc_len],(fun us e=>by cases e),by rw [TrL.snoc_len];omega,Zu ⟨R4,M4,by rw [TrL.snoc_len];exact T4,?_,fun us e=>by cases e⟩⟩
               rw [I8];exact hrun
             · rw [hR1] at hrun R4
               have hsf:=An hR1
               refine ⟨.ok a.2,Zq8 l a.1,T.snoc xt,cap2,some ⟨gg,0,none⟩,by rw [TrL.snoc_len],(fun us e=>?_),by rw [TrL.snoc_len];omega,Zu ⟨R4,M4,by rw [TrL.snoc_len];exact T4,?_,fun us e=>?_⟩⟩
               · have e:=Except.ok.inj e
                 subst e
                 have:=hsf.2
                 rw [TrL.snoc_len]
                 exact ⟨by omega,by omega⟩
               · rw [show decide ((T.snoc xt).len=0)=false by rw [TrL.snoc_len];simp]
                 exact hrun
               · have e:=Except.ok.inj e
                 subst e
                 refine ⟨?_,Zr hsf.1 HF.out.2⟩
                 rw [HF.out.1,HXE.out a.1 a.2 (by rw [hR1])]
                 exact (Fl l a.1.1 a.1.2).symm
       focus
         have hT : ¬ T.len=0:=fun h=>hend (.inl h)
         have t2:((T.len:Int) == 0)=false:=by simp;omega
         have HKX:=Hd (by have hk:=HKX.out;rw [show decide (T.len=0)=false by simp [hT]] at hk;exact hk)
         have hi7:=Hd (ris r (d) (.ok ts) cpB _ RX.out)
         have hc:isS 1 cpB (.ok ts)=true:=by simpa using fun h=>hend (.inr h)
         rw [hc] at hi7
         have HC:=Hd hc
         clear hc h1 hms hT hend
         go_wp2_with fail
         refine hi7.out.mono ?_
         rintro e w6 ⟨rfl,hb6⟩
         have RX':=Hd (RX.out.below hb6)
         have MX':=Hd (MX.out.trans (Z0.of_below (r:=r) hb6))
         have HRR':=Hd (HRR.out.moved (Z0.of_below (r:=r) hb6) HRW.out)
         have hs7:=Hd (Id r d (.ok ts) cpB _ RX'.out)
         clear hb6 c0 c1 c2 c3 RX MX HRR
         have RX:=RX'
         have MX:=MX'
         have HRR:=HRR'
         go_wp2_with fail
         refine hs7.out.mono ?_
         rintro e w7 ⟨rfl,hh7,mm7⟩
         have H7:=Hd hh7
         have M7:=Hd (MX.out.trans mm7)
         have T7:=Hd (HRR.out.moved mm7 HRW.out)
         clear hh7 mm7
         go_wp2_with fail
         go_ret
         have hk:=HKX.out
         rw [Zqi HC.out] at hk
         refine ⟨_,_,_,rfl,⟨T,T7.out.fin (by omega),fun a us e=>?_⟩,?_,M7.out⟩
         · rw [HR.out,← hk] at e
           obtain ⟨a2,e2,rfl⟩:=Jp e
           exact HF.out.1
         · rw [HR.out,← hk,Yc,show Yk (Za (fun ts=>Except.ok ((),ts)) (tkS cpB (.ok ts)))=tkS cpB (.ok ts) from Jn _]
           exact H7.out
variable {nT:Nat}
theorem Ydw:(Tryz.prog.info? 178).map (fun i=>(i.zero,i.size,i.bytes))=some (some (.agg #[.string ⟨#[]⟩,.slice none 0 0]),2,40):=by kernel_rfl
theorem Lx {S:StP} (hG:∀ ts,S=.ok ts→Ze ts):∀ ts,nmS S=.ok ts→Ze ts:=fun ts e=>by
 obtain ⟨us,e1,s1,_⟩:=Un e
 exact Zr s1 (hG us e1)
theorem C7 {s:ByteArray} {S:StP} (hG:∀ ts,S=.ok ts→Ze ts):∀ ts,tkS s S=.ok ts→Ze ts:=fun ts e=>by
 obtain ⟨us,e1,s1,_⟩:=F6 e
 exact Zr s1 (hG us e1)
theorem Zvb (fx:Bool) (d r:Nat) (S:StP) (w:World) (hG:∀ ts,S=.ok ts→Ze ts) (hL:∀ ts,S=.ok ts→ts.length≤200000) (hd:d≤16) (h:RP nT w r d S):Calls Tryz.prog 109 #[.pointer (some ⟨r,0,none⟩),.bool fx] w (Yet nT (Z5 Xc) (Zp fx d) d r S w):=by
 obtain ⟨i0,hi,hz0,hz1,hz2⟩:=info_parts Ydw
 have HD:=Hd hd
 have HRW:=Hd h.lt
 have H1:=Hd h
 have HGL:=Hd (And.intro hG hL)
 obtain ⟨Kc,hKc⟩:∃ K,dsS fx d [] S=K:=⟨_,rfl⟩
 have HKC:=Hd hKc
 have HR:Hid (Za (Zp fx d) S=Kc):=Hd (by rw [Yfm];exact hKc)
 clear h hG hL hd hKc
 go_enter Tryz.func109,Tryz.ntmps109
 go_wp2_with fail
 go_loopg [5] 200001 (fun g v wx=>∃ (Sx:StP) (l:List Lk) (T:TrL) (co:Nat) (Ao:Option Addr),v=.slice Ao T.len co∧(∀ ts,Sx=.ok ts→ts.length < g∧T.len+ts.length≤200000)∧T.len≤200001∧Aside (RP nT wx r d Sx∧Z0 r w wx∧RTr 178 2 w.heap.size wx (.slice Ao T.len co) T∧dsS fx d l Sx=Kc∧∀ ts,Sx=.ok ts→T=Z5 Xc l∧Ze ts))
 case atStart=>exact ⟨_,[],.nil,0,none,rfl,fun ts e=>⟨by have:=HGL.out.2 ts e;omega,by show 0+_≤_;have:=HGL.out.2 ts e;omega⟩,Nat.zero_le _,Zu ⟨H1.out,Z0.refl _ _,RTr.start _ _ _ _,HKC.out,fun ts e=>⟨rfl,HGL.out.1 ts e⟩⟩⟩
 case round =>
  obtain ⟨Sx,l,T,co,Ao,rfl,hms,hTl,HA⟩:=hrel
  have RX:=Hd HA.out.1
  have MX:=Hd HA.out.2.1
  have HRR:=Hd HA.out.2.2.1
  have HKX:=Hd HA.out.2.2.2.1
  have HFX:=Hd HA.out.2.2.2.2
  clear HA
  have hi7:=Hd (ris r d Sx Zqb _ RX.out)
  cases hc:isS 1 Zqb Sx with
  | false =>
    rw [hc] at hi7
    have hkx:Eh (fun _=>l) (Za Zv7 Sx)=Kc:=by rw [← HKX.out,Yn0 hc];rfl
    have HKX:=Hd hkx
    clear hc hms hkx
    go_wp2_with fail
    refine hi7.out.mono ?_
    rintro e w7 ⟨rfl,hb7⟩
    have H7:=Hd (RX.out.below hb7)
    have M7:=Hd (MX.out.trans (Z0.of_below (r:=r) hb7))
    have T7:=Hd (HRR.out.moved (Z0.of_below (r:=r) hb7) HRW.out)
    clear hb7
    go_wp2_with fail
    go_ret
    refine ⟨_,_,_,rfl,⟨T,T7.out.fin (by omega),fun a us e=>?_⟩,?_,M7.out⟩
    · rw [HR.out,← HKX.out] at e
      obtain ⟨e1,rfl⟩:=Wq e
      exact (HFX.out us e1).1
    · rw [HR.out,← HKX.out,Yc,Jn]
      exact H7.out
  | true =>
    rw [hc] at hi7
    obtain ⟨t,ts,rfl,e9⟩:=Xh hc
    obtain ⟨hg1,hg2⟩:=hms _ rfl
    have HF:=Hd (HFX.out _ rfl)
    have HNX:=Hd (by have hk:=HKX.out;rw [Yj7 hc] at hk;exact hk)
    rw [e9] at HNX
    have E9:=Hd e9
    have HGT:=Hd (show Ze ts from fun u hu=>HF.out.2 u (List.mem_cons_of_mem _ hu))
    have HNS:=Hd (Ib (S:=.ok ts) (fun us e=>by rw [← Except.ok.inj e];exact HGT.out))
    have CV:=fun wy (hr:RP nT wy r d (nmS (.ok ts)))=>Hd (Yiq fx d r (nmS (.ok ts)) wy (Lx (fun us e=>by rw [← Except.ok.inj e];exact HGT.out)) (fun us e=>by
      obtain ⟨vs,e1,_,l1⟩:=Un e
      have e1:=Except.ok.inj e1
      subst e1
      simp at hg2
      omega) HD.out hr)
    have hlen:(t :: ts).length=ts.length+1:=rfl
    rw [hlen] at hg1 hg2
    cases gk with
    | zero=>omega
    | succ g =>
      clear hc hms e9 hlen
      go_wp2_with fail
      refine hi7.out.mono ?_
      rintro e wa ⟨rfl,hba⟩
      have RA:=Hd (RX.out.below hba)
      have MA:=Hd (Z0.of_below (r:=r) hba)
      have TA:=Hd (Id r d _ Zqb _ RA.out)
      clear hba
      go_wp2_with fail
      refine TA.out.mono ?_
      rintro e wb ⟨rfl,hb,mb⟩
      rw [E9.out] at hb
      have NB:=Hd (L2 r d _ _ hb)
      have MB:=Hd (MA.out.trans mb)
      clear hb mb TA
      go_wp2_with fail
      refine NB.out.mono ?_
      rintro e wc ⟨rfl,hcx,mc⟩
      have MC:=Hd (MB.out.trans mc)
      have RC:=Hd (hcx.below (blw wc (.cells #[.string (nmV (.ok ts)),.slice none 0 0] 178)))
      have YC:=Hd (heap_alloc_last wc (.cells #[.string (nmV (.ok ts)),.slice none 0 0] 178))
      have MC2:=Hd (MC.out.trans (Z0.of_below (r:=r) (blw wc (.cells #[.string (nmV (.ok ts)),.slice none 0 0] 178))))
      have lc:r < wc.heap.size:=hcx.lt
      have AC:=CV _ RC.out
      clear hcx mc NB
      go_wp2_with fail
      refine AC.out.mono ?_
      rintro e wd ⟨A2,n2,c2,rfl,⟨x,htx,hx⟩,hd2,md⟩
      have YD:=Hd (md.keep YC.out (Nat.ne_of_gt lc))
      have ld:=(Array.getElem?_eq_some_iff.1 YD.out).1
      obtain ⟨y0,y1,yz⟩:=ptc YD.out
      have yf1:=yz 1
      have YE:=Hd (heap_setCell_same _ _ 1 _ _ (.slice A2 n2 c2) YD.out)
      have HX:=Hd hx
      have HTX:=Hd htx
      have RE:=Hd (hd2.set lc (i:=1) (v:=.slice A2 n2 c2))
      have MD:=Hd (MC2.out.trans md)
      obtain ⟨z0,z1,zz⟩:=ptc YE.out
      clear yz zz htx hx hd2 md AC
      obtain ⟨xs,P,hown,hvals,hP⟩:=HRR.out
      have hrw:=HRW.out
      have hbx:=MX.out.size
      have hms:=MC.out.size
      have hsc:(wc.alloc (.cells #[.string (nmV (.ok ts)),.slice none 0 0] 178)).heap.size=wc.heap.size+1:=by simp
      have HME:=Hd (show Z0 r wr (wd.setCell ⟨wc.heap.size,1,none⟩ (.slice A2 n2 c2)) from MD.out.put hms)
      have HRT:=Hd (And.intro hown (And.intro (And.intro hvals hP) (And.intro hbx hrw)))
      have O3:=Hd (Xu hown HME.out hrw)
      have s3:=Hd (Nat.le_trans hbx HME.out.size)
      have HTS:Hid (TS (wd.setCell ⟨wc.heap.size,1,none⟩ (.slice A2 n2 c2)) (fun b=>wr.heap.size≤b∧b < (wd.setCell ⟨wc.heap.size,1,none⟩ (.slice A2 n2 c2)).heap.size) (.cons (.one (.string (nmV (.ok ts)))) (.cons (.row x) .nil)) [.string (nmV (.ok ts)),.slice A2 n2 c2]):=Hd (TS.str HNS.out (TS.row (TP.keep (fun k hk=>⟨⟨by have:=hk.1;rw [hsc] at this;omega,by have:=hk.2;simpa [World.setCell] using this⟩,Below.heap_setCell _ _ _ _ (show k ≠ wc.heap.size by have:=hk.1;rw [hsc] at this;omega)⟩) _ _ HTX.out) (TS.nil _ _)))
      clear hown hvals hP hrw hbx hms hsc
      have hsz:(wd.setCell ⟨wc.heap.size,1,none⟩ (.slice A2 n2 c2)).heap.size=wd.heap.size:=by simp [World.setCell]
      go_wp2_with (at_builtin;refine wpList_append_lies _ rfl _ _ 66 rfl w.heap.size 178 i0 (.agg #[.string ⟨#[]⟩,.slice none 0 0]) 2 40 Tryz.underlying66 hi hz0 hz1 hz2 rfl (by decide) _ T.len xs rfl (Xn O3.out (blw _ _)) _ 1 1 [.string (nmV (.ok ts)),.slice A2 n2 c2] rfl rfl (fun j u hj=>by rw [← hsz];exact World.news_of_block (heap_alloc_new _ _) j u hj) (by intro y hy;simp at hy;rcases hy with rfl|rfl<;>rfl) (by decide) (by unfold maxLen;omega) (by omega) (Nat.le_trans s3.out (by simp)) _ rfl ?_;intro gg cap2 w4 hown4 hgrow hat hlt4;have HG4:=Hd hgrow;have HO4:=Hd hown4;have HT4:=Hd hat;clear hgrow hown4 hat)
      have T4:=RTr.app HRT.out.2.2.2 HRT.out.2.2.1 HRT.out.1 HRT.out.2.1.1 HRT.out.2.1.2 HME.out HTS.out HO4.out HG4.out HT4.out
      have R4:=(RE.out.below (blw _ _)).grown HG4.out (fun c hc=>by have:=(HRT.out.1.lt c hc).1;have:=HRT.out.2.2.2;omega)
      have M4:=I9 (MX.out.trans HME.out) HG4.out (fun c hc=>(HRT.out.1.lt c hc).1)
      have hrun:=HNX.out
      go_roundg g
      case measure=>omega
      case rel =>
       rcases hR1:Za (Ym fx d) (nmS (.ok ts)) with y|a
       · rw [hR1] at hrun R4
         exact ⟨.error y,l,T.snoc (.cons (.one (.string (nmV (.ok ts)))) (.cons (.row x) .nil)),cap2,some ⟨gg,0,none⟩,by rw [TrL.snoc_len],(fun us e=>by cases e),by rw [TrL.snoc_len];omega,Zu ⟨R4,M4,by rw [TrL.snoc_len];exact T4,hrun,fun us e=>by cases e⟩⟩
       · rw [hR1] at hrun R4
         obtain ⟨vs,e1,hp⟩:=Xs hR1
         obtain ⟨us,e2,s2,l2⟩:=Un e1
         have e2:=Except.ok.inj e2
         subst e2
         have s3:=Zjy fx d vs a.1 a.2 hp
         have s4:=s3.trans s2
         have l4:a.2.length < ts.length:=Nat.lt_of_le_of_lt s3.length_le l2
         refine ⟨.ok a.2,l++[(nmV (.ok ts),a.1)],T.snoc (.cons (.one (.string (nmV (.ok ts)))) (.cons (.row x) .nil)),cap2,some ⟨gg,0,none⟩,by rw [TrL.snoc_len],(fun us e=>?_),by rw [TrL.snoc_len];omega,Zu ⟨R4,M4,by rw [TrL.snoc_len];exact T4,hrun,fun us e=>?_⟩⟩
         · have e:=Except.ok.inj e
           subst e
           rw [TrL.snoc_len]
           exact ⟨by omega,by omega⟩
         · have e:=Except.ok.inj e
           subst e
           refine ⟨?_,Zr s4 HGT.out⟩
           rw [HF.out.1,HX.out a.1 a.2 (by rw [hR1]),Xa]
           rfl
end Go.Proofs.YtpkmbhnikilihaaGreatDoor
