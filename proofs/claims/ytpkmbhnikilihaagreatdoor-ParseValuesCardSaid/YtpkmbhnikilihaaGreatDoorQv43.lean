/- The document's reader of values: maps. (gen_prlist.py wrote it.) -/
import Derived.Test.YtpkmbhnikilihaaGreatDoorQv42
set_option maxRecDepth 100000
set_option maxHeartbeats 8000000
namespace Go.Proofs.YtpkmbhnikilihaaGreatDoor
open Go.RowKit
theorem rv_map (N:Nat) (IH:MemH N) (fx:Bool) (d r:Nat) (tx:ByteArray) (us:List Tok) (w:World) (hG:GoodT ((1,tx) :: us)) (hN:us.length≤N) (hd:d≤16) (hb0:isS 1 dolB (.ok ((1,tx) :: us))=false) (hb1:isS 1 oB (.ok ((1,tx) :: us))=false) (hb:isS 1 omB (.ok ((1,tx) :: us))=true) (h:RP w r d (.ok ((1,tx) :: us))):Calls Tryz.prog 50 #[.pointer (some ⟨r,0,none⟩),.bool fx] w (ValTo fx d r (.ok ((1,tx) :: us)) w):=by
 obtain ⟨i0,hi,hz0,hz1,hz2⟩:=info_parts info_member
 have HR:=Hd (val_map2 fx d hb)
 have HIH:=Hd IH
 have HD:=Hd hd
 have hln:us.length≤200000:=by obtain ⟨_,_,_,_,_,_,_,h1,_,_,h2⟩:=h;have:=congrArg List.length h2.2.2;simp at this;omega
 have HOK:Hid (∀ ts,openS d omB (.ok ((1,tx) :: us))=.ok ts→ts=us∧d+1≤16):=Hd (fun ts e=>by
  by_cases h16:d=16
  · rw [open_eq hb h16] at e;cases e
  · rw [open_ne (fun hh=>h16 hh.2)] at e
    obtain ⟨t9,ts9,e9,e8⟩:=tk_yes hb
    rw [e8] at e
    have e9:=Except.ok.inj e9
    have e:=Except.ok.inj e
    injection e9 with _ e9
    exact ⟨by rw [← e,← e9],by omega⟩)
 obtain ⟨Kc,hKc⟩:∃ K,msS fx (d+1) .nil (openS d omB (.ok ((1,tx) :: us)))=K:=⟨_,rfl⟩
 rw [hKc] at HR
 have HKC:=Hd hKc
 have HG:=Hd (show GoodT us from fun t ht=>hG t (List.mem_cons_of_mem _ ht))
 have K0:=Hd (Q0.start h #[.int .i64 0,.int .i64 0,.string ⟨#[]⟩,.slice none 0 0,.slice none 0 0] 35)
 have HP:Hid (Calls Tryz.prog 107 #[.pointer (some ⟨r,0,none⟩)] (w.alloc (.cells #[.int .i64 0,.int .i64 0,.string ⟨#[]⟩,.slice none 0 0,.slice none 0 0] 35)) fun e w'=>e=.returned (.agg #[.int .i64 1,.string tx])∧Below (w.alloc (.cells #[.int .i64 0,.int .i64 0,.string ⟨#[]⟩,.slice none 0 0,.slice none 0 0] 35)).heap.size (w.alloc (.cells #[.int .i64 0,.int .i64 0,.string ⟨#[]⟩,.slice none 0 0,.slice none 0 0] 35)) w'):=Hd (rpeek r d _ _ K0.out.rd)
 have HB:=Hd (And.intro hb0 (And.intro hb1 hb))
 clear h hG hd hKc IH hb hb1 hb0
 go_enter Tryz.func50,Tryz.ntmps50
 go_wp2_with fail
 refine HP.out.mono ?_
 rintro e w1 ⟨rfl,hb1⟩
 have K1:=Hd (K0.out.next (K0.out.rd.below hb1) (Moved.of_below hb1))
 have K2:=Hd (K1.out.next (K1.out.rd.below (blw w1 (.cells #[.int .i64 1,.string tx] 70))) (Moved.of_below (blw w1 (.cells #[.int .i64 1,.string tx] 70))))
 have I2:=Hd (ris r d _ dolB _ K2.out.rd)
 rw [HB.out.1] at I2
 clear hb1
 go_wp2_with fail
 refine I2.out.mono ?_
 rintro e w3 ⟨rfl,hb3⟩
 have K3:=Hd (K2.out.next (K2.out.rd.below hb3) (Moved.of_below hb3))
 have I3:=Hd (ris r d _ oB _ K3.out.rd)
 rw [HB.out.2.1] at I3
 clear hb3 I2
 go_wp2_with fail
 refine I3.out.mono ?_
 rintro e w4 ⟨rfl,hb4⟩
 have K4:=Hd (K3.out.next (K3.out.rd.below hb4) (Moved.of_below hb4))
 clear hb4 I3
 have I4:=Hd (ris r d _ omB _ K4.out.rd)
 rw [HB.out.2.2] at I4
 go_wp2_with fail
 refine I4.out.mono ?_
 rintro e w5 ⟨rfl,hb5⟩
 have K5:=Hd (K4.out.next (K4.out.rd.below hb5) (Moved.of_below hb5))
 have HO:=Hd (ropen r d _ omB w5 HD.out K5.out.rd)
 clear hb5 I4
 go_wp2_with fail
 refine HO.out.mono ?_
 rintro e w6 ⟨rfl,h6,m6⟩
 have K6:=Hd (Q1.make (K5.out.next h6 m6) #[.int .i64 7,.int .i64 0,.string ⟨#[]⟩,.slice none 0 0,.slice none 0 0] 35)
 clear h6 m6 HO
 obtain ⟨b8,hb8⟩:∃ b,w6.heap.size=b:=⟨_,rfl⟩
 rw [hb8] at K6
 go_wp2_with fail
 clear hb8
 go_loopg [] (us.length+1) (fun g wx=>∃ (Sx:StP) (l:VM) (T:TrL) (V:Value),(∀ ts,Sx=.ok ts→ts.length < g∧T.len+ts.length≤200000)∧T.len≤200001∧Aside (Q1 w r wx (.cells #[.int .i64 0,.int .i64 0,.string ⟨#[]⟩,.slice none 0 0,.slice none 0 0] 35 (0,0)) b8 (.cells #[.int .i64 7,.int .i64 0,.string ⟨#[]⟩,.slice none 0 0,V] 35 (0,0)) Sx (d+1)∧RTr 98 6 (b8+1) wx V T∧msS fx (d+1) l Sx=Kc∧∀ ts,Sx=.ok ts→T=encM l∧GoodT ts∧ts.length≤N∧d+1≤16))
 case atStart =>
  refine ⟨_,.nil,.nil,.slice none 0 0,fun ts e=>?_,Nat.zero_le _,vaside ⟨K6.out,RTr.start _ _ _ _,HKC.out,fun ts e=>?_⟩⟩
  · obtain ⟨rfl,_⟩:=HOK.out ts e
    exact ⟨by omega,by show 0+_≤_;omega⟩
  · obtain ⟨rfl,h16⟩:=HOK.out ts e
    exact ⟨rfl,HG.out,hN,h16⟩
 case round =>
  obtain ⟨Sx,l,T,V,hms,hTl,HA⟩:=hrel
  have KX:=Hd HA.out.1
  have HRR:=Hd HA.out.2.1
  have HKX:=Hd HA.out.2.2.1
  have HFX:=Hd HA.out.2.2.2
  clear HA K6
  obtain ⟨Ao,co,rfl⟩:=HRR.out.shape
  obtain ⟨A,n,c,p,dd,x0,h0,h1,h2⟩:=KX.out.rd.cells
  obtain ⟨c0,c1,c2,c3,cz⟩:=four_cells h0
  clear cz h0
  rcases Sx with y|ts
  · obtain ⟨rfl,hy⟩:=h2
    have t1:(x0 == 0)=false:=by simpa using hy
    have hs7:=Hd (rshut r d (.error x0) cmB _ HD.out KX.out.rd)
    have HKX:=Hd (show (.error x0:Except Int (VM × List Tok))=Kc from HKX.out)
    clear hy h1 hms
    go_wp2_with fail
    refine hs7.out.mono ?_
    rintro e w7 ⟨rfl,hh7,mm7⟩
    have M7:=Hd mm7
    clear c0 c1 c2 c3
    have K7:=Hd (KX.out.next hh7 mm7)
    obtain ⟨k0,k1,k2,k3,k4,kz⟩:=gvc K7.out.loc
    obtain ⟨q0,q1,q2,q3,q4,qz⟩:=gvc K7.out.res
    have qf0:=qz 0
    have qf1:=qz 1
    have qf2:=qz 2
    have qf3:=qz 3
    have qf4:=qz 4
    clear hh7 mm7 kz qz
    go_wp2_with fail
    have F:=K7.out.fin (ys:=vaZ) [.int .i64 7,.int .i64 0,.string ⟨#[]⟩,.slice none 0 0,.slice Ao T.len co] rfl
    have TT:=rt_done (w:=w) (RTr.moved HRR.out M7.out (by have:=KX.out.rb;omega)) (by omega) (by have:=KX.out.bl;omega) [.int .i64 7,.int .i64 0,.string ⟨#[]⟩,.slice none 0 0,.slice Ao T.len co]
    refine ret_st (cs:=[.int .i64 7,.int .i64 0,.string ⟨#[]⟩,.slice none 0 0,.slice Ao T.len co]) rfl rfl rfl F.1 Tryz.underlying35 ⟨_,rfl⟩ (by kernel_rfl) ?_
    have hk:=HKX.out
    refine ⟨_,_,_,_,_,_,_,_,_,rfl,⟨.cons (.one (.int .i64 7)) (.cons (.one (.int .i64 0)) (.cons (.one (.string ⟨#[]⟩)) (.cons (.row .nil) (.cons (.row T) .nil)))),TS.int (TS.int (TS.str (Nat.zero_le _) (TS.row (TP.none _ _) (TS.row TT (TS.nil _ _))))),fun a us e=>?_⟩,?_,F.2.2⟩
    · rw [HR.out,← hk] at e
      cases e
    · rw [HR.out,← hk]
      exact F.2.1
  · obtain ⟨rfl,rfl⟩:=h2
    have HF:=Hd (HFX.out ts rfl)
    obtain ⟨hg1,hg2⟩:=hms ts rfl
    have hi7:=Hd (ris r (d+1) (.ok ts) cmB _ KX.out.rd)
    cases hc:isS 1 cmB (.ok ts) with
    | true =>
      rw [hc] at hi7
      have HC:=Hd hc
      clear hc h1 hms
      go_wp2_with fail
      refine hi7.out.mono ?_
      rintro e w6' ⟨rfl,hb6⟩
      have KX':=Hd (KX.out.next (KX.out.rd.below hb6) (Moved.of_below hb6))
      have HRR':=Hd (HRR.out.moved (Moved.of_below (r:=r) hb6) (by have:=KX.out.rb;omega))
      have hs7:=Hd (rshut r d (.ok ts) cmB _ HD.out KX'.out.rd)
      clear hb6 c0 c1 c2 c3 KX HRR
      have KX:=KX'
      have HRR:=HRR'
      go_wp2_with fail
      refine hs7.out.mono ?_
      rintro e w7 ⟨rfl,hh7,mm7⟩
      have M7:=Hd mm7
      have K7:=Hd (KX.out.next hh7 mm7)
      obtain ⟨k0,k1,k2,k3,k4,kz⟩:=gvc K7.out.loc
      obtain ⟨q0,q1,q2,q3,q4,qz⟩:=gvc K7.out.res
      have qf0:=qz 0
      have qf1:=qz 1
      have qf2:=qz 2
      have qf3:=qz 3
      have qf4:=qz 4
      clear hh7 mm7 kz qz
      go_wp2_with fail
      have F:=K7.out.fin (ys:=vaZ) [.int .i64 7,.int .i64 0,.string ⟨#[]⟩,.slice none 0 0,.slice Ao T.len co] rfl
      have TT:=rt_done (w:=w) (RTr.moved HRR.out M7.out (by have:=KX.out.rb;omega)) (by omega) (by have:=KX.out.bl;omega) [.int .i64 7,.int .i64 0,.string ⟨#[]⟩,.slice none 0 0,.slice Ao T.len co]
      refine ret_st (cs:=[.int .i64 7,.int .i64 0,.string ⟨#[]⟩,.slice none 0 0,.slice Ao T.len co]) rfl rfl rfl F.1 Tryz.underlying35 ⟨_,rfl⟩ (by kernel_rfl) ?_
      have hk:=HKX.out
      rw [ms_end HC.out] at hk
      refine ⟨_,_,_,_,_,_,_,_,_,rfl,⟨.cons (.one (.int .i64 7)) (.cons (.one (.int .i64 0)) (.cons (.one (.string ⟨#[]⟩)) (.cons (.row .nil) (.cons (.row T) .nil)))),TS.int (TS.int (TS.str (Nat.zero_le _) (TS.row (TP.none _ _) (TS.row TT (TS.nil _ _))))),fun a us e=>?_⟩,?_,F.2.2⟩
      · rw [HR.out,← hk] at e
        obtain ⟨a2,e2,rfl⟩:=map_ok e
        obtain ⟨a3,e3,rfl⟩:=map_ok e2
        rw [HF.out.1]
        rfl
      · rw [HR.out,← hk,aft_map,aft_map,show aftS (runS (fun ts=>Except.ok ((),ts)) (tkS cmB (.ok ts)))=tkS cmB (.ok ts) from aft_unit _]
        exact F.2.1
    | false =>
      rw [hc] at hi7
      have HNX:=Hd (by have hk:=HKX.out;rw [ms_next hc] at hk;exact hk)
      cases gk with
      | zero=>omega
      | succ g =>
        clear hc h1 hms
        go_wp2_with fail
        refine hi7.out.mono ?_
        rintro e w6' ⟨rfl,hb6⟩
        have KX':=Hd (KX.out.next (KX.out.rd.below hb6) (Moved.of_below hb6))
        have HRR':=Hd (HRR.out.moved (Moved.of_below (r:=r) hb6) (by have:=KX.out.rb;omega))
        have CV:=fun wx (hb:Below w6'.heap.size w6' wx)=>Hd (HIH.out fx (d+1) (.ok ts) r wx (fun us e=>by rw [← Except.ok.inj e];exact HF.out.2.1) (fun us e=>by rw [← Except.ok.inj e];exact HF.out.2.2.1) HF.out.2.2.2 (KX'.out.rd.below hb))
        clear hb6 c0 c1 c2 c3 KX HRR
        have KX:=KX'
        obtain ⟨m0,m1,m2,m3,m4,mz⟩:=gvc KX.out.loc
        have z3:=mz 4
        obtain ⟨xs,P,hown,hvals,hP⟩:=HRR'.out
        have HVB:Hid (∀ c,(Value.slice Ao T.len co).ownBlock=some c→b8 < c):=Hd (fun c hc=>by have:=(hown.lt c hc).1;omega)
        have HRT:=Hd (And.intro hown (And.intro hvals hP))
        clear mz hown hvals hP
        go_wp2_with fail
        refine wp_region_held_drew (S:=fun _=>True) (by kernel_rfl) trivial (fun _=>?_)
        refine wpAnyH_take (i:=0) (v:=?_) rfl (by kernel_rfl) (by kernel_rfl) (by kernel_rfl) (fun _ _ _ h=>h) (Or.inl ⟨by rfl,?_⟩) trivial ?_
        rotate_left
        · (intro w _;go_simp;try with_reducible rfl)
        simp only [Act.put,List.setIfInBounds_toArray]
        refine wpAnyH_take (i:=2) (v:=?_) rfl (by kernel_rfl) (by kernel_rfl) (by kernel_rfl) (fun _ _ _ h=>h) (Or.inl ⟨by rfl,?_⟩) trivial ?_
        rotate_left
        · (intro w _;go_simp;try with_reducible rfl)
        simp only [Act.put]
        refine wpAnyH_take (i:=3) (v:=?_) rfl (by kernel_rfl) (by kernel_rfl) (by kernel_rfl) (fun _ _ _ h=>h) (Or.inl ⟨by rfl,?_⟩) trivial ?_
        rotate_left
        · (intro w _;go_simp;try with_reducible rfl)
        simp only [Act.put]
        refine wpAnyH_ready (rs:=[1,4]) (by kernel_rfl) (by simp) ?_
        refine AllReadyH.cons rfl (fun K hK=>?_) ?_
        · go_simp
          refine hK.out _ _ trivial (fun _=>?_)
          clear hK K
          try simp only [Act.put,stT,stZ,stS]
          refine wpAnyH_ready (rs:=[4]) (by kernel_rfl) (by simp) ?_
          refine AllReadyH.cons rfl (fun K hK=>?_) AllReadyH.nil
          go_simp
          go_at_call 126
          refine (CV _ (Below.drew (Below.refl _ _))).out.mono ?_
          rintro e w3 ⟨nm,vk,vn,vs,A3,n3,k3,A4,n4,k4,rfl,⟨xt,hts,hxe⟩,r3,m3⟩
          have HM3:=Hd ((Moved.of_below (r:=r) (Below.drew (Below.refl _ _))).trans m3)
          have HTS:=Hd hts
          have HXE:=Hd hxe
          have K3:=Hd (KX.out.next r3 HM3.out)
          clear hts hxe r3 m3
          obtain ⟨j0,j1,j2,j3,j4,jz⟩:=gvc K3.out.loc
          have y3:=jz 4
          have jA:=fun o=>(World.cell?_of_block (a:=⟨b8,4,none⟩) (Below.heap_alloc w3 o _ K3.out.blt)).trans j4
          clear jz m0 m1 m2 m3 m4 z3
          go_wp2_with fail
          refine hK.out _ _ trivial (fun _=>?_)
          clear hK K
          try simp only [Act.put,stT,stZ,stS]
          refine wpAnyH_ready (rs:=[5]) (by kernel_rfl) (by simp) ?_
          refine AllReadyH.cons rfl (fun K hK=>?_) AllReadyH.nil
          go_simp
          refine hK.out _ _ trivial (fun _=>?_)
          clear hK K
          try simp only [Act.put,stT,stZ,stS]
          refine wpAnyH_ready (rs:=[6]) (by kernel_rfl) (by simp) ?_
          refine AllReadyH.cons rfl (fun K hK=>?_) AllReadyH.nil
          refine step_append_lies _ (by rfl) _ _ 33 (by rfl) (b8+1) 98 i0 (.agg #[.string ⟨#[]⟩,.int .i64 0,.int .i64 0,.string ⟨#[]⟩,.slice none 0 0,.slice none 0 0]) 6 96 Tryz.underlying33 hi hz0 hz1 hz2 (by rfl) (by decide) _ T.len xs (by rfl) (own_low (own_moved HRT.out.1 HM3.out (by have:=KX.out.rb;omega)) ((Below.refl _ _).alloc (Nat.le_refl _) _)) _ 1 1 [.string nm,.int .i64 vk,.int .i64 vn,.string vs,.slice A3 n3 k3,.slice A4 n4 k4] (by rfl) (by rfl) (cells_new _ _ _ (by first|rfl|(simp;done))) (by intro y hy;simp at hy;rcases hy with rfl|rfl|rfl|rfl|rfl|rfl<;>rfl) (by decide) (by unfold maxLen;omega) (by omega) (by have h1:=K3.out.blt;simp;omega) _ rfl ?_
          intro gg cap2 w4 hown4 hgrow hat hlt4
          have HG4:=Hd hgrow
          have HO4:=Hd hown4
          have HT4:=Hd hat
          have K4:=Hd (K3.out.grown hgrow HVB.out)
          obtain ⟨x0,x1,x2,x3,x4,xz⟩:=gvc K4.out.loc
          have u3:=xz 4
          clear hgrow hown4 hat xz j0 j1 j2 j3 j4 y3 jA
          refine hK.out _ _ trivial (fun _=>?_)
          clear hK K
          simp only [Act.put,List.setIfInBounds_toArray]
          refine wpAnyH_ready (rs:=[7]) (by kernel_rfl) (by simp) ?_
          refine AllReadyH.cons rfl (fun K hK=>?_) AllReadyH.nil
          go_simp
          refine hK.out _ _ trivial (fun _=>?_)
          clear hK K
          try simp only [Act.put,stT,stZ,stS]
          refine wpAnyH_ready (rs:=[8]) (by kernel_rfl) (by simp) ?_
          refine AllReadyH.cons rfl (fun K hK=>?_) AllReadyH.nil
          go_simp
          refine hK.out _ _ trivial (fun _=>?_)
          clear hK K
          try simp only [Act.put,stT,stZ,stS]
          refine wpAnyH_done (by kernel_rfl) ?_ _
          go_wp2_with fail
          have T4:=RTr.app (by have:=KX.out.rb;omega) (Nat.succ_le_of_lt KX.out.blt) HRT.out.1 HRT.out.2.1 HRT.out.2.2 HM3.out HTS.out HO4.out HG4.out HT4.out
          have hrun:=HNX.out
          go_roundg g
          case measure=>omega
          case rel =>
            rcases hR1:runS (memD fx (d+1)) (.ok ts) with y|a
            · rw [hR1] at hrun
              have K5:=K4.out.put 4 (.slice (some ⟨gg,0,none⟩) (T.len+1) cap2)
              rw [hR1] at K5
              exact ⟨.error y,l,T.snoc xt,_,(fun us e=>by cases e),by rw [TrL.snoc_len];omega,vaside ⟨K5,T4.moved Moved.set (Nat.lt_succ_self _),hrun,fun us e=>by cases e⟩⟩
            · rw [hR1] at hrun
              have K5:=K4.out.put 4 (.slice (some ⟨gg,0,none⟩) (T.len+1) cap2)
              rw [hR1] at K5
              have hsf:=mem_sfx hR1
              refine ⟨.ok a.2,l.snoc a.1.1 a.1.2,T.snoc xt,_,(fun us e=>?_),by rw [TrL.snoc_len];omega,vaside ⟨K5,T4.moved Moved.set (Nat.lt_succ_self _),hrun,fun us e=>?_⟩⟩
              · have e:=Except.ok.inj e
                subst e
                have:=hsf.2
                rw [TrL.snoc_len]
                exact ⟨by omega,by omega⟩
              · have e:=Except.ok.inj e
                subst e
                have hf:=HF.out.1
                refine ⟨?_,good_sfx hsf.1 HF.out.2.1,Nat.le_trans (Nat.le_of_lt hsf.2) HF.out.2.2.1,HF.out.2.2.2⟩
                rw [hf,HXE.out a.1 a.2 (by rw [hR1])]
                exact (encM_snoc l a.1.1 a.1.2).symm
        refine AllReadyH.cons rfl (fun K hK=>?_) AllReadyH.nil
        go_simp
        go_at_call 126
        refine (CV _ (Below.drew (Below.refl _ _))).out.mono ?_
        rintro e w3 ⟨nm,vk,vn,vs,A3,n3,k3,A4,n4,k4,rfl,⟨xt,hts,hxe⟩,r3,m3⟩
        have HM3:=Hd ((Moved.of_below (r:=r) (Below.drew (Below.refl _ _))).trans m3)
        have HTS:=Hd hts
        have HXE:=Hd hxe
        have K3:=Hd (KX.out.next r3 HM3.out)
        clear hts hxe r3 m3
        obtain ⟨j0,j1,j2,j3,j4,jz⟩:=gvc K3.out.loc
        have y3:=jz 4
        have jA:=fun o=>(World.cell?_of_block (a:=⟨b8,4,none⟩) (Below.heap_alloc w3 o _ K3.out.blt)).trans j4
        clear jz m0 m1 m2 m3 m4 z3
        go_wp2_with fail
        refine hK.out _ _ trivial (fun _=>?_)
        clear hK K
        try simp only [Act.put,stT,stZ,stS]
        refine wpAnyH_ready (rs:=[1,5]) (by kernel_rfl) (by simp) ?_
        refine AllReadyH.cons rfl (fun K hK=>?_) ?_
        · go_simp
          refine hK.out _ _ trivial (fun _=>?_)
          clear hK K
          try simp only [Act.put,stT,stZ,stS]
          refine wpAnyH_ready (rs:=[5]) (by kernel_rfl) (by simp) ?_
          refine AllReadyH.cons rfl (fun K hK=>?_) AllReadyH.nil
          go_simp
          refine hK.out _ _ trivial (fun _=>?_)
          clear hK K
          try simp only [Act.put,stT,stZ,stS]
          refine wpAnyH_ready (rs:=[6]) (by kernel_rfl) (by simp) ?_
          refine AllReadyH.cons rfl (fun K hK=>?_) AllReadyH.nil
          refine step_append_lies _ (by rfl) _ _ 33 (by rfl) (b8+1) 98 i0 (.agg #[.string ⟨#[]⟩,.int .i64 0,.int .i64 0,.string ⟨#[]⟩,.slice none 0 0,.slice none 0 0]) 6 96 Tryz.underlying33 hi hz0 hz1 hz2 (by rfl) (by decide) _ T.len xs (by rfl) (own_low (own_moved HRT.out.1 HM3.out (by have:=KX.out.rb;omega)) ((Below.refl _ _).alloc (Nat.le_refl _) _)) _ 1 1 [.string nm,.int .i64 vk,.int .i64 vn,.string vs,.slice A3 n3 k3,.slice A4 n4 k4] (by rfl) (by rfl) (cells_new _ _ _ (by first|rfl|(simp;done))) (by intro y hy;simp at hy;rcases hy with rfl|rfl|rfl|rfl|rfl|rfl<;>rfl) (by decide) (by unfold maxLen;omega) (by omega) (by have h1:=K3.out.blt;simp;omega) _ rfl ?_
          intro gg cap2 w4 hown4 hgrow hat hlt4
          have HG4:=Hd hgrow
          have HO4:=Hd hown4
          have HT4:=Hd hat
          have K4:=Hd (K3.out.grown hgrow HVB.out)
          obtain ⟨x0,x1,x2,x3,x4,xz⟩:=gvc K4.out.loc
          have u3:=xz 4
          clear hgrow hown4 hat xz j0 j1 j2 j3 j4 y3 jA
          refine hK.out _ _ trivial (fun _=>?_)
          clear hK K
          simp only [Act.put,List.setIfInBounds_toArray]
          refine wpAnyH_ready (rs:=[7]) (by kernel_rfl) (by simp) ?_
          refine AllReadyH.cons rfl (fun K hK=>?_) AllReadyH.nil
          go_simp
          refine hK.out _ _ trivial (fun _=>?_)
          clear hK K
          try simp only [Act.put,stT,stZ,stS]
          refine wpAnyH_ready (rs:=[8]) (by kernel_rfl) (by simp) ?_
          refine AllReadyH.cons rfl (fun K hK=>?_) AllReadyH.nil
          go_simp
          refine hK.out _ _ trivial (fun _=>?_)
          clear hK K
          try simp only [Act.put,stT,stZ,stS]
          refine wpAnyH_done (by kernel_rfl) ?_ _
          go_wp2_with fail
          have T4:=RTr.app (by have:=KX.out.rb;omega) (Nat.succ_le_of_lt KX.out.blt) HRT.out.1 HRT.out.2.1 HRT.out.2.2 HM3.out HTS.out HO4.out HG4.out HT4.out
          have hrun:=HNX.out
          go_roundg g
          case measure=>omega
          case rel =>
            rcases hR1:runS (memD fx (d+1)) (.ok ts) with y|a
            · rw [hR1] at hrun
              have K5:=K4.out.put 4 (.slice (some ⟨gg,0,none⟩) (T.len+1) cap2)
              rw [hR1] at K5
              exact ⟨.error y,l,T.snoc xt,_,(fun us e=>by cases e),by rw [TrL.snoc_len];omega,vaside ⟨K5,T4.moved Moved.set (Nat.lt_succ_self _),hrun,fun us e=>by cases e⟩⟩
            · rw [hR1] at hrun
              have K5:=K4.out.put 4 (.slice (some ⟨gg,0,none⟩) (T.len+1) cap2)
              rw [hR1] at K5
              have hsf:=mem_sfx hR1
              refine ⟨.ok a.2,l.snoc a.1.1 a.1.2,T.snoc xt,_,(fun us e=>?_),by rw [TrL.snoc_len];omega,vaside ⟨K5,T4.moved Moved.set (Nat.lt_succ_self _),hrun,fun us e=>?_⟩⟩
              · have e:=Except.ok.inj e
                subst e
                have:=hsf.2
                rw [TrL.snoc_len]
                exact ⟨by omega,by omega⟩
              · have e:=Except.ok.inj e
                subst e
                have hf:=HF.out.1
                refine ⟨?_,good_sfx hsf.1 HF.out.2.1,Nat.le_trans (Nat.le_of_lt hsf.2) HF.out.2.2.1,HF.out.2.2.2⟩
                rw [hf,HXE.out a.1 a.2 (by rw [hR1])]
                exact (encM_snoc l a.1.1 a.1.2).symm
        refine AllReadyH.cons rfl (fun K hK=>?_) AllReadyH.nil
        go_simp
        refine hK.out _ _ trivial (fun _=>?_)
        clear hK K
        try simp only [Act.put,stT,stZ,stS]
        refine wpAnyH_ready (rs:=[1]) (by kernel_rfl) (by simp) ?_
        refine AllReadyH.cons rfl (fun K hK=>?_) AllReadyH.nil
        go_simp
        refine hK.out _ _ trivial (fun _=>?_)
        clear hK K
        try simp only [Act.put,stT,stZ,stS]
        refine wpAnyH_ready (rs:=[6]) (by kernel_rfl) (by simp) ?_
        refine AllReadyH.cons rfl (fun K hK=>?_) AllReadyH.nil
        refine step_append_lies _ (by rfl) _ _ 33 (by rfl) (b8+1) 98 i0 (.agg #[.string ⟨#[]⟩,.int .i64 0,.int .i64 0,.string ⟨#[]⟩,.slice none 0 0,.slice none 0 0]) 6 96 Tryz.underlying33 hi hz0 hz1 hz2 (by rfl) (by decide) _ T.len xs (by rfl) (own_low (own_moved HRT.out.1 HM3.out (by have:=KX.out.rb;omega)) ((Below.refl _ _).alloc (Nat.le_refl _) _)) _ 1 1 [.string nm,.int .i64 vk,.int .i64 vn,.string vs,.slice A3 n3 k3,.slice A4 n4 k4] (by rfl) (by rfl) (cells_new _ _ _ (by first|rfl|(simp;done))) (by intro y hy;simp at hy;rcases hy with rfl|rfl|rfl|rfl|rfl|rfl<;>rfl) (by decide) (by unfold maxLen;omega) (by omega) (by have h1:=K3.out.blt;simp;omega) _ rfl ?_
        intro gg cap2 w4 hown4 hgrow hat hlt4
        have HG4:=Hd hgrow
        have HO4:=Hd hown4
        have HT4:=Hd hat
        have K4:=Hd (K3.out.grown hgrow HVB.out)
        obtain ⟨x0,x1,x2,x3,x4,xz⟩:=gvc K4.out.loc
        have u3:=xz 4
        clear hgrow hown4 hat xz j0 j1 j2 j3 j4 y3 jA
        refine hK.out _ _ trivial (fun _=>?_)
        clear hK K
        simp only [Act.put,List.setIfInBounds_toArray]
        refine wpAnyH_ready (rs:=[7]) (by kernel_rfl) (by simp) ?_
        refine AllReadyH.cons rfl (fun K hK=>?_) AllReadyH.nil
        go_simp
        refine hK.out _ _ trivial (fun _=>?_)
        clear hK K
        try simp only [Act.put,stT,stZ,stS]
        refine wpAnyH_ready (rs:=[8]) (by kernel_rfl) (by simp) ?_
        refine AllReadyH.cons rfl (fun K hK=>?_) AllReadyH.nil
        go_simp
        refine hK.out _ _ trivial (fun _=>?_)
        clear hK K
        try simp only [Act.put,stT,stZ,stS]
        refine wpAnyH_done (by kernel_rfl) ?_ _
        go_wp2_with fail
        have T4:=RTr.app (by have:=KX.out.rb;omega) (Nat.succ_le_of_lt KX.out.blt) HRT.out.1 HRT.out.2.1 HRT.out.2.2 HM3.out HTS.out HO4.out HG4.out HT4.out
        have hrun:=HNX.out
        go_roundg g
        case measure=>omega
        case rel =>
          rcases hR1:runS (memD fx (d+1)) (.ok ts) with y|a
          · rw [hR1] at hrun
            have K5:=K4.out.put 4 (.slice (some ⟨gg,0,none⟩) (T.len+1) cap2)
            rw [hR1] at K5
            exact ⟨.error y,l,T.snoc xt,_,(fun us e=>by cases e),by rw [TrL.snoc_len];omega,vaside ⟨K5,T4.moved Moved.set (Nat.lt_succ_self _),hrun,fun us e=>by cases e⟩⟩
          · rw [hR1] at hrun
            have K5:=K4.out.put 4 (.slice (some ⟨gg,0,none⟩) (T.len+1) cap2)
            rw [hR1] at K5
            have hsf:=mem_sfx hR1
            refine ⟨.ok a.2,l.snoc a.1.1 a.1.2,T.snoc xt,_,(fun us e=>?_),by rw [TrL.snoc_len];omega,vaside ⟨K5,T4.moved Moved.set (Nat.lt_succ_self _),hrun,fun us e=>?_⟩⟩
            · have e:=Except.ok.inj e
              subst e
              have:=hsf.2
              rw [TrL.snoc_len]
              exact ⟨by omega,by omega⟩
            · have e:=Except.ok.inj e
              subst e
              have hf:=HF.out.1
              refine ⟨?_,good_sfx hsf.1 HF.out.2.1,Nat.le_trans (Nat.le_of_lt hsf.2) HF.out.2.2.1,HF.out.2.2.2⟩
              rw [hf,HXE.out a.1 a.2 (by rw [hR1])]
              exact (encM_snoc l a.1.1 a.1.2).symm
end Go.Proofs.YtpkmbhnikilihaaGreatDoor
