/- The document's reader of values, whole. -/
import Derived.Test.YtpkmbhnikilihaaGreatDoorQv43
set_option maxRecDepth 100000
set_option maxHeartbeats 4000000
namespace Go.Proofs.YtpkmbhnikilihaaGreatDoor
open Go.RowKit
theorem at_lit1 {s t:ByteArray} {ts:List Tok} (h:atB 1 s ts=true) (hne:(s.data.toList == t.data.toList)=false):atB 1 t ts=false:=by
 rcases ts with _|⟨u,us⟩
 · cases h
 · have e:(u.1 == 1 && (u.2.toList == s.toList))=true:=h
   rw [Bool.and_eq_true] at e
   have e2:u.2.toList=s.toList:=by simpa using e.2
   show (u.1 == 1 && (u.2.toList == t.toList))=false
   rw [e2,e.1,Lib.toList_data,Lib.toList_data,hne];rfl
theorem is_excl {s t:ByteArray} {S:StP} (h:isS 1 s S=true) (hne:(s.data.toList == t.data.toList)=false):isS 1 t S=false:=by
 rcases S with y|ts
 · cases h
 · exact at_lit1 h hne
theorem pval_var (d:Nat) {S:StP} (h:isS 1 dolB S=true):runS (valD false d) S=mapE (fun _=>.mk 8 0 (nmV (tkS dolB S)) .nil .nil) (runS unitR (nmS (tkS dolB S))):=by
 have h0:=is_excl (t:=oB) h (by decide)
 have h1:=is_excl (t:=omB) h (by decide)
 obtain ⟨t,ts,rfl,h2⟩:=tk_yes h
 have a0:atB 1 oB (t :: ts)=false:=h0
 have a1:atB 1 omB (t :: ts)=false:=h1
 have a2:atB 1 dolB (t :: ts)=true:=h
 rw [h2]
 show valD false d (t :: ts)=_
 rw [valD_eq]
 simp only [ifR,varV,a0,a1,a2,Bool.false_eq_true,if_false,if_true,List.tail_cons,nmR,nmS,nmV]
 cases nameR ts<;>rfl
theorem val_fail (fx:Bool) (d:Nat) {S:StP} (h0:isS 1 oB S=false) (h1:isS 1 omB S=false) (h2:(isS 1 dolB S && !fx)=false) (h3:∀ t ts,S=.ok (t :: ts)→singleR t=none):(∀ a ts,runS (valD fx d) S ≠ .ok (a,ts))∧aftS (runS (valD fx d) S)=failS 2 S:=by
 rcases S with y|ts
 · exact ⟨fun a ts h=>(by cases h),rfl⟩
 · have a0:atB 1 oB ts=false:=h0
   have a1:atB 1 omB ts=false:=h1
   have a2:(atB 1 dolB ts && !fx)=false:=h2
   have h1:oneR ts=.error 2:=by
     rcases ts with _|⟨t,us⟩
     · rfl
     · exact oneR_no (h3 t us rfl)
   have e:valD fx d ts=.error 2:=by
     rw [valD_eq]
     simp only [ifR,a0,a1,Bool.false_eq_true,if_false]
     cases fx with
     | true=>rw [if_pos rfl];exact h1
     | false =>
       have a3:atB 1 dolB ts=false:=by simpa using a2
       rw [if_neg (by simp)]
       simp only [varV,ifR,a3,Bool.false_eq_true,if_false]
       exact h1
   refine ⟨fun a us h=>?_,?_⟩
   · have h:valD fx d ts=.ok (a,us):=h
     rw [e] at h;cases h
   · show aftS (valD fx d ts)=_
     rw [e];rfl
theorem flat_ts {w:World} {P:Nat→Prop} {k n:Int} {s:ByteArray} (hs:s.size≤9000):TS w P (encV (.mk k n s .nil .nil)) [.int .i64 k,.int .i64 n,.string s,.slice none 0 0,.slice none 0 0]:=
 TS.int (TS.int (TS.str hs (TS.row (TP.none _ _) (TS.row (TP.none _ _) (TS.nil _ _)))))
theorem flat_to {fx:Bool} {d r:Nat} {t:Tok} {ts:List Tok} {k n:Int} {s:ByteArray} {w w':World} {e:Ending} (h1:t.1 ≠ 1) (h:singleR t=some (k,n,s)) (hs:s.size≤9000) (hf:FlatTo r d ts k n s w e w'):ValTo fx d r (.ok (t :: ts)) w e w':=by
 obtain ⟨rfl,h2,h3⟩:=hf
 have hr:runS (valD fx d) (.ok (t :: ts))=.ok (.mk k n s .nil .nil,ts):=word_read fx d ts h1 h
 refine ⟨_,_,_,_,_,_,_,_,_,rfl,⟨_,flat_ts hs,fun a us e=>?_⟩,by rw [hr];exact h2,h3⟩
 rw [hr] at e
 have e:=(Prod.mk.inj (Except.ok.inj e)).1
 rw [← e]
theorem rv_var (d r:Nat) (tx:ByteArray) (us:List Tok) (w:World) (hG:GoodT us) (hb:isS 1 dolB (.ok ((1,tx) :: us))=true) (h:RP w r d (.ok ((1,tx) :: us))):Calls Tryz.prog 50 #[.pointer (some ⟨r,0,none⟩),.bool false] w (ValTo false d r (.ok ((1,tx) :: us)) w):=by
 have HR:=Hd (pval_var d hb)
 have hns:(nmV (tkS dolB (.ok ((1,tx) :: us)))).size≤9000:=by
   obtain ⟨t9,ts9,e9,e8⟩:=tk_yes hb
   rw [e8]
   have e9:=Except.ok.inj e9
   injection e9 with _ e9
   subst e9
   simp only [nmV]
   cases hn:nameR us with
   | none=>exact Nat.zero_le _
   | some a=>exact (hG.name (s:=a.1) (r:=a.2) hn).1
 have HNS:=Hd hns
 have K0:=Hd (Q0.start h #[.int .i64 0,.int .i64 0,.string ⟨#[]⟩,.slice none 0 0,.slice none 0 0] 35)
 have HP:Hid (Calls Tryz.prog 107 #[.pointer (some ⟨r,0,none⟩)] (w.alloc (.cells #[.int .i64 0,.int .i64 0,.string ⟨#[]⟩,.slice none 0 0,.slice none 0 0] 35)) fun e w'=>e=.returned (.agg #[.int .i64 1,.string tx])∧Below (w.alloc (.cells #[.int .i64 0,.int .i64 0,.string ⟨#[]⟩,.slice none 0 0,.slice none 0 0] 35)).heap.size (w.alloc (.cells #[.int .i64 0,.int .i64 0,.string ⟨#[]⟩,.slice none 0 0,.slice none 0 0] 35)) w'):=Hd (rpeek r d _ _ K0.out.rd)
 have HB:=Hd hb
 clear h hG hns hb
 go_enter Tryz.func50,Tryz.ntmps50
 go_wp2_with fail
 refine HP.out.mono ?_
 rintro e w1 ⟨rfl,hb1⟩
 have K1:=Hd (K0.out.next (K0.out.rd.below hb1) (Moved.of_below hb1))
 have K2:=Hd (K1.out.next (K1.out.rd.below (blw w1 (.cells #[.int .i64 1,.string tx] 70))) (Moved.of_below (blw w1 (.cells #[.int .i64 1,.string tx] 70))))
 have I2:=Hd (ris r d _ dolB _ K2.out.rd)
 rw [HB.out] at I2
 clear hb1
 go_wp2_with fail
 refine I2.out.mono ?_
 rintro e w3 ⟨rfl,hb3⟩
 have K3:=Hd (K2.out.next (K2.out.rd.below hb3) (Moved.of_below hb3))
 have T3:=Hd (rtake r d _ dolB _ K3.out.rd)
 clear hb3 I2
 go_wp2_with fail
 refine T3.out.mono ?_
 rintro e w4 ⟨rfl,h4,m4⟩
 have K4:=Hd (K3.out.next h4 m4)
 have N4:=Hd (rname r d _ _ K4.out.rd)
 clear h4 m4 T3
 go_wp2_with fail
 refine N4.out.mono ?_
 rintro e w5 ⟨rfl,h5,m5⟩
 have K5:=Hd (K4.out.next h5 m5)
 obtain ⟨q0,q1,q2,q3,q4,qz⟩:=gvc K5.out.res
 have qf0:=qz 0
 have qf1:=qz 1
 have qf2:=qz 2
 have qf3:=qz 3
 have qf4:=qz 4
 clear h5 m5 N4 qz
 go_wp2_with fail
 have F:=K5.out.fin (ys:=vaZ) [.int .i64 8,.int .i64 0,.string (nmV (tkS dolB (.ok ((1,tx) :: us)))),.slice none 0 0,.slice none 0 0] rfl
 refine ret_st (cs:=[.int .i64 8,.int .i64 0,.string (nmV (tkS dolB (.ok ((1,tx) :: us)))),.slice none 0 0,.slice none 0 0]) rfl rfl rfl F.1 Tryz.underlying35 ⟨_,rfl⟩ (by kernel_rfl) ?_
 refine ⟨_,_,_,_,_,_,_,_,_,rfl,⟨_,flat_ts HNS.out,fun a ts e=>?_⟩,?_,F.2.2⟩
 · rw [HR.out] at e
   obtain ⟨_,rfl⟩:=unit_ok e
   rfl
 · rw [HR.out,aft_map,aft_unit]
   exact F.2.1
theorem rv_fail (fx:Bool) (d r:Nat) (S:StP) (w:World) (e2:((peekT S).1 == 2)=false) (e3:((peekT S).1 == 3)=false) (e4:((peekT S).1 == 4)=false) (e5:((peekT S).1 == 5)=false) (h0:isS 1 oB S=false) (h1:isS 1 omB S=false) (h2:(isS 1 dolB S && !fx)=false) (h:RP w r d S):Calls Tryz.prog 50 #[.pointer (some ⟨r,0,none⟩),.bool fx] w (ValTo fx d r S w):=by
 have HR:=Hd (val_fail fx d h0 h1 h2 (fun t ts e=>by
  subst e
  have e2:(t.1 == 2)=false:=e2
  have e3:(t.1 == 3)=false:=e3
  have e4:(t.1 == 4)=false:=e4
  have e5:(t.1 == 5)=false:=e5
  unfold singleR
  rw [if_neg (by simpa using e2),if_neg (by simpa using e3),if_neg (by simpa using e4),if_neg (by simpa using e5)]))
 have K0:=Hd (Q0.start h #[.int .i64 0,.int .i64 0,.string ⟨#[]⟩,.slice none 0 0,.slice none 0 0] 35)
 have HP:=Hd (rpeek r d S _ K0.out.rd)
 have HB:=Hd (And.intro h0 h1)
 obtain ⟨q,hq⟩:∃ q,peekT S=q:=⟨_,rfl⟩
 rw [hq] at HP e2 e3 e4 e5
 obtain ⟨tk,tx⟩:=q
 dsimp only at HP e2 e3 e4 e5
 obtain ⟨bd,hbd⟩:∃ b,isS 1 dolB S=b:=⟨_,rfl⟩
 rw [hbd] at h2
 have HBD:=Hd hbd
 clear h hq h0 h1 hbd
 go_enter Tryz.func50,Tryz.ntmps50
 go_wp2_with fail
 refine HP.out.mono ?_
 rintro e w1 ⟨rfl,hb1⟩
 have K1:=Hd (K0.out.next (K0.out.rd.below hb1) (Moved.of_below hb1))
 have K2:=Hd (K1.out.next (K1.out.rd.below (blw w1 (.cells #[.int .i64 tk,.string tx] 70))) (Moved.of_below (blw w1 (.cells #[.int .i64 tk,.string tx] 70))))
 have I2:=Hd (ris r d _ dolB _ K2.out.rd)
 rw [HBD.out] at I2
 clear hb1
 go_wp2_with fail
 refine I2.out.mono ?_
 rintro e w3 ⟨rfl,hb3⟩
 have K3:=Hd (K2.out.next (K2.out.rd.below hb3) (Moved.of_below hb3))
 have I3:=Hd (ris r d _ oB _ K3.out.rd)
 rw [HB.out.1] at I3
 have hcase:bd=false∨(bd=true∧fx=true):=by cases bd<;>cases fx<;>simp_all
 clear hb3 I2 h2
 rcases hcase with rfl|⟨rfl,rfl⟩
 all_goals
  go_wp2_with fail
  refine I3.out.mono ?_
  rintro e w4 ⟨rfl,hb4⟩
  have K4:=Hd (K3.out.next (K3.out.rd.below hb4) (Moved.of_below hb4))
  have I4:=Hd (ris r d _ omB _ K4.out.rd)
  rw [HB.out.2] at I4
  clear hb4
  go_wp2_with fail
  refine I4.out.mono ?_
  rintro e w5 ⟨rfl,hb5⟩
  have K5:=Hd (K4.out.next (K4.out.rd.below hb5) (Moved.of_below hb5))
  have F5:=Hd (rfail r d _ 2 (by decide) _ K5.out.rd)
  clear hb5
  go_wp2_with fail
  refine F5.out.mono ?_
  rintro e w6 ⟨rfl,h6,m6⟩
  have K6:=Hd (K5.out.next h6 m6)
  obtain ⟨q0,q1,q2,q3,q4,qz⟩:=gvc K6.out.res
  have qf0:=qz 0
  have qf1:=qz 1
  have qf2:=qz 2
  have qf3:=qz 3
  have qf4:=qz 4
  clear h6 m6 qz
  go_wp2_with fail
  have F:=K6.out.fin (ys:=vaZ) [.int .i64 0,.int .i64 0,.string ⟨#[]⟩,.slice none 0 0,.slice none 0 0] rfl
  refine ret_st (cs:=[.int .i64 0,.int .i64 0,.string ⟨#[]⟩,.slice none 0 0,.slice none 0 0]) rfl rfl rfl F.1 Tryz.underlying35 ⟨_,rfl⟩ (by kernel_rfl) ?_
  refine ⟨_,_,_,_,_,_,_,_,_,rfl,⟨_,flat_ts (Nat.zero_le _),fun a ts e=>absurd e (HR.out.1 a ts)⟩,?_,F.2.2⟩
  rw [HR.out.2]
  exact F.2.1
theorem eq_b {s:ByteArray} {l:List UInt8} : (s.data.toList=l) ↔ (s.toList == l)=true:=by
 rw [Lib.toList_data];simp
theorem val_step2 (N:Nat) (IHV:ValH N) (IHM:MemH N):ValH (N+1):=by
 intro fx d S r w hG hL hd h
 by_cases hk:(peekT S).1=0∨(peekT S).1=1∨((peekT S).1 ≠ 2∧(peekT S).1 ≠ 3∧(peekT S).1 ≠ 4∧(peekT S).1 ≠ 5)
 · have e2 : ((peekT S).1 == 2)=false:=by simp;omega
   have e3:((peekT S).1 == 3)=false:=by simp;omega
   have e4:((peekT S).1 == 4)=false:=by simp;omega
   have e5:((peekT S).1 == 5)=false:=by simp;omega
   cases h0:isS 1 oB S with
   | true =>
     have hdl:=is_excl (t:=dolB) h0 (by decide)
     obtain ⟨t,ts,rfl,_⟩:=tk_yes h0
     obtain ⟨tk,tx⟩:=t
     have:tk=1:=by
       have e:(tk == 1 && (tx.toList == oB.toList))=true:=h0
       rw [Bool.and_eq_true] at e
       simpa using e.1
     subst this
     exact rv_list N IHV fx d r tx ts w (hG _ rfl) (by have:=hL _ rfl;simpa using this) hd hdl h0 h
   | false =>
     cases h1:isS 1 omB S with
     | true =>
       have hdl:=is_excl (t:=dolB) h1 (by decide)
       obtain ⟨t,ts,rfl,_⟩:=tk_yes h1
       obtain ⟨tk,tx⟩:=t
       have:tk=1:=by
         have e:(tk == 1 && (tx.toList == omB.toList))=true:=h1
         rw [Bool.and_eq_true] at e
         simpa using e.1
       subst this
       exact rv_map N IHM fx d r tx ts w (hG _ rfl) (by have:=hL _ rfl;simpa using this) hd hdl h0 h1 h
     | false =>
       cases h2:(isS 1 dolB S && !fx) with
       | false=>exact rv_fail fx d r S w e2 e3 e4 e5 h0 h1 h2 h
       | true =>
         rw [Bool.and_eq_true] at h2
         obtain ⟨h2,hf⟩:=h2
         have:fx=false:=by simpa using hf
         subst this
         obtain ⟨t,ts,rfl,_⟩:=tk_yes h2
         obtain ⟨tk,tx⟩:=t
         have:tk=1:=by
           have e:(tk == 1 && (tx.toList == dolB.toList))=true:=h2
           rw [Bool.and_eq_true] at e
           simpa using e.1
         subst this
         exact rv_var d r tx ts w (fun t ht=>hG _ rfl t (List.mem_cons_of_mem _ ht)) h2 h
 · rcases S with y|ts
   · exact absurd (.inl rfl) hk
   · rcases ts with _|⟨t,ts⟩
     · exact absurd (.inl rfl) hk
     · obtain ⟨tk,tx⟩:=t
       obtain ⟨hsz,hk3⟩:=hG _ rfl (tk,tx) (List.mem_cons_self ..)
       have hk':tk=2∨tk=3∨tk=4∨tk=5:=by
         have hk : ¬ (tk=0∨tk=1∨(tk ≠ 2∧tk ≠ 3∧tk ≠ 4∧tk ≠ 5)):=hk
         omega
       rcases hk' with rfl|rfl|rfl|rfl
       · cases b1:(tx.toList == [110,117,108,108]) with
         | true =>
           exact (rv_null fx d r tx ts w b1 h).mono fun e w' hf=>flat_to (by dsimp only;decide) (by unfold singleR wordR nullL;rw [if_pos rfl,if_pos (eq_b.2 b1)]) (Nat.zero_le _) hf
         | false =>
           have n1 : ¬ (tx.data.toList=[110,117,108,108]):=fun e=>by rw [eq_b.1 e] at b1;cases b1
           cases b2:(tx.toList == [116,114,117,101]) with
           | true =>
             exact (rv_true fx d r tx ts w b1 b2 h).mono fun e w' hf=>flat_to (by dsimp only;decide) (by unfold singleR wordR nullL trueL;rw [if_pos rfl,if_neg n1,if_pos (eq_b.2 b2)]) (Nat.zero_le _) hf
           | false =>
             have n2 : ¬ (tx.data.toList=[116,114,117,101]):=fun e=>by rw [eq_b.1 e] at b2;cases b2
             cases b3:(tx.toList == [102,97,108,115,101]) with
             | true =>
               exact (rv_false fx d r tx ts w b1 b2 b3 h).mono fun e w' hf=>flat_to (by dsimp only;decide) (by unfold singleR wordR nullL trueL falseL;rw [if_pos rfl,if_neg n1,if_neg n2,if_pos (eq_b.2 b3)]) (Nat.zero_le _) hf
             | false =>
               have n3 : ¬ (tx.data.toList=[102,97,108,115,101]):=fun e=>by rw [eq_b.1 e] at b3;cases b3
               exact (rv_enum fx d r tx ts w b1 b2 b3 h).mono fun e w' hf=>flat_to (by dsimp only;decide) (by unfold singleR wordR nullL trueL falseL;rw [if_pos rfl,if_neg n1,if_neg n2,if_neg n3]) hsz hf
       · have hk9:=hk3 rfl
         cases hf:fits64 (intN tx.data.toList) with
         | true =>
           exact (rv_int fx d r tx ts w hsz hk9 hf h).mono fun e w' hq=>flat_to (by dsimp only;decide) (by unfold singleR;rw [if_neg (by dsimp only;decide),if_pos rfl,if_pos hf]) (Nat.zero_le _) hq
         | false =>
           exact (rv_big fx d r tx ts w hsz hk9 hf h).mono fun e w' hq=>flat_to (by dsimp only;decide) (by unfold singleR;rw [if_neg (by dsimp only;decide),if_pos rfl,if_neg (by rw [hf];simp)]) hsz hq
       · exact (rv_point fx d r tx ts w h).mono fun e w' hq=>flat_to (by dsimp only;decide) (by unfold singleR;rw [if_neg (by dsimp only;decide),if_neg (by dsimp only;decide),if_pos rfl]) hsz hq
       · exact (rv_quote fx d r tx ts w h).mono fun e w' hq=>flat_to (by dsimp only;decide) (by unfold singleR;rw [if_neg (by dsimp only;decide),if_neg (by dsimp only;decide),if_neg (by dsimp only;decide),if_pos rfl]) hsz hq
abbrev meZ:List Value:=[.string ⟨#[]⟩,.int .i64 0,.int .i64 0,.string ⟨#[]⟩,.slice none 0 0,.slice none 0 0]
theorem pr_six {w:World} {b:Nat} {z0 z1 z2 z3 z4 z5:Value} {t:TypeId} (h:w.heap[b]? = some (.cells #[z0,z1,z2,z3,z4,z5] t (0,0))):w.cell? ⟨b,0,none⟩=some z0∧w.cell? ⟨b,1,none⟩=some z1∧w.cell? ⟨b,2,none⟩=some z2∧w.cell? ⟨b,3,none⟩=some z3∧w.cell? ⟨b,4,none⟩=some z4∧w.cell? ⟨b,5,none⟩=some z5∧∀ i,w.frozen? ⟨b,i,none⟩=false:=by
 refine ⟨?_,?_,?_,?_,?_,?_,?_⟩<;>simp [World.cell?,World.frozen?,h]
theorem nm_sub {S:StP} {ts:List Tok} (h:nmS S=.ok ts):∃ us,S=.ok us∧ts <:+ us∧ts.length < us.length:=by
 rcases S with y|us
 · cases h
 · simp only [nmS] at h
   cases hn:nameR us with
   | none=>rw [hn] at h;cases h
   | some a =>
     rw [hn] at h
     have h:=Except.ok.inj h
     subst h
     have:=name_sfx (s:=a.1) (r:=a.2) hn
     exact ⟨us,rfl,this.1,this.2⟩
theorem tk_sub {s:ByteArray} {S:StP} {ts:List Tok} (h:tkS s S=.ok ts):∃ us,S=.ok us∧ts <:+ us∧ts.length < us.length:=by
 rcases S with y|us
 · cases h
 · simp only [tkS] at h
   split at h
   · rename_i hb
     have h:=Except.ok.inj h
     subst h
     have:=at_sfx hb
     exact ⟨us,rfl,this.1,this.2⟩
   · cases h
theorem nm_size {S:StP} (hG:∀ ts,S=.ok ts→GoodT ts):(nmV S).size≤9000:=by
 rcases S with y|ts
 · exact Nat.zero_le _
 · simp only [nmV]
   cases hn:nameR ts with
   | none=>exact Nat.zero_le _
   | some a=>exact ((hG ts rfl).name (s:=a.1) (r:=a.2) hn).1
theorem mem_step2 (N:Nat) (IH:ValH N):MemH (N+1):=by
 intro fx d S r w hG hL hd h
 have HR:=Hd (mem_run fx d S)
 have HNS:=Hd (nm_size hG)
 have HV:=fun wx (hr:RP wx r d (tkS colB (nmS S)))=>Hd (IH fx d (tkS colB (nmS S)) r wx (fun ts e=>by
   obtain ⟨us,e1,s1,_⟩:=tk_sub e
   obtain ⟨vs,e2,s2,_⟩:=nm_sub e1
   exact good_sfx (s1.trans s2) (hG vs e2)) (fun ts e=>by
   obtain ⟨us,e1,s1,l1⟩:=tk_sub e
   obtain ⟨vs,e2,s2,l2⟩:=nm_sub e1
   have:=hL vs e2
   omega) hd hr)
 have K0:=Hd (Q0.start h #[.string ⟨#[]⟩,.int .i64 0,.int .i64 0,.string ⟨#[]⟩,.slice none 0 0,.slice none 0 0] 98)
 have HN:=Hd (rname r d S _ K0.out.rd)
 clear h hG hL hd IH
 go_enter Tryz.func126,Tryz.ntmps126
 go_wp2_with fail
 refine HN.out.mono ?_
 rintro e w1 ⟨rfl,h1,m1⟩
 have K1:=Hd (K0.out.next h1 m1)
 have K2:=Hd (Q1.make K1.out #[.string (nmV S),.int .i64 0,.int .i64 0,.string ⟨#[]⟩,.slice none 0 0,.slice none 0 0] 98)
 have HT:=Hd (rtake r d _ colB _ K2.out.rd)
 clear h1 m1 HN
 go_wp2_with fail
 refine HT.out.mono ?_
 rintro e w3 ⟨rfl,h3,m3⟩
 have K3:=Hd (K2.out.next h3 m3)
 have HY:=HV _ K3.out.rd
 clear h3 m3 HT HV
 go_wp2_with fail
 refine HY.out.mono ?_
 rintro e w4 ⟨vk,vn,vs,A3,n3,k3,A4,n4,k4,rfl,⟨x,hts,hx⟩,h4,m4⟩
 have K4:=Hd (K3.out.next h4 m4)
 have O4:=Hd (OvS.of hts K3.out.blt)
 have HX:=Hd hx
 obtain ⟨y0,y1,y2,y3,y4,y5,yz⟩:=pr_six K4.out.loc
 have yf1:=yz 1
 have yf2:=yz 2
 have yf3:=yz 3
 have yf4:=yz 4
 have yf5:=yz 5
 have K5:=Hd (((((K4.out.put 1 (.int .i64 vk)).put 2 (.int .i64 vn)).put 3 (.string vs)).put 4 (.slice A3 n3 k3)).put 5 (.slice A4 n4 k4))
 have O5:=Hd (((((O4.out.put (Nat.le_refl _) (i:=1) (v:=.int .i64 vk)).put (Nat.le_refl _) (i:=2) (v:=.int .i64 vn)).put (Nat.le_refl _) (i:=3) (v:=.string vs)).put (Nat.le_refl _) (i:=4) (v:=.slice A3 n3 k3)).put (Nat.le_refl _) (i:=5) (v:=.slice A4 n4 k4))
 obtain ⟨x0,x1,x2,x3,x4,x5,xz⟩:=pr_six K5.out.loc
 obtain ⟨q0,q1,q2,q3,q4,q5,qz⟩:=pr_six K5.out.res
 have qf0:=qz 0
 have qf1:=qz 1
 have qf2:=qz 2
 have qf3:=qz 3
 have qf4:=qz 4
 have qf5:=qz 5
 clear hts hx h4 m4 yz xz qz HY
 go_wp2_with fail
 have F:=K5.out.fin (ys:=meZ) [.string (nmV S),.int .i64 vk,.int .i64 vn,.string vs,.slice A3 n3 k3,.slice A4 n4 k4] rfl
 have O6:=O5.out.fin (w:=w) (Nat.le_of_lt K5.out.bl) [.string (nmV S),.int .i64 vk,.int .i64 vn,.string vs,.slice A3 n3 k3,.slice A4 n4 k4]
 refine ret_st (cs:=[.string (nmV S),.int .i64 vk,.int .i64 vn,.string vs,.slice A3 n3 k3,.slice A4 n4 k4]) rfl rfl rfl F.1 Tryz.underlying98 ⟨_,rfl⟩ (by kernel_rfl) ?_
 refine ⟨_,_,_,_,_,_,_,_,_,_,rfl,⟨.cons (.one (.string (nmV S))) x,TS.str HNS.out O6,fun a ts e=>?_⟩,?_,F.2.2⟩
 · rw [HR.out] at e
   obtain ⟨v,e2,rfl⟩:=map_ok e
   rw [HX.out v ts e2]
   rfl
 · rw [HR.out,aft_map]
   exact F.2.1
theorem rvals:∀ N,ValH N∧MemH N:=by
 intro N
 induction N with
 | zero =>
   have h0:ValH 0:=fun fx d S r w hG hL hd h=>by
    have hp:peekT S=(0,⟨#[]⟩):=by
     rcases S with y|ts
     · rfl
     · have:=hL ts rfl
       have:ts=[]:=List.eq_nil_of_length_eq_zero (by omega)
       subst this;rfl
    have hi:∀ s,isS 1 s S=false:=fun s=>by rw [is_peek 1 s S (by decide),hp];rfl
    exact rv_fail fx d r S w (by rw [hp];rfl) (by rw [hp];rfl) (by rw [hp];rfl) (by rw [hp];rfl) (hi _) (hi _) (by rw [hi];rfl) h
   exact ⟨h0,fun fx d S r w hG hL hd h=>mem_step2 0 h0 fx d S r w hG (fun ts e=>Nat.le_trans (hL ts e) (Nat.zero_le _)) hd h⟩
 | succ k ih=>exact ⟨val_step2 k ih.1 ih.2,mem_step2 k ih.1⟩
theorem pr_drewN {B:Nat} {a w:World} (h:Below B a w) (n:Nat):Below B a (w.drewN n):=h.trans ⟨rfl,rfl,rfl,Nat.le_refl _,fun _ _=>rfl⟩
def wholeS:StP→StP
 | .ok []=>.ok []
 | .ok (_ :: _)=>.error 2
 | .error y=>.error y
theorem rwhole (r d:Nat) (S:StP) (w:World) (h:RP w r d S):Calls Tryz.prog 51 #[.pointer (some ⟨r,0,none⟩)] w fun e w'=>e=.returned (.tuple #[])∧RP w' r d (wholeS S)∧Moved r w w':=by
 have H:=Hd h
 obtain ⟨A,c,p,dd,x,all,h0,h1,h2,h3,h4⟩:=h
 obtain ⟨c0,c1,c2,c3,cz⟩:=four_cells h0
 by_cases hp:p < all.length
 · have hp2:decide ((p:Int) < (all.length:Int))=true:=by simp;omega
   have HE:Hid (wholeS S=failS 2 S):=Hd (by
    rcases S with y|ts
    · rfl
    · obtain ⟨_,_,rfl⟩:=h4
      rw [List.drop_eq_getElem_cons hp];rfl)
   have HF:=fun wx (hb:Below w.heap.size w wx)=>Hd (rfail r d S 2 (by decide) wx (H.out.below hb))
   generalize all.length=n at *
   clear h0 h1 h2 h3 h4 cz
   go_enter Tryz.func51,Tryz.ntmps51
   go_wp2_with fail
   go_quiet (fail)
   go_wp2_with fail
   refine (HF _ (pr_drewN (Below.refl _ _) _)).out.mono ?_
   rintro e w2 ⟨rfl,h2,m2⟩
   have H2:=Hd (And.intro h2 ((Moved.of_below (r:=r) (pr_drewN (Below.refl w.heap.size w) _)).trans m2))
   clear h2 m2
   go_wp2_with fail
   go_end0
   exact ⟨rfl,by rw [HE.out];exact H2.out.1,H2.out.2⟩
 · have hp2:decide ((p:Int) < (all.length:Int))=false:=by simp;omega
   have HE:Hid (wholeS S=S):=Hd (by
    rcases S with y|ts
    · rfl
    · obtain ⟨_,_,rfl⟩:=h4
      rw [List.drop_eq_nil_of_le (by omega)];rfl)
   generalize all.length=n at *
   clear h0 h1 h2 h3 h4 cz
   go_enter Tryz.func51,Tryz.ntmps51
   go_wp2_with fail
   go_quiet (fail)
   go_wp2_with fail
   go_end0
   exact ⟨rfl,by rw [HE.out];exact H.out.below (pr_drewN (Below.refl _ _) _),Moved.of_below (pr_drewN (Below.refl _ _) _)⟩
def startS (l:List UInt8):StP:=if (readS l).2 ≠ 0 then .error (readS l).2 else .ok (tokB (readS l).1)
theorem rp_start {w:World} {A:Option Addr} {cap:Nat} {l:List UInt8} (h:ToksAt w A cap (readS l).1) (hl:(readS l).1.length≤200000):RP (w.alloc (.cells #[.slice A (readS l).1.length cap,.int .i64 0,.int .i64 0,.int .i64 (readS l).2] 81)) w.heap.size 0 (startS l):=by
 refine ⟨A,cap,0,0,(readS l).2,tokB (readS l).1,by rw [tokB_len];exact heap_alloc_new _ _,by rw [tokB_len];exact hl,Nat.zero_le _,fun j t ht=>?_,?_⟩
 · obtain ⟨h0,h1⟩:=ptokVals_at _ j t ht
   obtain ⟨g,hA,hg,c0⟩:=h.1 _ _ h0
   obtain ⟨g',hA',_,c1⟩:=h.1 _ _ h1
   rw [hA] at hA'
   have hA':=Option.some.inj hA'
   injection hA' with e _ _
   subst e
   have hs:=Below.heap_alloc w (.cells #[.slice A (readS l).1.length cap,.int .i64 0,.int .i64 0,.int .i64 (readS l).2] 81) g hg
   exact ⟨g,0,hA,hg,by rw [Nat.zero_add];exact (World.cell?_of_block (a:=⟨g,j*2,none⟩) hs).trans c0,by rw [Nat.zero_add];exact (World.cell?_of_block (a:=⟨g,j*2+1,none⟩) hs).trans c1⟩
 · unfold startS
   by_cases hx:(readS l).2 ≠ 0
   · rw [if_pos hx];exact ⟨rfl,hx⟩
   · rw [if_neg hx];exact ⟨by simpa using hx,rfl,rfl⟩
theorem pr_whole_run {α:Type} (p:Rdr α) (l:List UInt8):wholeA p l=(match wholeS (aftS (runS p (startS l))) with | .error y=>.error y | .ok _=>(match runS p (startS l) with | .ok a=>.ok a.1 | .error y=>.error y)):=by
 unfold wholeA startS
 by_cases h:(readS l).2 ≠ 0
 · rw [if_pos h,if_pos h];rfl
 · rw [if_neg h,if_neg h]
   simp only [runS]
   cases p (tokB (readS l).1) with
   | error y=>rfl
   | ok a =>
     obtain ⟨a,r⟩:=a
     cases r with
     | nil=>rfl
     | cons t ts=>rfl
theorem below_moved {w W W':World} {r:Nat} (h:Below w.heap.size w W) (m:Moved r W W') (hr:w.heap.size≤r):Below w.heap.size w W':=
 ⟨m.os.trans h.os,m.tape.trans h.tape,m.output.trans h.output,Nat.le_trans h.size m.size,fun k hk=>(m.block k (Nat.lt_of_lt_of_le hk h.size) (fun e=>by injection e;omega)).trans (h.block k hk)⟩
theorem whole_ok {α:Type} {p:Rdr α} {S:StP} {ts:List Tok} (h:wholeS (aftS (runS p S))=.ok ts):∃ a,runS p S=.ok (a,[]):=by
 cases hr:runS p S with
 | error y=>rw [hr] at h;cases h
 | ok a =>
   obtain ⟨a,r⟩:=a
   rw [hr] at h
   cases r with
   | nil=>exact ⟨a,rfl⟩
   | cons t us=>cases h
theorem rvalue_any (s:ByteArray) (fx:Bool) (w:World) (hs:s.size≤9000):Calls Tryz.prog 18 #[.string s,.bool fx] w fun e w'=>∃ (vk vn:Int) (vs:ByteArray) (A3:Option Addr) (n3 k3:Nat) (A4:Option Addr) (n4 k4:Nat) (x:Int),e=.returned (.tuple #[.agg #[.int .i64 vk,.int .i64 vn,.string vs,.slice A3 n3 k3,.slice A4 n4 k4],.int .i64 x])∧Res encV [.int .i64 0,.int .i64 0,.string ⟨#[]⟩,.slice none 0 0,.slice none 0 0] w w' (wholeA (valD fx 0) s.data.toList) x [.int .i64 vk,.int .i64 vn,.string vs,.slice A3 n3 k3,.slice A4 n4 k4]∧Below w.heap.size w w':=by
 have B0:=Hd (blw w (.cells #[.int .i64 0,.int .i64 0,.string ⟨#[]⟩,.slice none 0 0,.slice none 0 0] 35))
 have Y0:=Hd (heap_alloc_last w (.cells #[.int .i64 0,.int .i64 0,.string ⟨#[]⟩,.slice none 0 0,.slice none 0 0] 35))
 have hsz0:Hid ((w.alloc (.cells #[.int .i64 0,.int .i64 0,.string ⟨#[]⟩,.slice none 0 0,.slice none 0 0] 35)).heap.size=w.heap.size+1):=Hd (by simp)
 have HT:=Hd (rtokens_any s (w.alloc (.cells #[.int .i64 0,.int .i64 0,.string ⟨#[]⟩,.slice none 0 0,.slice none 0 0] 35)) hs)
 have HW:=Hd (pr_whole_run (valD fx 0) s.data.toList)
 have HL:=Hd (readS_len (s:=s) hs)
 have HG:Hid (∀ ts,startS s.data.toList=.ok ts→GoodT ts∧ts.length≤200000):=Hd (fun ts e=>by
   unfold startS at e
   split at e
   · cases e
   · have e:=Except.ok.inj e
     rw [← e]
     exact ⟨(readS_goodD hs).1,by rw [tokB_len];have:=HL.out;omega⟩)
 obtain ⟨l,hl⟩:∃ l,s.data.toList=l:=⟨_,rfl⟩
 rw [hl] at HT HW HL HG ⊢
 clear hs hl
 go_enter Tryz.func18,Tryz.ntmps18
 go_wp2_with fail
 refine HT.out.mono ?_
 rintro e w1 ⟨⟨A,cap,rfl,hA⟩,hb1⟩
 have B1:=Hd (B0.out.trans (hb1.mono B0.out.size))
 have Y1:=Hd ((hb1.block w.heap.size (by rw [hsz0.out];omega)).trans Y0.out)
 have l1:w.heap.size < w1.heap.size:=by have:=hb1.size;have:=hsz0.out;omega
 have R2:=Hd (rp_start hA (by have:=HL.out;omega))
 have B2:=Hd (B1.out.alloc B1.out.size (.cells #[.slice A (readS l).1.length cap,.int .i64 0,.int .i64 0,.int .i64 (readS l).2] 81))
 have Y2:=Hd ((Below.heap_alloc w1 (.cells #[.slice A (readS l).1.length cap,.int .i64 0,.int .i64 0,.int .i64 (readS l).2] 81) _ l1).trans Y1.out)
 have l2:Hid ((w1.alloc (.cells #[.slice A (readS l).1.length cap,.int .i64 0,.int .i64 0,.int .i64 (readS l).2] 81)).heap.size=w1.heap.size+1):=Hd (by simp)
 have HV:=Hd ((rvals 200000).1 fx 0 (startS l) _ _ (fun ts e=>(HG.out ts e).1) (fun ts e=>(HG.out ts e).2) (by decide) R2.out)
 clear hA hb1
 go_wp2_with fail
 refine HV.out.mono ?_
 rintro e w3 ⟨vk,vn,vs,A3,n3,k3,A4,n4,k4,rfl,hx,h3,m3⟩
 have VX:=Hd hx
 have H3:=Hd h3
 have M3:=Hd m3
 have s3:w1.heap.size < w3.heap.size:=by have:=m3.size;have:=l2.out;omega
 have B3:=Hd (below_moved B2.out m3 (Nat.le_of_lt l1))
 have Y3:=Hd (m3.keep Y2.out (Nat.ne_of_lt l1))
 have R4:=Hd (h3.below (blw w3 (.cells #[.int .i64 vk,.int .i64 vn,.string vs,.slice A3 n3 k3,.slice A4 n4 k4] 35)))
 have HH:=Hd (rwhole w1.heap.size 0 _ _ R4.out)
 have B4:=Hd (B3.out.alloc B3.out.size (.cells #[.int .i64 vk,.int .i64 vn,.string vs,.slice A3 n3 k3,.slice A4 n4 k4] 35))
 have Y4:=Hd ((Below.heap_alloc w3 (.cells #[.int .i64 vk,.int .i64 vn,.string vs,.slice A3 n3 k3,.slice A4 n4 k4] 35) _ (Nat.lt_trans l1 s3)).trans Y3.out)
 have Z4:=Hd (heap_alloc_last w3 (.cells #[.int .i64 vk,.int .i64 vn,.string vs,.slice A3 n3 k3,.slice A4 n4 k4] 35))
 have N4:=Hd (blw w3 (.cells #[.int .i64 vk,.int .i64 vn,.string vs,.slice A3 n3 k3,.slice A4 n4 k4] 35))
 clear hx h3 m3 HV
 go_wp2_with fail
 refine HH.out.mono ?_
 rintro e w5 ⟨rfl,h5,m5⟩
 have M5:=Hd m5
 have B5:=Hd (below_moved B4.out m5 (Nat.le_of_lt l1))
 have Y5:=Hd (m5.keep Y4.out (Nat.ne_of_lt l1))
 have Z5:=Hd (m5.keep Z4.out (Nat.ne_of_gt s3))
 obtain ⟨A',n',c',p',dd',x0,h0,_,hin⟩:=h5.cells
 obtain ⟨c0,c1,c2,c3,cz⟩:=four_cells h0
 obtain ⟨q0,q1,q2,q3,q4,qz⟩:=gvc Y5.out
 have qf0:=qz 0
 have qf1:=qz 1
 have qf2:=qz 2
 have qf3:=qz 3
 have qf4:=qz 4
 obtain ⟨y0,y1,y2,y3,y4,yz⟩:=gvc Z5.out
 clear h5 m5 h0 cz qz yz HH
 cases hS:wholeS (aftS (runS (valD fx 0) (startS l))) with
 | error y =>
   rw [hS] at hin
   obtain ⟨rfl,hy⟩:=hin
   have HS:=Hd hS
   have HY:=Hd hy
   have t1:(x0 != 0)=true:=by simpa using hy
   clear hS hy
   go_wp2_with fail
   go_region
   go_wp2_with fail
   have FD:((setAll w5 w.heap.size 0 [.int .i64 0,.int .i64 0,.string ⟨#[]⟩,.slice none 0 0,.slice none 0 0]).drew).heap[w.heap.size]? = some (.cells #[.int .i64 0,.int .i64 0,.string ⟨#[]⟩,.slice none 0 0,.slice none 0 0] 35 (0,0)):=setAll_row (ys:=[.int .i64 0,.int .i64 0,.string ⟨#[]⟩,.slice none 0 0,.slice none 0 0]) (xs:=[.int .i64 0,.int .i64 0,.string ⟨#[]⟩,.slice none 0 0,.slice none 0 0]) rfl Y5.out
   have BD:Below w.heap.size w (setAll w5 w.heap.size 0 [.int .i64 0,.int .i64 0,.string ⟨#[]⟩,.slice none 0 0,.slice none 0 0]).drew:=Below.drew (below_setAll (Nat.le_refl _) [.int .i64 0,.int .i64 0,.string ⟨#[]⟩,.slice none 0 0,.slice none 0 0] 0 _ B5.out)
   refine ret_st2 (cs:=[.int .i64 0,.int .i64 0,.string ⟨#[]⟩,.slice none 0 0,.slice none 0 0]) rfl rfl rfl rfl FD Tryz.underlying35 ⟨_,rfl⟩ (by kernel_rfl) ?_
   refine ⟨_,_,_,_,_,_,_,_,_,x0,rfl,?_,BD⟩
   rw [HW.out,HS.out]
   exact ⟨rfl,HY.out,rfl⟩
 | ok us =>
   rw [hS] at hin
   obtain ⟨rfl,_⟩:=hin
   have HS:=Hd hS
   clear hS
   go_wp2_with fail
   refine ret_st2 (cs:=[.int .i64 vk,.int .i64 vn,.string vs,.slice A3 n3 k3,.slice A4 n4 k4]) rfl rfl rfl rfl (setAll_row (ys:=[.int .i64 0,.int .i64 0,.string ⟨#[]⟩,.slice none 0 0,.slice none 0 0]) (xs:=[.int .i64 vk,.int .i64 vn,.string vs,.slice A3 n3 k3,.slice A4 n4 k4]) rfl Y5.out) Tryz.underlying35 ⟨_,rfl⟩ (by kernel_rfl) ?_
   refine ⟨_,_,_,_,_,_,_,_,_,0,rfl,?_,below_setAll (Nat.le_refl _) [.int .i64 vk,.int .i64 vn,.string vs,.slice A3 n3 k3,.slice A4 n4 k4] 0 _ B5.out⟩
   obtain ⟨a,ha⟩:=whole_ok HS.out
   rw [HW.out,HS.out,ha]
   obtain ⟨xt,hts,hxe⟩:=VX.out
   have:=hxe a [] ha
   subst this
   refine ⟨rfl,TS.keep (fun k hk=>And.intro (And.intro (by have:=hk.1;have:=l2.out;omega) (Nat.lt_of_lt_of_eq (Nat.lt_of_lt_of_le hk.2 (Nat.le_trans N4.out.size M5.out.size)) (setAll_size w.heap.size [.int .i64 vk,.int .i64 vn,.string vs,.slice A3 n3 k3,.slice A4 n4 k4] 0 w5).symm)) ((setAll_other (by have:=hk.1;have:=l2.out;omega) [.int .i64 vk,.int .i64 vn,.string vs,.slice A3 n3 k3,.slice A4 n4 k4] 0 w5).trans ((M5.out.block k (Nat.lt_of_lt_of_le hk.2 N4.out.size) (fun e=>by injection e;have:=hk.1;have:=l2.out;omega)).trans (N4.out.block k hk.2)))) _ _ hts⟩
def TypRes (R:Except Int (ByteArray × Nat × Nat)) (x:Int) (n:ByteArray) (l m:Int):Prop:=
 match R with
 | .ok t=>x=0∧n=t.1∧l=t.2.1∧m=t.2.2
 | .error y=>x=y∧y ≠ 0∧n=⟨#[]⟩∧l=0∧m=0
theorem rtype_any (s:ByteArray) (w:World) (hs:s.size≤9000):Calls Tryz.prog 20 #[.string s] w fun e w'=>∃ (tn:ByteArray) (tl tm:Int) (x:Int),e=.returned (.tuple #[.agg #[.string tn,.int .i64 tl,.int .i64 tm],.int .i64 x])∧TypRes (wholeA (typeR 4) s.data.toList) x tn tl tm∧Below w.heap.size w w':=by
 have B0:=Hd (blw w (.cells #[.string ⟨#[]⟩,.int .i64 0,.int .i64 0] 39))
 have Y0:=Hd (heap_alloc_last w (.cells #[.string ⟨#[]⟩,.int .i64 0,.int .i64 0] 39))
 have hsz0:Hid ((w.alloc (.cells #[.string ⟨#[]⟩,.int .i64 0,.int .i64 0] 39)).heap.size=w.heap.size+1):=Hd (by simp)
 have HT:=Hd (rtokens_any s (w.alloc (.cells #[.string ⟨#[]⟩,.int .i64 0,.int .i64 0] 39)) hs)
 have HW:=Hd (pr_whole_run (typeR 4) s.data.toList)
 have HL:=Hd (readS_len (s:=s) hs)
 have HG:Hid (∀ ts,startS s.data.toList=.ok ts→GoodT ts∧ts.length≤200000):=Hd (fun ts e=>by
   unfold startS at e
   split at e
   · cases e
   · have e:=Except.ok.inj e
     rw [← e]
     exact ⟨(readS_goodD hs).1,by rw [tokB_len];have:=HL.out;omega⟩)
 obtain ⟨l,hl⟩:∃ l,s.data.toList=l:=⟨_,rfl⟩
 rw [hl] at HT HW HL HG ⊢
 clear hs hl
 go_enter Tryz.func20,Tryz.ntmps20
 go_wp2_with fail
 refine HT.out.mono ?_
 rintro e w1 ⟨⟨A,cap,rfl,hA⟩,hb1⟩
 have B1:=Hd (B0.out.trans (hb1.mono B0.out.size))
 have Y1:=Hd ((hb1.block w.heap.size (by rw [hsz0.out];omega)).trans Y0.out)
 have l1:w.heap.size < w1.heap.size:=by have:=hb1.size;have:=hsz0.out;omega
 have R2:=Hd (rp_start hA (by have:=HL.out;omega))
 have B2:=Hd (B1.out.alloc B1.out.size (.cells #[.slice A (readS l).1.length cap,.int .i64 0,.int .i64 0,.int .i64 (readS l).2] 81))
 have Y2:=Hd ((Below.heap_alloc w1 (.cells #[.slice A (readS l).1.length cap,.int .i64 0,.int .i64 0,.int .i64 (readS l).2] 81) _ l1).trans Y1.out)
 have l2:Hid ((w1.alloc (.cells #[.slice A (readS l).1.length cap,.int .i64 0,.int .i64 0,.int .i64 (readS l).2] 81)).heap.size=w1.heap.size+1):=Hd (by simp)
 have HV:=Hd (rtyp 4 (Nat.le_refl _) _ 0 (startS l) _ R2.out)
 clear hA hb1
 go_wp2_with fail
 refine HV.out.mono ?_
 rintro e w3 ⟨tn,tl,tm,rfl,_,hx,h3,m3⟩
 have VX:=Hd hx
 have H3:=Hd h3
 have M3:=Hd m3
 have s3:w1.heap.size < w3.heap.size:=by have:=m3.size;have:=l2.out;omega
 have B3:=Hd (below_moved B2.out m3 (Nat.le_of_lt l1))
 have Y3:=Hd (m3.keep Y2.out (Nat.ne_of_lt l1))
 have R4:=Hd (h3.below (blw w3 (.cells #[.string tn,.int .i64 tl,.int .i64 tm] 39)))
 have HH:=Hd (rwhole w1.heap.size 0 _ _ R4.out)
 have B4:=Hd (B3.out.alloc B3.out.size (.cells #[.string tn,.int .i64 tl,.int .i64 tm] 39))
 have Y4:=Hd ((Below.heap_alloc w3 (.cells #[.string tn,.int .i64 tl,.int .i64 tm] 39) _ (Nat.lt_trans l1 s3)).trans Y3.out)
 have Z4:=Hd (heap_alloc_last w3 (.cells #[.string tn,.int .i64 tl,.int .i64 tm] 39))
 have N4:=Hd (blw w3 (.cells #[.string tn,.int .i64 tl,.int .i64 tm] 39))
 clear hx h3 m3 HV
 go_wp2_with fail
 refine HH.out.mono ?_
 rintro e w5 ⟨rfl,h5,m5⟩
 have M5:=Hd m5
 have B5:=Hd (below_moved B4.out m5 (Nat.le_of_lt l1))
 have Y5:=Hd (m5.keep Y4.out (Nat.ne_of_lt l1))
 have Z5:=Hd (m5.keep Z4.out (Nat.ne_of_gt s3))
 obtain ⟨A',n',c',p',dd',x0,h0,_,hin⟩:=h5.cells
 obtain ⟨c0,c1,c2,c3,cz⟩:=four_cells h0
 obtain ⟨q0,q1,q2,qz⟩:=three_cells Y5.out
 have qf0:=qz 0
 have qf1:=qz 1
 have qf2:=qz 2
 obtain ⟨y0,y1,y2,yz⟩:=three_cells Z5.out
 clear h5 m5 h0 cz qz yz HH
 cases hS:wholeS (aftS (runS (typeR 4) (startS l))) with
 | error y =>
   rw [hS] at hin
   obtain ⟨rfl,hy⟩:=hin
   have HS:=Hd hS
   have HY:=Hd hy
   have t1:(x0 != 0)=true:=by simpa using hy
   clear hS hy
   go_wp2_with fail
   go_region
   go_wp2_with fail
   have FD:((setAll w5 w.heap.size 0 [.string ⟨#[]⟩,.int .i64 0,.int .i64 0]).drew).heap[w.heap.size]? = some (.cells #[.string ⟨#[]⟩,.int .i64 0,.int .i64 0] 39 (0,0)):=setAll_row (ys:=[.string ⟨#[]⟩,.int .i64 0,.int .i64 0]) (xs:=[.string ⟨#[]⟩,.int .i64 0,.int .i64 0]) rfl Y5.out
   have BD:Below w.heap.size w (setAll w5 w.heap.size 0 [.string ⟨#[]⟩,.int .i64 0,.int .i64 0]).drew:=Below.drew (below_setAll (Nat.le_refl _) [.string ⟨#[]⟩,.int .i64 0,.int .i64 0] 0 _ B5.out)
   refine ret_st2 (cs:=[.string ⟨#[]⟩,.int .i64 0,.int .i64 0]) rfl rfl rfl rfl FD Tryz.underlying39 ⟨_,rfl⟩ (by kernel_rfl) ?_
   refine ⟨_,_,_,x0,rfl,?_,BD⟩
   rw [HW.out,HS.out]
   exact ⟨rfl,HY.out,rfl,rfl,rfl⟩
 | ok us =>
   rw [hS] at hin
   obtain ⟨rfl,_⟩:=hin
   have HS:=Hd hS
   clear hS
   go_wp2_with fail
   refine ret_st2 (cs:=[.string tn,.int .i64 tl,.int .i64 tm]) rfl rfl rfl rfl (setAll_row (ys:=[.string ⟨#[]⟩,.int .i64 0,.int .i64 0]) (xs:=[.string tn,.int .i64 tl,.int .i64 tm]) rfl Y5.out) Tryz.underlying39 ⟨_,rfl⟩ (by kernel_rfl) ?_
   refine ⟨_,_,_,0,rfl,?_,below_setAll (Nat.le_refl _) [.string tn,.int .i64 tl,.int .i64 tm] 0 _ B5.out⟩
   obtain ⟨a,ha⟩:=whole_ok HS.out
   rw [HW.out,HS.out,ha]
   obtain ⟨e1,e2,e3⟩:=VX.out a [] ha
   exact ⟨rfl,e1,e2,e3⟩
end Go.Proofs.YtpkmbhnikilihaaGreatDoor
