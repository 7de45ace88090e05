/- The document's own Tokens, and the walk of the law TokenReads. -/
import Derived.Test.YtpkmbhnikilihaaGreatDoorQv38
import Derived.WalkSmall
set_option maxRecDepth 100000
set_option maxHeartbeats 4000000
namespace Go.Proofs.YtpkmbhnikilihaaGreatDoor
open Go.RowKit
theorem source_good {l:List UInt8} (h:sourceB l=true):goodB l=true:=by
 rw [goodB_iff]
 unfold sourceB eachP at h
 cases hc:codes l with
 | none=>rw [hc] at h;cases h
 | some _=>rfl
theorem readL_skip:∀ (n:Nat) (l:List UInt8),l.length≤n→readL (l.drop (skipL l))=readL l:=by
 intro n
 induction n with
 | zero =>
   intro l h
   have:l=[]:=List.eq_nil_of_length_eq_zero (by omega)
   subst this
   rfl
 | succ n ih =>
   intro l h
   by_cases h0:gapL l=0
   · rw [skip_stop h0,List.drop_zero]
   · rw [skip_step h0,← List.drop_drop,ih _ (by rw [List.length_drop];omega),← readL_gap h0]
theorem next_none {i:Nat} {e:Ending} (h:NextTo i none e):∃ (a:Int) (b:ByteArray) (k:Int),e=.returned (.tuple #[.agg #[.int .i64 a,.string b],.int .i64 k,.bool false]):=h
theorem next_some {i:Nat} {p:(Int × List UInt8) × Nat} {e:Ending} (h:NextTo i (some p) e):e=.returned (.tuple #[.agg #[.int .i64 p.1.1,.string ⟨p.1.2.toArray⟩],.int .i64 ((i+p.2:Nat):Int),.bool true]):=h
def TokensTo (w w':World) (p:List (Int × List UInt8) × Int) (e:Ending):Prop:=(∃ A cap,e=.returned (.tuple #[.slice A p.1.length cap,.int .i64 p.2])∧ToksAt w' A cap p.1)∧Below w.heap.size w w'
theorem toks_none (w:World):ToksAt w none 0 []:=⟨fun j v h=>by simp [tokVals] at h,Nat.le_refl _⟩
theorem rtokens_any (s:ByteArray) (w:World) (hs:s.size≤9000):Calls Tryz.prog 43 #[.string s] w fun e w'=>TokensTo w w' (readS s.data.toList) e:=by
 by_cases hbig:8192 < s.size
 · have hr:Hid (readS s.data.toList=([],3)):=Hd (by unfold readS;rw [if_pos (by rw [len_data];exact hbig)])
   have hb':(8192:Int) < (s.size:Int):=by omega
   go_enter Tryz.func43,Tryz.ntmps43
   go_wp2
   go_ret2
   exact ⟨⟨none,0,by rw [hr.out];rfl,by rw [hr.out];exact toks_none _⟩,Below.refl _ _⟩
 · have hb' : ¬ (8192:Int) < (s.size:Int):=by omega
   have HSrc:=Hd (rsource_any s w hs)
   cases hsrc:sourceB s.data.toList
   · have hr:Hid (readS s.data.toList=([],2)):=Hd (by unfold readS;rw [if_neg (by rw [len_data];exact hbig),if_pos hsrc])
     rw [hsrc] at HSrc
     clear hsrc
     go_enter Tryz.func43,Tryz.ntmps43
     go_wp2_with fail
     refine HSrc.out.mono ?_
     rintro e w1 ⟨rfl,hb1⟩
     have HB1:=Hd hb1
     clear hb1
     go_wp2_with fail
     go_ret2
     exact ⟨⟨none,0,by rw [hr.out];rfl,by rw [hr.out];exact toks_none _⟩,HB1.out⟩
   · have hr:Hid (readS s.data.toList=match readL s.data.toList with|none=>([],2)|some ts=>(ts,0)):=Hd (by unfold readS;rw [if_neg (by rw [len_data];exact hbig),if_neg (by rw [hsrc];decide)];cases readL s.data.toList<;>rfl)
     have HGd:=Hd (source_good hsrc)
     obtain ⟨i0,hii,hz0,hz1,hz2⟩:=info_parts info_tok
     obtain ⟨RL,hRL⟩:∃ RL,readL s.data.toList=RL:=⟨_,rfl⟩
     rw [hRL] at hr
     have HS0:=fun w=>Hd (rskip_any s 0 w hs (Nat.zero_le _))
     obtain ⟨a0,ha0⟩:∃ a,0+skipL (s.data.toList.drop 0)=a:=⟨_,rfl⟩
     have ha0':a0=skipL s.data.toList:=by rw [← ha0,Nat.zero_add,List.drop_zero]
     have ha0s:a0≤s.size:=by rw [ha0',← len_data];exact skip_le _ _ (Nat.le_refl _)
     have hstart:Hid ((readL (s.data.toList.drop a0)).map ([] ++ ·)=RL):=Hd (by
      rw [ha0',readL_skip _ _ (Nat.le_refl _),hRL];cases RL<;>rfl)
     have hgap0:Hid (gapL (s.data.toList.drop a0)=0):=Hd (by rw [ha0'];exact skip_end _ _ (Nat.le_refl _))
     rw [ha0] at HS0
     have c0:((0:Nat):Int)=0:=rfl
     rw [c0] at HS0
     rw [hsrc] at HSrc
     clear hsrc hRL ha0 ha0' c0
     go_enter Tryz.func43,Tryz.ntmps43
     go_wp2_with fail
     refine HSrc.out.mono ?_
     rintro e w1 ⟨rfl,hb1⟩
     have HB1:=Hd hb1
     have hbs1:=hb1.size
     clear hb1
     go_wp2_with fail
     refine (HS0 _).out.mono ?_
     rintro e w2 ⟨rfl,rfl⟩
     clear HS0 HSrc
     go_wp2_with fail
     go_loopg [4,5,6,7,8] (s.size - a0) (fun g ov iv pv kv bv wx=>∃ (i:Nat) (done:List (Int × List UInt8)),i+g=s.size∧iv=.int .i64 i∧done.length≤i∧Aside (gapL (s.data.toList.drop i)=0)∧Aside ((readL (s.data.toList.drop i)).map (done ++ ·)=RL)∧wx.ownsRow w1.heap.size 70 2 ov done.length (tokVals done)∧Below w1.heap.size w1 wx)
     case atStart=>exact ⟨a0,[],by omega,rfl,Nat.zero_le _,Aside.intro hgap0.out,Aside.intro hstart.out,World.ownsRow_nil _ _ _ _,Below.refl _ _⟩
     case round =>
      obtain ⟨i,done,hig,rfl,hdl,HGp,H,hown,hb⟩:=hrel
      obtain ⟨A,cap,rfl⟩:=own_shape2 hown
      have hbs:=hb.size
      have HB:=Hd hb
      have hi0:(0:Int)≤(i:Int):=by omega
      clear hb
      by_cases hlt:i < s.size
      · have hlt':(i:Int) < (s.size:Int):=by omega
        have hne:s.data.toList.drop i ≠ []:=by rw [drop_at s i hlt];simp
        have HN:=Hd (rnext_any s i wr hs hlt HGd.out)
        cases ht:tokL (s.data.toList.drop i) with
        | none =>
          rw [ht] at HN
          have hr2:Hid (readS s.data.toList=([],2)):=Hd (by
           have h:=H.out
           rw [readL_none HGp.out hne ht] at h
           rw [hr.out,← h];rfl)
          clear H HGp hne ht hown
          go_wp2_with fail
          refine HN.out.mono ?_
          rintro e w3 ⟨he,hb3⟩
          obtain ⟨a,b,k,rfl⟩:=next_none he
          have HB3:=Hd ((HB1.out.trans ((HB.out.trans (hb3.mono hbs)).mono hbs1)))
          have h3s:=HB3.out.size
          clear hb3 he HN
          go_wp2_with fail
          go_ret2
          exact ⟨⟨none,0,by rw [hr2.out];rfl,by rw [hr2.out];exact toks_none _⟩,HB3.out.alloc h3s _⟩
        | some p =>
          rw [ht] at HN
          obtain ⟨⟨K,TL⟩,n⟩:=p
          have hp:=tokL_le ht
          simp only at hp
          rw [List.length_drop,len_data] at hp
          obtain ⟨T,hT⟩:∃ T:ByteArray,(⟨TL.toArray⟩:ByteArray)=T:=⟨_,rfl⟩
          have hTd:TL=T.data.toList:=by rw [← hT]
          obtain ⟨E,hE⟩:∃ E,i+n=E:=⟨_,rfl⟩
          have hEs:E≤s.size:=by omega
          have hiE:i+1≤E:=by omega
          have HSk:=fun w=>Hd (rskip_any s E w hs hEs)
          obtain ⟨j,hj⟩:∃ j,E+skipL (s.data.toList.drop E)=j:=⟨_,rfl⟩
          have hjs:j≤s.size:=by
           have:=skip_le _ (s.data.toList.drop E) (Nat.le_refl _)
           rw [List.length_drop,len_data] at this
           omega
          have hEj:E≤j:=by omega
          have HGj:Hid (gapL (s.data.toList.drop j)=0):=Hd (by rw [← hj,← List.drop_drop];exact skip_end _ _ (Nat.le_refl _))
          have HRj:Hid ((readL (s.data.toList.drop j)).map ((done++[(K,TL)]) ++ ·)=RL):=Hd (by
           have h:=H.out
           rw [readL_tok HGp.out hne ht] at h
           simp only at h
           rw [List.drop_drop,hE,← readL_skip _ (s.data.toList.drop E) (Nat.le_refl _),List.drop_drop,hj,Option.map_map] at h
           rw [← h]
           congr 1
           funext r
           simp)
          rw [hj] at HSk
          have HTd:=Hd hTd
          have HEi:=Hd hE
          have hn1:1≤n:=hp.1
          clear H HGp hne ht hj hp hTd
          go_wp2_with fail
          refine HN.out.mono ?_
          rintro e w3 ⟨he,hb3⟩
          have he':=next_some he
          simp only at he'
          rw [hT,hE] at he'
          subst he'
          have hown3:=(own_below hown hb3).alloc (.cells #[.int .i64 K,.string T] 70)
          have HB3:=Hd hb3
          have hb3s:=hb3.size
          have hTE:=Hd hT
          clear hb3 hown he HN hT hE
          go_wp2_with (at_builtin;refine wpList_append_own _ rfl _ _ 45 rfl w1.heap.size 70 i0 (.agg #[.int .i64 0,.string ⟨#[]⟩]) 2 24 Tryz.underlying45 hii hz0 hz1 hz2 rfl (by decide) _ _ _ rfl (hown3.alloc _) _ 1 1 [.int .i64 K,.string T] rfl rfl (cell_two_at _ _ _ _ (by simp)) (by intro x hx;simp at hx;rcases hx with rfl|rfl<;>rfl) (by unfold maxLen;omega) (by omega) (by simp;omega) ?_;intro v' w4 hown' hgrow _;obtain ⟨A',cap',rfl⟩:=own_shape2 hown';have HG4:=Hd hgrow;have HO4:=Hd hown';have HW:=Hd hown3;clear hgrow hown' hown3)
          refine (HSk _).out.mono ?_
          rintro e w5 ⟨rfl,rfl⟩
          have hb5:Below w1.heap.size w1 ((w3.alloc (.cells #[.int .i64 K,.string T] 70)).alloc (.cells #[.int .i64 K,.string T] 70)):=((HB.out.trans (HB3.out.mono hbs)).alloc (by omega) _).alloc (by simp;omega) _
          go_wp2_with fail
          go_roundg (s.size - j)
          case measure=>omega
          case rel=>exact ⟨j,done++[(K,TL)],by omega,rfl,by have:=HEi.out;simp;omega,Aside.intro HGj.out,Aside.intro HRj.out,by rw [tokVals_add,List.length_append,hTE.out];exact HO4.out,hb5.grown HG4.out (by have:=hb5.size;omega) (fun q hq=>(HW.out.lt q hq).1)⟩
      · have hge : ¬ (i:Int) < (s.size:Int):=by omega
        have hr2:Hid (readS s.data.toList=(done,0)):=Hd (by
          have h:=H.out
          rw [drop_all s i (by omega),readL_nil] at h
          rw [hr.out,← h];simp)
        have HT:=Hd (toks_own hown)
        clear H HGp hown
        go_wp2_with fail
        go_ret2
        exact ⟨⟨A,cap,by rw [hr2.out];rfl,by rw [hr2.out];exact HT.out⟩,HB1.out.trans (HB.out.mono hbs1)⟩
theorem at_not {k:Int} {s:ByteArray} {t:Tok} (r:List Tok) (h:t.1 ≠ k):atB k s (t :: r)=false:=by
 unfold atB
 simp [h]
theorem valD_word (fx:Bool) (d:Nat) {t:Tok} (r:List Tok) (h:t.1 ≠ 1):valD fx d (t :: r)=oneR (t :: r):=by
 rw [valD_eq]
 unfold ifR
 rw [if_neg (by rw [at_not r h];simp),if_neg (by rw [at_not r h];simp)]
 cases fx
 · rw [if_neg (by simp)]
   unfold varV ifR
   rw [if_neg (by rw [at_not r h];simp)]
 · rw [if_pos rfl]
theorem one_of {t:Tok} {k n:Int} {s:ByteArray} (r:List Tok) (h:singleR t=some (k,n,s)):oneR (t :: r)=.ok (.mk k n s .nil .nil,r):=by
 show (match singleR t with|none=>(.error 2:Except Int (VT × List Tok))|some (k,n,s)=>.ok (.mk k n s .nil .nil,r))=_
 rw [h]
theorem word_read (fx:Bool) (d:Nat) {t:Tok} {k n:Int} {s:ByteArray} (r:List Tok) (h1:t.1 ≠ 1) (h:singleR t=some (k,n,s)):valD fx d (t :: r)=.ok (.mk k n s .nil .nil,r):=by
 rw [valD_word fx d r h1,one_of r h]
def dW (b:UInt8):Nat:=(b.toNat+208) % 256
theorem dW_wrap (b:UInt8):IntKind.u8.wrap ((b.toNat:Int) - 48)=(dW b:Int):=by
 rw [IntKind.wrap_u8];unfold dW;omega
theorem dW_dig {b:UInt8} (h:digU b=true):dW b=b.toNat - 48:=by
 have:=digU_bd h
 unfold dW;omega
def digW (a:Nat) (l:List UInt8):Nat:=l.foldl (fun a b=>a*10+dW b) a
theorem digW_mono:∀ (l:List UInt8) (a:Nat),a≤digW a l
 | [],a=>Nat.le_refl _
 | b :: l,a=>by
   show a≤digW (a*10+dW b) l
   have:=digW_mono l (a*10+dW b)
   omega
theorem digW_digs:∀ (l:List UInt8) (a:Nat),l.all digU=true→digW a l=digA a l
 | [],_,_=>rfl
 | b :: l,a,h=>by
   rw [List.all_cons,Bool.and_eq_true] at h
   show digW (a*10+dW b) l=digA (a*10+(b.toNat - 48)) l
   rw [dW_dig h.1,digW_digs l _ h.2]
def int64B:List UInt8→Bool
 | []=>true
 | b :: t=>if b=45 then decide (digW 0 t≤9223372036854775808) else decide (digW 0 (b :: t)≤9223372036854775807)
theorem int64_kind {l:List UInt8} (h:kindL l=3):int64B l=fits64 (intN l):=by
 obtain ⟨m,hm,hd,hne⟩:=kind_digits h
 cases l with
 | nil=>rfl
 | cons b t =>
   by_cases hb:b=45
   · subst hb
     have:m=1:=by rw [← hm];rfl
     subst this
     have hd':t.all digU=true:=hd
     rw [int_minus]
     rw [int64B,if_pos rfl,digW_digs t 0 hd']
     unfold fits64
     rw [show digA 0 t=digN t from rfl]
     congr 1
     exact propext ⟨fun h=>by omega,fun h=>by omega⟩
   · have:m=0:=by rw [← hm];unfold minusL;simp [hb]
     subst this
     have hd':(b :: t).all digU=true:=hd
     rw [int_digits hd']
     rw [int64B,if_neg hb,digW_digs _ 0 hd']
     unfold fits64
     rw [show digA 0 (b :: t)=digN (b :: t) from rfl]
     congr 1
     exact propext ⟨fun h=>by omega,fun h=>by omega⟩
theorem wdrop_at (s:ByteArray) (m:Nat) (h:m < s.size) (a:Nat):digW a (s.data.toList.drop m)=digW (a*10+dW s[m]) (s.data.toList.drop (m+1)):=by
 rw [drop_at s m h];rfl
theorem tdiv_ten (D:Int) (h0 : -9223372036854775808≤D) (h1:D≤0):10*Int.tdiv D 10 - 10 < D∧D≤10*Int.tdiv D 10∧D.tdiv 10≤0∧10*Int.tdiv D 10 < D+10:=by
 have h:D.tdiv 10 = -((-D) / 10):=by
  rw [show D = -(-D) by omega,Int.neg_tdiv,Int.tdiv_eq_ediv_of_nonneg (by omega)];simp
 rw [h];omega
theorem int64_cons (s:ByteArray) (hp:0 < s.size):int64B s.data.toList=if s[0]=45 then decide (digW 0 (s.data.toList.drop 1)≤9223372036854775808) else decide (digW 0 (s.data.toList.drop 0)≤9223372036854775807):=by
 have h:=drop_at s 0 hp
 rw [List.drop_zero] at h
 rw [h,int64B]
 rfl
abbrev StP:=Except Int (List Tok)
def runS {α:Type} (p:Rdr α):StP→Except Int (α × List Tok)
 | .ok ts=>p ts
 | .error y=>.error y
def aftS {α:Type} : Except Int (α × List Tok)→StP
 | .ok a=>.ok a.2
 | .error y=>.error y
def mapE {α β:Type} (f:α→β):Except Int (α × List Tok)→Except Int (β × List Tok)
 | .ok a=>.ok (f a.1,a.2)
 | .error y=>.error y
theorem aft_map {α β:Type} (f:α→β) (R:Except Int (α × List Tok)):aftS (mapE f R)=aftS R:=by cases R<;>rfl
theorem map_ok {α β:Type} {f:α→β} {R:Except Int (α × List Tok)} {b:β} {ts:List Tok} (h:mapE f R=.ok (b,ts)):∃ a,R=.ok (a,ts)∧b=f a:=by
 cases R with
 | error y=>cases h
 | ok a =>
   have:=Except.ok.inj h
   obtain ⟨h1,h2⟩:=Prod.mk.inj this
   exact ⟨a.1,by rw [← h2],h1.symm⟩
def isS (k:Int) (s:ByteArray):StP→Bool
 | .ok ts=>atB k s ts
 | .error _=>false
def wordS:StP→Bool
 | .ok ts=>wordB ts
 | .error _=>false
def failS (x:Int):StP→StP
 | .ok _=>.error x
 | .error y=>.error y
def tkS (s:ByteArray):StP→StP
 | .ok ts=>if atB 1 s ts=true then .ok ts.tail else .error 2
 | .error y=>.error y
def nmS:StP→StP
 | .ok ts=>(match nameR ts with|some a=>.ok a.2|none=>.error 2)
 | .error y=>.error y
def nmV:StP→ByteArray
 | .ok ts=>(match nameR ts with|some a=>a.1|none=>eB)
 | .error _=>eB
def openS (d:Nat) (s:ByteArray) (S:StP):StP:=if isS 1 s S=true∧d=16 then .error 4 else tkS s S
def peekT:StP→Tok
 | .ok (t :: _)=>t
 | _=>(0,⟨#[]⟩)
theorem is_peek (k:Int) (s:ByteArray) (S:StP) (hk:k ≠ 0):isS k s S=((peekT S).1 == k && ((peekT S).2.toList == s.toList)):=by
 rcases S with y|ts
 · have:((0:Int) == k)=false:=by simpa using fun h=>hk h.symm
   show false=((0:Int) == k && _)
   rw [this];rfl
 · rcases ts with _|⟨t,ts⟩
   · have:((0:Int) == k)=false:=by simpa using fun h=>hk h.symm
     show false=((0:Int) == k && _)
     rw [this];rfl
   · rfl
theorem word_peek (S:StP):wordS S=((peekT S).1 == 2):=by
 rcases S with y|ts
 · rfl
 · rcases ts with _|⟨t,ts⟩<;>rfl
theorem nm_word {S:StP} (h:wordS S=true):∃ t ts,S=.ok (t :: ts)∧nmV S=t.2∧nmS S=.ok ts:=by
 rcases S with y|ts
 · cases h
 · rcases ts with _|⟨t,ts⟩
   · cases h
   · have ht:t.1=2:=by simpa [wordS,wordB] using h
     refine ⟨t,ts,rfl,?_,?_⟩
     · simp only [nmV,name_cons,if_pos ht]
     · simp only [nmS,name_cons,if_pos ht]
theorem nm_none {S:StP} (h:wordS S=false):nmV S=eB∧nmS S=failS 2 S:=by
 rcases S with y|ts
 · exact ⟨rfl,rfl⟩
 · rcases ts with _|⟨t,ts⟩
   · exact ⟨rfl,rfl⟩
   · have ht : ¬ t.1=2:=by simpa [wordS,wordB] using h
     refine ⟨?_,?_⟩
     · simp only [nmV,name_cons,if_neg ht]
     · simp only [nmS,name_cons,if_neg ht,failS]
theorem tk_yes {s:ByteArray} {S:StP} (h:isS 1 s S=true):∃ t ts,S=.ok (t :: ts)∧tkS s S=.ok ts:=by
 rcases S with y|ts
 · cases h
 · rcases ts with _|⟨t,ts⟩
   · cases h
   · have h1:atB 1 s (t :: ts)=true:=h
     exact ⟨t,ts,rfl,by show (if atB 1 s (t :: ts)=true then _ else _)=_;rw [if_pos h1];rfl⟩
theorem tk_no {s:ByteArray} {S:StP} (h:isS 1 s S=false):tkS s S=failS 2 S:=by
 rcases S with y|ts
 · rfl
 · have h' : ¬ atB 1 s ts=true:=by
    have:atB 1 s ts=false:=h
    rw [this];simp
   show (if atB 1 s ts=true then _ else _)=_
   rw [if_neg h'];rfl
theorem mem_run (fx:Bool) (d:Nat) (S:StP):runS (memD fx d) S=mapE (fun v=>(nmV S,v)) (runS (valD fx d) (tkS colB (nmS S))):=by
 rcases S with y|ts
 · rfl
 · show memD fx d ts=_
   rw [memD_eq]
   unfold nmR
   simp only [nmS,nmV]
   cases hn:nameR ts with
   | none=>rfl
   | some a =>
     obtain ⟨nm,r⟩:=a
     simp only [ifR,tkS]
     cases hc:atB 1 colB r with
     | false=>rfl
     | true =>
       simp only [if_true,bindR,runS,retR]
       cases valD fx d r.tail<;>rfl
def itS (fx:Bool) (d:Nat) (l:VL) (S:StP):Except Int (VL × List Tok):=runS (itemsD fx d l) S
theorem it_next {fx:Bool} {d:Nat} {l:VL} {S:StP} (h:isS 1 cB S=false):itS fx d l S=(match runS (valD fx d) S with | .ok a=>itS fx d (l.snoc a.1) (.ok a.2) | .error y=>.error y):=by
 rcases S with y|ts
 · rfl
 · have h' : ¬ atB 1 cB ts=true:=by
    have:atB 1 cB ts=false:=h
    rw [this];simp
   show itemsD fx d l ts=_
   rw [itemsD_eq]
   simp only [ifR]
   rw [if_neg h']
   simp only [bindR,runS]
   cases valD fx d ts<;>rfl
theorem it_end {fx:Bool} {d:Nat} {l:VL} {S:StP} (h:isS 1 cB S=true):itS fx d l S=mapE (fun _=>l) (runS (fun ts=>.ok ((),ts)) (tkS cB S)):=by
 obtain ⟨t,ts,rfl,h2⟩:=tk_yes h
 have h1:atB 1 cB (t :: ts)=true:=h
 rw [h2]
 show itemsD fx d l (t :: ts)=_
 rw [itemsD_eq]
 simp only [ifR,h1,if_true,retR,mapE,runS,List.tail_cons]
def msS (fx:Bool) (d:Nat) (l:VM) (S:StP):Except Int (VM × List Tok):=runS (memsD fx d l) S
theorem ms_next {fx:Bool} {d:Nat} {l:VM} {S:StP} (h:isS 1 cmB S=false):msS fx d l S=(match runS (memD fx d) S with | .ok a=>msS fx d (l.snoc a.1.1 a.1.2) (.ok a.2) | .error y=>.error y):=by
 rcases S with y|ts
 · rfl
 · have h' : ¬ atB 1 cmB ts=true:=by
    have:atB 1 cmB ts=false:=h
    rw [this];simp
   show memsD fx d l ts=_
   rw [memsD_eq]
   simp only [ifR]
   rw [if_neg h']
   simp only [bindR,runS]
   cases memD fx d ts<;>rfl
theorem ms_end {fx:Bool} {d:Nat} {l:VM} {S:StP} (h:isS 1 cmB S=true):msS fx d l S=mapE (fun _=>l) (runS (fun ts=>.ok ((),ts)) (tkS cmB S)):=by
 obtain ⟨t,ts,rfl,h2⟩:=tk_yes h
 have h1:atB 1 cmB (t :: ts)=true:=h
 rw [h2]
 show memsD fx d l (t :: ts)=_
 rw [memsD_eq]
 simp only [ifR,h1,if_true,retR,mapE,runS,List.tail_cons]
def valOf {α:Type} (z:α):Except Int (α × List Tok)→α
 | .ok a=>a.1
 | .error _=>z
theorem aft_ok {α:Type} {R:Except Int (α × List Tok)} {ts:List Tok} (h:aftS R=.ok ts):∃ a,R=.ok (a,ts)∧∀ z,valOf z R=a:=by
 cases R with
 | error y=>cases h
 | ok a=>exact ⟨a.1,by rw [← Except.ok.inj h],fun _=>rfl⟩
theorem run_ok {α:Type} {p:Rdr α} {S:StP} {a:α} {ts:List Tok} (h:runS p S=.ok (a,ts)):∃ us,S=.ok us∧p us=.ok (a,ts):=by
 rcases S with y|us
 · cases h
 · exact ⟨us,rfl,h⟩
def RP (w:World) (r d:Nat) (S:StP):Prop:=∃ (A:Option Addr) (c p:Nat) (dd x:Int) (all:List Tok),
 w.heap[r]? = some (.cells #[.slice A all.length c,.int .i64 p,.int .i64 dd,.int .i64 x] 81 (0,0))∧all.length≤200000∧p≤all.length∧PToksAt w r A all ∧
 (match S with | .ok ts=>x=0∧dd=d∧ts=all.drop p | .error y=>x=y∧y ≠ 0)
theorem RP.lt {w:World} {r d:Nat} {S:StP} (h:RP w r d S):r < w.heap.size:=by
 obtain ⟨_,_,_,_,_,_,h,_⟩:=h
 exact (Array.getElem?_eq_some_iff.1 h).1
theorem RP.below {w w':World} {r d:Nat} {S:StP} (h:RP w r d S) (hb:Below w.heap.size w w'):RP w' r d S:=by
 have hl:=h.lt
 obtain ⟨A,c,p,dd,x,all,h0,h1,h2,h3,h4⟩:=h
 exact ⟨A,c,p,dd,x,all,(hb.block r hl).trans h0,h1,h2,h3.moved (Moved.of_below hb) hl,h4⟩
theorem RP.set {w:World} {r b i d:Nat} {v:Value} {S:StP} (h:RP w r d S) (hb:r < b):RP (w.setCell ⟨b,i,none⟩ v) r d S:=by
 obtain ⟨A,c,p,dd,x,all,h0,h1,h2,h3,h4⟩:=h
 refine ⟨A,c,p,dd,x,all,(Below.heap_setCell _ _ _ _ (by show r ≠ b;omega)).trans h0,h1,h2,fun j t ht=>?_,h4⟩
 obtain ⟨k,o,e,hx,g0,g1⟩:=h3 j t ht
 have hs:(w.setCell ⟨b,i,none⟩ v).heap[k]? = w.heap[k]?:=Below.heap_setCell _ _ _ _ (by show k ≠ b;omega)
 exact ⟨k,o,e,hx,(World.cell?_of_block (a:=⟨k,o+j*2,none⟩) hs).trans g0,(World.cell?_of_block (a:=⟨k,o+j*2+1,none⟩) hs).trans g1⟩
theorem RP.err {w:World} {r d d':Nat} {y:Int} (h:RP w r d (.error y)):RP w r d' (.error y):=h
theorem ptoks_set {w:World} {r i:Nat} {v:Value} {A:Option Addr} {all:List Tok} (h3:PToksAt w r A all):PToksAt (w.setCell ⟨r,i,none⟩ v) r A all:=fun j t ht=>by
 obtain ⟨k,o,e,hx,g0,g1⟩:=h3 j t ht
 have hs:(w.setCell ⟨r,i,none⟩ v).heap[k]? = w.heap[k]?:=Below.heap_setCell _ _ _ _ (by show k ≠ r;omega)
 exact ⟨k,o,e,hx,(World.cell?_of_block (a:=⟨k,o+j*2,none⟩) hs).trans g0,(World.cell?_of_block (a:=⟨k,o+j*2+1,none⟩) hs).trans g1⟩
theorem below_st {B b i:Nat} {w W:World} {v:Value} (h:Below B w W) (hb:B≤b):Below B w (W.setCell ⟨b,i,none⟩ v):=h.setCell (p:=⟨b,i,none⟩) hb v
theorem rpeek (r d:Nat) (S:StP) (w:World) (h:RP w r d S):Calls Tryz.prog 107 #[.pointer (some ⟨r,0,none⟩)] w fun e w'=>e=.returned (.agg #[.int .i64 (peekT S).1,.string (peekT S).2])∧Below w.heap.size w w':=by
 obtain ⟨A,c,p,dd,x,all,h0,h1,h2,h3,h4⟩:=h
 have hr:=(Array.getElem?_eq_some_iff.1 h0).1
 have B1:=Hd (blw w (.cells #[.int .i64 0,.string ⟨#[]⟩] 70))
 have Z1:=Hd (heap_alloc_last w (.cells #[.int .i64 0,.string ⟨#[]⟩] 70))
 obtain ⟨c0,c1,c2,c3,cz⟩:=four_cells ((B1.out.block r hr).trans h0)
 have HL:=Hd (And.intro h1 h2)
 have H3:=Hd h3
 rcases S with y|ts
 · obtain ⟨rfl,hy⟩:=h4
   have t1:(x != 0)=true:=by simpa using hy
   clear h0 h1 h2 h3 hy cz
   go_enter Tryz.func107,Tryz.ntmps107
   go_wp2_with fail
   go_quiet (fail)
   go_wp2_with fail
   refine pret_tok rfl rfl rfl (heap_setCell_same _ _ 1 _ _ _ (heap_setCell_same _ _ 0 _ _ _ Z1.out)) ⟨rfl,?_⟩
   exact below_st (below_st ((B1.out.trans ⟨rfl,rfl,rfl,Nat.le_refl _,fun _ _=>rfl⟩)) (Nat.le_refl _)) (Nat.le_refl _)
 · obtain ⟨rfl,rfl,rfl⟩:=h4
   by_cases hp:p < all.length
   · have hp2:decide ((all.length:Int)≤(p:Int))=false:=by simp;omega
     have hp3:(p:Int) < (all.length:Int):=by omega
     have hp4:(0:Int)≤(p:Int):=by omega
     have hpk:Hid (peekT (.ok (all.drop p))=all[p]):=Hd (by rw [List.drop_eq_getElem_cons hp];rfl)
     obtain ⟨b,o,hA,hb,g0,g1⟩:=h3 p all[p] (List.getElem?_eq_getElem hp)
     obtain ⟨t,ht⟩:∃ t,all[p]=t:=⟨_,rfl⟩
     rw [ht] at hpk g0 g1
     obtain ⟨tk,tx⟩:=t
     subst hA
     have f0:=(B1.out.cell (p:=⟨b,_,none⟩) (show b < w.heap.size by omega)).trans g0
     have f1:=(B1.out.cell (p:=⟨b,_,none⟩) (show b < w.heap.size by omega)).trans g1
     obtain ⟨n,hn⟩:∃ n,all.length=n:=⟨_,rfl⟩
     rw [hn] at hp2 hp3 c0
     clear h0 h1 h2 h3 cz g0 g1 ht hp hn
     go_enter Tryz.func107,Tryz.ntmps107
     go_wp2_with fail
     go_quiet (fail)
     go_wp2_with fail
     go_region
     go_wp2_with fail
     refine pret_tok rfl rfl rfl (heap_setCell_same _ _ 1 _ _ _ (heap_setCell_same _ _ 0 _ _ _ Z1.out)) ⟨by rw [hpk.out],?_⟩
     exact below_st (below_st ((B1.out.trans ⟨rfl,rfl,rfl,Nat.le_refl _,fun _ _=>rfl⟩)) (Nat.le_refl _)) (Nat.le_refl _)
   · have hp2:decide ((all.length:Int)≤(p:Int))=true:=by simp;omega
     have hpk:Hid (peekT (.ok (all.drop p))=(0,⟨#[]⟩)):=Hd (by rw [List.drop_eq_nil_of_le (by omega)];rfl)
     clear h0 h1 h2 h3 cz
     go_enter Tryz.func107,Tryz.ntmps107
     go_wp2_with fail
     go_quiet (fail)
     go_wp2_with fail
     refine pret_tok rfl rfl rfl (heap_setCell_same _ _ 1 _ _ _ (heap_setCell_same _ _ 0 _ _ _ Z1.out)) ⟨by rw [hpk.out],?_⟩
     exact below_st (below_st ((B1.out.trans ⟨rfl,rfl,rfl,Nat.le_refl _,fun _ _=>rfl⟩)) (Nat.le_refl _)) (Nat.le_refl _)
end Go.Proofs.YtpkmbhnikilihaaGreatDoor
