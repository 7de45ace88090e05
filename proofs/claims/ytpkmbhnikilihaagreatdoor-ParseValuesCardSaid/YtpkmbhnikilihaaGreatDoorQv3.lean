/- The landed reader of tokens (package parse): what it holds; the walks of ended, at, atWord. -/
import Derived.Test.YtpkmbhnikilihaaGreatDoorQv2
import Derived.WalkLawsBesides
import Derived.Deep.CondSized
import Derived.Laws.Rows
set_option maxRecDepth 100000
set_option maxHeartbeats 4000000
namespace Go.Proofs.YtpkmbhnikilihaaGreatDoor
open Go.RowKit
abbrev Tok:=Int × ByteArray
def Moved (r:Nat) (w w':World):Prop:=w.grownBy w' (some r)
theorem Moved.refl (r:Nat) (w:World):Moved r w w:=⟨rfl,rfl,rfl,Nat.le_refl _,fun _ _ _=>rfl⟩
theorem Moved.of_below {r:Nat} {w w':World} (h:Below w.heap.size w w'):Moved r w w':=⟨h.os,h.tape,h.output,h.size,fun b hb _=>h.block b hb⟩
theorem Moved.trans {r:Nat} {w w1 w2:World} (h:Moved r w w1) (h':Moved r w1 w2):Moved r w w2:=
 ⟨h'.os.trans h.os,h'.tape.trans h.tape,h'.output.trans h.output,Nat.le_trans h.size h'.size,fun b hb hn=>(h'.block b (Nat.lt_of_lt_of_le hb h.size) hn).trans (h.block b hb hn)⟩
theorem Moved.set {r i:Nat} {w:World} {v:Value} : Moved r w (w.setCell ⟨r,i,none⟩ v):=by
 exact ⟨rfl,rfl,rfl,by simp [World.setCell],fun b hb hn=>Below.heap_setCell _ _ _ _ (fun e=>hn (by rw [e]))⟩
def PToksAt (w:World) (r:Nat) (A:Option Addr) (ts:List Tok):Prop:=∀ (j:Nat) t,ts[j]? = some t→∃ b o,A=some ⟨b,o,none⟩∧b < r∧w.cell? ⟨b,o+j*2,none⟩=some (.int .i64 t.1)∧w.cell? ⟨b,o+j*2+1,none⟩=some (.string t.2)
theorem PToksAt.moved {w w':World} {r:Nat} {A:Option Addr} {ts:List Tok} (h:PToksAt w r A ts) (hm:Moved r w w') (hr:r < w.heap.size):PToksAt w' r A ts:=by
 intro j t ht
 obtain ⟨b,o,e,hb,h0,h1⟩:=h j t ht
 have hs:=hm.block b (by omega) (fun e=>by injection e;omega)
 exact ⟨b,o,e,hb,(World.cell?_of_block (a:=⟨b,o+j*2,none⟩) hs).trans h0,(World.cell?_of_block (a:=⟨b,o+j*2+1,none⟩) hs).trans h1⟩
def Rd (w:World) (r:Nat) (ts:List Tok) (d:Nat):Prop:=∃ A c,w.heap[r]? = some (.cells #[.slice A ts.length c,.int .i64 d] 147 (0,0))∧ts.length≤c∧ts.length≤200000∧PToksAt w r A ts
theorem Rd.lt {w:World} {r:Nat} {ts:List Tok} {d:Nat} (h:Rd w r ts d):r < w.heap.size:=by
 obtain ⟨A,c,h,_⟩:=h
 exact (Array.getElem?_eq_some_iff.1 h).1
theorem Rd.below {w w':World} {r:Nat} {ts:List Tok} {d:Nat} (h:Rd w r ts d) (hb:Below w.heap.size w w'):Rd w' r ts d:=by
 have hl:=h.lt
 obtain ⟨A,c,h0,h1,h2,h3⟩:=h
 exact ⟨A,c,(hb.block r hl).trans h0,h1,h2,h3.moved (Moved.of_below hb) hl⟩
theorem two_box {w:World} {b:Nat} {z0 z1:Value} {t:TypeId} (h:w.heap[b]? = some (.cells #[z0,z1] t (0,0))):w.cell? ⟨b,0,none⟩=some z0∧w.cell? ⟨b,1,none⟩=some z1∧w.frozen? ⟨b,0,none⟩=false∧w.frozen? ⟨b,1,none⟩=false:=by
 refine ⟨?_,?_,?_,?_⟩
 · simp only [World.cell?,h];rfl
 · simp only [World.cell?,h];rfl
 · simp [World.frozen?,h]
 · simp [World.frozen?,h]
def PanicE (e:Int):Ending:=.panicked [{ v:=.iface 145 (.agg #[.int .i64 e]),recovered:=false }]
def atB (k:Int) (s:ByteArray):List Tok→Bool
 | []=>false
 | t :: _=>t.1 == k && (t.2.toList == s.toList)
def wordB:List Tok→Bool
 | []=>false
 | t :: _=>t.1 == 2
theorem ended_any (r:Nat) (ts:List Tok) (d:Nat) (w:World) (h:Rd w r ts d):Calls Tryz.prog 94 #[.pointer (some ⟨r,0,none⟩)] w fun e w'=>e=.returned (.bool ts.isEmpty)∧w=w':=by
 obtain ⟨A,c,h0,h1,h2,h3⟩:=h
 obtain ⟨c0,c1,_,_⟩:=two_box h0
 have he:((ts.length:Int) == 0)=ts.isEmpty:=by cases ts<;>simp;omega
 obtain ⟨b,hb⟩:∃ b,ts.isEmpty=b:=⟨_,rfl⟩
 rw [hb] at he ⊢
 clear h0 h3 hb
 generalize ts.length=n at *
 go_enter Tryz.func94,Tryz.ntmps94
 go_wp2_with fail
 go_ret
 exact ⟨rfl,rfl⟩
theorem at_any (r:Nat) (ts:List Tok) (d:Nat) (k:Int) (s:ByteArray) (w:World) (h:Rd w r ts d):Calls Tryz.prog 95 #[.pointer (some ⟨r,0,none⟩),.int .i64 k,.string s] w fun e w'=>e=.returned (.bool (atB k s ts))∧w=w':=by
 have HE:=Hd (ended_any r ts d w h)
 obtain ⟨A,c,h0,h1,h2,h3⟩:=h
 obtain ⟨c0,c1,_,_⟩:=two_box h0
 cases ts with
 | nil =>
   clear h0 h3
   go_enter Tryz.func95,Tryz.ntmps95
   go_wp2_with fail
   refine HE.out.mono ?_
   rintro e w1 ⟨rfl,rfl⟩
   go_wp2_with fail
   go_ret
   exact ⟨rfl,rfl⟩
 | cons t ts =>
   obtain ⟨b,o,rfl,hb,g0,g1⟩:=h3 0 t rfl
   obtain ⟨tk,tx⟩:=t
   simp only [Nat.zero_mul,Nat.add_zero] at g0 g1
   have hr:Hid (atB k s ((tk,tx) :: ts)=(tk == k && (tx.toList == s.toList))):=Hd rfl
   have hn:(0:Int) < (((tk,tx) :: ts).length:Int):=by simp
   have hn2:((tk,tx) :: ts).length=ts.length+1:=rfl
   clear h0 h3
   go_enter Tryz.func95,Tryz.ntmps95
   go_wp2_with fail
   refine HE.out.mono ?_
   rintro e w1 ⟨rfl,rfl⟩
   go_wp2_with fail
   all_goals
    go_ret
    exact ⟨ret_bool (by rw [hr.out];simp [*]),rfl⟩
theorem atWord_any (r:Nat) (ts:List Tok) (d:Nat) (w:World) (h:Rd w r ts d):Calls Tryz.prog 174 #[.pointer (some ⟨r,0,none⟩)] w fun e w'=>e=.returned (.bool (wordB ts))∧w=w':=by
 have HE:=Hd (ended_any r ts d w h)
 obtain ⟨A,c,h0,h1,h2,h3⟩:=h
 obtain ⟨c0,c1,_,_⟩:=two_box h0
 cases ts with
 | nil =>
   clear h0 h3
   go_enter Tryz.func174,Tryz.ntmps174
   go_wp2_with fail
   refine HE.out.mono ?_
   rintro e w1 ⟨rfl,rfl⟩
   go_wp2_with fail
   go_ret
   exact ⟨rfl,rfl⟩
 | cons t ts =>
   obtain ⟨b,o,rfl,hb,g0,g1⟩:=h3 0 t rfl
   obtain ⟨tk,tx⟩:=t
   simp only [Nat.zero_mul,Nat.add_zero] at g0 g1
   have hn:(0:Int) < (((tk,tx) :: ts).length:Int):=by simp
   have hn2:((tk,tx) :: ts).length=ts.length+1:=rfl
   clear h0 h3
   go_enter Tryz.func174,Tryz.ntmps174
   go_wp2_with fail
   refine HE.out.mono ?_
   rintro e w1 ⟨rfl,rfl⟩
   go_wp2_with fail
   go_ret
   exact ⟨rfl,rfl⟩
theorem heap_at2 (w:World) (r:Nat) (v:Value) (o o':Obj):(((w.setCell ⟨r,0,none⟩ v).alloc o).alloc o').heap[w.heap.size]? = some o:=by
 have h1:(w.setCell ⟨r,0,none⟩ v).heap.size=w.heap.size:=by simp [World.setCell]
 rw [Below.heap_alloc _ _ _ (by simp [h1])]
 have:=heap_alloc_new (w.setCell ⟨r,0,none⟩ v) o
 rwa [h1] at this
theorem pret_tok {R:Ending→World→Prop} {fn:Func} {a:Act} {W:World} {c0 c1:Value} {p b:Nat} (hf:fn.results=#[.cell p 70]) (h2:a.tmps.getD p undef=.pointer (some ⟨b,0,none⟩)) (hd:a.defers=[])
  (hc:W.heap[b]? = some (.cells #[c0,c1] 70 (0,0))) (hR:R (.returned (.agg #[c0,c1])) W):bodyPost Tryz.prog fn R .ret a W:=by
 have hl:(loadVar 70 ⟨b,0,none⟩).run Tryz.prog W=.ok (.agg #[c0,c1]) W:=
  run_loadVar_row W b 70 70 #[c0,c1] (0,0) _ hc Tryz.underlying70 rfl (by kernel_rfl)
 refine bodyPost_ret ?_ hd hR
 have h2':a.tmps[p]?.getD undef=.pointer (some ⟨b,0,none⟩):=by rw [← h2];simp
 simp [results,hf,h2',asAddr,hl]
theorem take_world {w:World} {r:Nat} {x y v:Value} {tt:TypeId} {o o':Obj} (h:w.heap[r]? = some (.cells #[x,y] tt (0,0))):(((w.setCell ⟨r,0,none⟩ v).alloc o).alloc o').heap[r]? = some (.cells #[v,y] tt (0,0))∧Moved r w (((w.setCell ⟨r,0,none⟩ v).alloc o).alloc o'):=by
 have hl:r < w.heap.size:=(Array.getElem?_eq_some_iff.1 h).1
 have h1:(w.setCell ⟨r,0,none⟩ v).heap.size=w.heap.size:=by simp [World.setCell]
 refine ⟨?_,Moved.set.trans ((Moved.of_below ((Below.refl _ _).alloc (Nat.le_refl _) o)).trans (Moved.of_below ((Below.refl _ _).alloc (Nat.le_refl _) o')))⟩
 rw [Below.heap_alloc _ _ _ (by simp [h1];omega),Below.heap_alloc _ _ _ (by rw [h1];exact hl)]
 exact heap_setCell_same _ r 0 _ _ _ h
theorem add_two (b o:Nat):(⟨b,o,none⟩:Addr).add 2=⟨b,o+2,none⟩:=by unfold Addr.add;split<;>simp_all
theorem rd_after {w w2:World} {r:Nat} {t:Tok} {ts:List Tok} {d c:Nat} {b o:Nat} (hA:PToksAt w r (some ⟨b,o,none⟩) (t :: ts)) (hr:r < w.heap.size) (hlen:ts.length≤200000) (hc:ts.length≤c)
  (hm:Moved r w w2) (h2:w2.heap[r]? = some (.cells #[.slice (some ⟨b,o+2,none⟩) ts.length c,.int .i64 d] 147 (0,0))):Rd w2 r ts d:=by
 refine ⟨_,c,h2,hc,hlen,fun j u hu=>?_⟩
 obtain ⟨b',o',e,hb,g0,g1⟩:=(hA.moved hm hr) (j+1) u (by simpa using hu)
 injection e with e
 injection e with e1 e2
 subst e1 e2
 exact ⟨b,o+2,rfl,hb,by rw [show o+2+j*2=o+(j+1)*2 by omega];exact g0,by rw [show o+2+j*2+1=o+(j+1)*2+1 by omega];exact g1⟩
theorem take_no (r d:Nat) (w:World) (h:Rd w r [] d):Calls Tryz.prog 119 #[.pointer (some ⟨r,0,none⟩)] w fun e w'=>e=PanicE 2∧Moved r w w':=by
 have HE:=fun wx hb=>Hd (ended_any r [] d wx (h.below (w':=wx) hb))
 have hb0:=Hd (fun o=>(Below.refl w.heap.size w).alloc (Nat.le_refl _) o)
 clear h
 go_enter Tryz.func119,Tryz.ntmps119
 go_wp2_with fail
 refine (HE _ (hb0.out _)).out.mono ?_
 rintro e w1 ⟨rfl,rfl⟩
 go_wp2_with fail
 exact ⟨rfl,rfl,Moved.of_below (hb0.out _)⟩
theorem take_yes (r:Nat) (t:Tok) (ts:List Tok) (d:Nat) (w:World) (h:Rd w r (t :: ts) d):Calls Tryz.prog 119 #[.pointer (some ⟨r,0,none⟩)] w fun e w'=>e=.returned (.agg #[.int .i64 t.1,.string t.2])∧Rd w' r ts d∧Moved r w w':=by
 have HE:=fun wx hb=>Hd (ended_any r (t :: ts) d wx (h.below (w':=wx) hb))
 have hb0:=Hd (fun o=>(Below.refl w.heap.size w).alloc (Nat.le_refl _) o)
 have hl:=h.lt
 obtain ⟨A,c,h0,h1,h2,h3⟩:=h
 obtain ⟨b,o,rfl,hb,g0,g1⟩:=h3 0 t rfl
 have H3:=Hd h3
 obtain ⟨tk,tx⟩:=t
 simp only [Nat.zero_mul,Nat.add_zero] at g0 g1
 have hcell0:(w.alloc (.cells #[.int .i64 0,.string ⟨#[]⟩] 70)).heap[r]? = some (.cells #[.slice (some ⟨b,o,none⟩) (ts.length+1) c,.int .i64 d] 147 (0,0)):=((hb0.out _).block r hl).trans h0
 obtain ⟨c0,c1,z0,z1⟩:=two_box hcell0
 have e0:=((hb0.out (.cells #[.int .i64 0,.string ⟨#[]⟩] 70)).cell (p:=⟨b,o,none⟩) (by simp;omega)).trans g0
 have e1:=((hb0.out (.cells #[.int .i64 0,.string ⟨#[]⟩] 70)).cell (p:=⟨b,o+1,none⟩) (by simp;omega)).trans g1
 have hlen:ts.length+1≤200000:=by simpa using h2
 have hcap:ts.length+1≤c:=by simpa using h1
 have hsl:=add_two b o
 have H0:=Hd h0
 have HL:=Hd hl
 clear h0 h3 h1 h2 g0 g1
 by_cases hc1:c=1
 · subst hc1
   obtain rfl:ts=[]:=List.length_eq_zero_iff.1 (by omega)
   go_enter Tryz.func119,Tryz.ntmps119
   go_wp2_with fail
   refine (HE _ (hb0.out _)).out.mono ?_
   rintro e w1 ⟨rfl,rfl⟩
   go_wp2_with fail
   refine pret_tok rfl rfl rfl (heap_at2 _ _ _ _ _) ?_
   obtain ⟨t1,t2⟩:=take_world (v:=.slice (some ⟨b,o,none⟩) 0 0) (o:=.cells #[.int .i64 tk,.string tx] 70) (o':=.cells #[.int .i64 tk,.string tx] 70) H0.out
   exact ⟨rfl,⟨_,0,t1,Nat.le_refl _,by simp,fun j u hu=>by simp at hu⟩,t2⟩
 · obtain ⟨c',rfl⟩:∃ c',c=c'+1:=⟨c - 1,by omega⟩
   have hc':0 < c':=by omega
   go_enter Tryz.func119,Tryz.ntmps119
   go_wp2_with fail
   refine (HE _ (hb0.out _)).out.mono ?_
   rintro e w1 ⟨rfl,rfl⟩
   go_wp2_with fail
   refine pret_tok rfl rfl rfl (heap_at2 _ _ _ _ _) ?_
   obtain ⟨t1,t2⟩:=take_world (v:=.slice (some ⟨b,o+2,none⟩) ts.length c') (o:=.cells #[.int .i64 tk,.string tx] 70) (o':=.cells #[.int .i64 tk,.string tx] 70) H0.out
   exact ⟨rfl,rd_after H3.out HL.out (by omega) (by omega) t2 t1,t2⟩
theorem at_tail {k:Int} {s:ByteArray} {ts:List Tok} (h:atB k s ts=true):∃ t,ts=t :: ts.tail:=by
 cases ts with
 | nil=>cases h
 | cons t ts=>exact ⟨t,rfl⟩
def skipT (k:Int) (s:ByteArray) (ts:List Tok):List Tok:=if atB k s ts=true then ts.tail else ts
theorem skip_any (r:Nat) (ts:List Tok) (d:Nat) (k:Int) (s:ByteArray) (w:World) (h:Rd w r ts d):Calls Tryz.prog 97 #[.pointer (some ⟨r,0,none⟩),.int .i64 k,.string s] w fun e w'=>e=.returned (.bool (atB k s ts))∧Rd w' r (skipT k s ts) d∧Moved r w w':=by
 have HA:=Hd (at_any r ts d k s w h)
 have H:=Hd h
 clear h
 cases hb:atB k s ts with
 | false =>
   rw [hb] at HA
   have hs:Hid (skipT k s ts=ts):=Hd (by unfold skipT;rw [hb];rfl)
   clear hb
   go_enter Tryz.func97,Tryz.ntmps97
   go_wp2_with fail
   refine HA.out.mono ?_
   rintro e w1 ⟨rfl,rfl⟩
   go_wp2_with fail
   go_ret
   exact ⟨rfl,by rw [hs.out];exact H.out,Moved.refl _ _⟩
 | true =>
   rw [hb] at HA
   have hs:Hid (skipT k s ts=ts.tail):=Hd (by unfold skipT;rw [hb];rfl)
   obtain ⟨t,ht⟩:=at_tail hb
   have HT:=Hd (take_yes r t ts.tail d w (by rw [← ht];exact H.out))
   clear hb ht
   go_enter Tryz.func97,Tryz.ntmps97
   go_wp2_with fail
   refine HA.out.mono ?_
   rintro e w1 ⟨rfl,rfl⟩
   go_wp2_with fail
   refine HT.out.mono ?_
   rintro e w2 ⟨rfl,h2,m2⟩
   have H2:=Hd (And.intro h2 m2)
   clear h2 m2
   go_wp2_with fail
   go_ret
   exact ⟨rfl,by rw [hs.out];exact H2.out.1,H2.out.2⟩
theorem need_any (r:Nat) (ts:List Tok) (d:Nat) (k:Int) (s:ByteArray) (w:World) (h:Rd w r ts d):Calls Tryz.prog 178 #[.pointer (some ⟨r,0,none⟩),.int .i64 k,.string s] w fun e w'=>if atB k s ts=true then e=.returned (.tuple #[])∧Rd w' r ts.tail d∧Moved r w w' else e=PanicE 2∧Moved r w w':=by
 have HA:=Hd (skip_any r ts d k s w h)
 cases hb:atB k s ts with
 | false =>
   rw [hb] at HA
   simp only [Bool.false_eq_true,if_false]
   clear hb h
   go_enter Tryz.func178,Tryz.ntmps178
   go_wp2_with fail
   refine HA.out.mono ?_
   rintro e w1 ⟨rfl,h1,m1⟩
   have M1:=Hd m1
   clear h1 m1
   go_wp2_with fail
   exact ⟨rfl,rfl,M1.out⟩
 | true =>
   have hs:Hid (skipT k s ts=ts.tail):=Hd (by unfold skipT;rw [hb];rfl)
   rw [hb] at HA
   simp only [if_true]
   clear hb h
   go_enter Tryz.func178,Tryz.ntmps178
   go_wp2_with fail
   refine HA.out.mono ?_
   rintro e w1 ⟨rfl,h1,m1⟩
   rw [hs.out] at h1
   have M1:=Hd (And.intro h1 m1)
   clear h1 m1
   go_wp2_with fail
   go_end0
   exact ⟨rfl,M1.out.1,M1.out.2⟩
def nameR:List Tok→Option (ByteArray × List Tok)
 | []=>none
 | t :: ts=>if t.1=2 then some (t.2,ts) else none
theorem pname_any (r:Nat) (ts:List Tok) (d:Nat) (w:World) (h:Rd w r ts d):Calls Tryz.prog 117 #[.pointer (some ⟨r,0,none⟩)] w fun e w'=>match nameR ts with
   | some (s,ts')=>e=.returned (.string s)∧Rd w' r ts' d∧Moved r w w'
   | none=>e=PanicE 2∧Moved r w w':=by
 cases ts with
 | nil =>
   have HT:=Hd (take_no r d w h)
   clear h
   show Calls _ _ _ _ fun e w'=>e=PanicE 2∧Moved r w w'
   go_enter Tryz.func117,Tryz.ntmps117
   go_wp2_with fail
   refine HT.out.mono ?_
   rintro e w1 ⟨rfl,m1⟩
   exact ⟨rfl,rfl,m1⟩
 | cons t ts =>
   obtain ⟨k,s⟩:=t
   have HT:=Hd (take_yes r (k,s) ts d w h)
   clear h
   by_cases hk:k=2
   · subst hk
     show Calls _ _ _ _ fun e w'=>e=.returned (.string s)∧Rd w' r ts d∧Moved r w w'
     go_enter Tryz.func117,Tryz.ntmps117
     go_wp2_with fail
     refine HT.out.mono ?_
     rintro e w1 ⟨rfl,h1,m1⟩
     have H1:=Hd (And.intro h1 m1)
     clear h1 m1
     go_wp2_with fail
     go_ret
     exact ⟨rfl,H1.out.1.below ((Below.refl _ _).alloc (Nat.le_refl _) _),H1.out.2.trans (Moved.of_below ((Below.refl _ _).alloc (Nat.le_refl _) _))⟩
   · have hr:nameR ((k,s) :: ts)=none:=by show (if k=2 then some (s,ts) else none)=none;rw [if_neg hk]
     rw [hr]
     have hk':(k != 2)=true:=by simpa using hk
     clear hk hr
     go_enter Tryz.func117,Tryz.ntmps117
     go_wp2_with fail
     refine HT.out.mono ?_
     rintro e w1 ⟨rfl,h1,m1⟩
     have H1:=Hd (And.intro h1 m1)
     clear h1 m1
     go_wp2_with fail
     exact ⟨rfl,rfl,H1.out.2.trans (Moved.of_below ((Below.refl _ _).alloc (Nat.le_refl _) _))⟩
theorem Rd.deep {w:World} {r:Nat} {ts:List Tok} {d d':Nat} (h:Rd w r ts d) {z:Int} (hz:z=(d':Int)):Rd (w.setCell ⟨r,1,none⟩ (.int .i64 z)) r ts d'∧Moved r w (w.setCell ⟨r,1,none⟩ (.int .i64 z)):=by
 subst hz
 have hl:=h.lt
 obtain ⟨A,c,h0,h1,h2,h3⟩:=h
 exact ⟨⟨A,c,heap_setCell_same _ r 1 _ _ _ h0,h1,h2,h3.moved Moved.set hl⟩,Moved.set⟩
theorem leave_any (r:Nat) (ts:List Tok) (d:Nat) (w:World) (hd:d≤1000) (h:Rd w r ts (d+1)):Calls Tryz.prog 173 #[.pointer (some ⟨r,0,none⟩)] w fun e w'=>e=.returned (.tuple #[])∧Rd w' r ts d∧Moved r w w':=by
 have H:=Hd h
 obtain ⟨A,c,h0,h1,h2,h3⟩:=h
 obtain ⟨c0,c1,z0,z1⟩:=two_box h0
 have hz:((d+1:Nat):Int) - 1=(d:Int):=by omega
 obtain ⟨D,hD⟩:∃ D,d+1=D:=⟨_,rfl⟩
 rw [hD] at c1 hz
 have HE:=Hd (H.out.deep (d':=d) rfl)
 have hDb:D≤1001:=by omega
 clear h0 h3 hD H
 go_enter Tryz.func173,Tryz.ntmps173
 go_wp2_with fail
 go_end0
 exact ⟨rfl,HE.out.1,HE.out.2⟩
theorem enter_any (r:Nat) (ts:List Tok) (d:Nat) (s:ByteArray) (w:World) (hd:d≤1000) (h:Rd w r ts d):Calls Tryz.prog 170 #[.pointer (some ⟨r,0,none⟩),.string s] w fun e w' =>
   if atB 1 s ts=true then (if d=16 then e=PanicE 4∧Moved r w w' else e=.returned (.tuple #[])∧Rd w' r ts.tail (d+1)∧Moved r w w') else e=PanicE 2∧Moved r w w':=by
 have HA:=Hd (at_any r ts d 1 s w h)
 have HN:=Hd (need_any r ts d 1 s w h)
 have H:=Hd h
 obtain ⟨A,c,h0,h1,h2,h3⟩:=h
 obtain ⟨c0,c1,z0,z1⟩:=two_box h0
 cases hb:atB 1 s ts with
 | false =>
   rw [hb] at HA HN
   simp only [Bool.false_eq_true,if_false] at HN ⊢
   clear hb h0 h3
   go_enter Tryz.func170,Tryz.ntmps170
   go_wp2_with fail
   refine HA.out.mono ?_
   rintro e w1 ⟨rfl,rfl⟩
   go_wp2_with fail
   refine HN.out.mono ?_
   rintro e w2 ⟨rfl,m2⟩
   exact ⟨rfl,rfl,m2⟩
 | true =>
   rw [hb] at HA HN
   simp only [if_true] at HN ⊢
   clear hb h0 h3
   by_cases h16:d=16
   · subst h16
     simp only [if_true]
     go_enter Tryz.func170,Tryz.ntmps170
     go_wp2_with fail
     refine HA.out.mono ?_
     rintro e w1 ⟨rfl,rfl⟩
     go_wp2_with fail
     exact ⟨rfl,rfl,Moved.refl _ _⟩
   · simp only [h16,if_false]
     have h16':((d:Int) == 16)=false:=by simp;omega
     clear h16
     go_enter Tryz.func170,Tryz.ntmps170
     go_wp2_with fail
     refine HA.out.mono ?_
     rintro e w1 ⟨rfl,rfl⟩
     go_wp2_with fail
     refine HN.out.mono ?_
     rintro e w2 ⟨rfl,r2,m2⟩
     have HE:=Hd (r2.deep (z:=(d:Int)+1) (d':=d+1) (by omega))
     have M2:=Hd m2
     obtain ⟨A2,c2,g0,_,_,_⟩:=r2
     obtain ⟨y0,y1,x0,x1⟩:=two_box g0
     clear g0 m2 c0 c1 z0 z1
     go_wp2_with fail
     go_end0
     exact ⟨rfl,HE.out.1,M2.out.trans HE.out.2⟩
def VT.zero:VT:=.mk 0 0 ⟨#[]⟩ .nil .nil
def VM.drop:VM→Nat→VM
 | m,0=>m
 | .nil,_+1=>.nil
 | .cons _ _ t,j+1=>t.drop j
theorem ret_v1 {R:Ending→World→Prop} {fn:Func} {a:Act} {W:World} {c0 c1 c2 c3 c4:Value} {p b:Nat} (hf:fn.results=#[.cell p 35]) (h2:a.tmps.getD p undef=.pointer (some ⟨b,0,none⟩)) (hd:a.defers=[])
  (hc:W.heap[b]? = some (.cells #[c0,c1,c2,c3,c4] 35 (0,0))) (hR:R (.returned (.agg #[c0,c1,c2,c3,c4])) W):bodyPost Tryz.prog fn R .ret a W:=by
 have hl:(loadVar 35 ⟨b,0,none⟩).run Tryz.prog W=.ok (.agg #[c0,c1,c2,c3,c4]) W:=
  run_loadVar_row W b 35 35 #[c0,c1,c2,c3,c4] (0,0) _ hc Tryz.underlying35 rfl (by kernel_rfl)
 refine bodyPost_ret ?_ hd hR
 have h2':a.tmps[p]?.getD undef=.pointer (some ⟨b,0,none⟩):=by rw [← h2];simp
 simp [results,hf,h2',asAddr,hl]
theorem rint_any (z:Int) (w:World) :
  Calls Tryz.prog 121 #[.int .i64 z] w fun e w'=>e=.returned (.agg #[.int .i64 2,.int .i64 z,.string ⟨#[]⟩,.slice none 0 0,.slice none 0 0])∧Below w.heap.size w w':=by
 go_enter Tryz.func121,Tryz.ntmps121
 go_wp2_with fail
 exact ret_v1 rfl rfl rfl (heap_alloc_new _ _) ⟨rfl,(Below.refl _ _).alloc (Nat.le_refl _) _⟩
theorem rtext_any (s:ByteArray) (w:World) :
  Calls Tryz.prog 122 #[.string s] w fun e w'=>e=.returned (.agg #[.int .i64 4,.int .i64 0,.string s,.slice none 0 0,.slice none 0 0])∧Below w.heap.size w w':=by
 go_enter Tryz.func122,Tryz.ntmps122
 go_wp2_with fail
 exact ret_v1 rfl rfl rfl (heap_alloc_new _ _) ⟨rfl,(Below.refl _ _).alloc (Nat.le_refl _) _⟩
theorem pint_any (z:Int) (w:World) :
  Calls Tryz.prog 190 #[.int .i64 z] w fun e w'=>e=.returned (.agg #[.int .i64 2,.int .i64 z,.string ⟨#[]⟩,.slice none 0 0,.slice none 0 0])∧Below w.heap.size w w':=by
 go_enter Tryz.func190,Tryz.ntmps190
 go_wp2_with fail
 exact ret_v1 rfl rfl rfl (heap_alloc_new _ _) ⟨rfl,(Below.refl _ _).alloc (Nat.le_refl _) _⟩
theorem ptext_any (s:ByteArray) (w:World) :
  Calls Tryz.prog 191 #[.string s] w fun e w'=>e=.returned (.agg #[.int .i64 4,.int .i64 0,.string s,.slice none 0 0,.slice none 0 0])∧Below w.heap.size w w':=by
 go_enter Tryz.func191,Tryz.ntmps191
 go_wp2_with fail
 exact ret_v1 rfl rfl rfl (heap_alloc_new _ _) ⟨rfl,(Below.refl _ _).alloc (Nat.le_refl _) _⟩
theorem five_set {w:World} {b:Nat} {z0 z1 z2 z3 z4 v0 v1 v2 v3 v4:Value} {t:TypeId} (h:w.heap[b]? = some (.cells #[z0,z1,z2,z3,z4] t (0,0))):(((((w.setCell ⟨b,0,none⟩ v0).setCell ⟨b,1,none⟩ v1).setCell ⟨b,2,none⟩ v2).setCell ⟨b,3,none⟩ v3).setCell ⟨b,4,none⟩ v4).heap[b]? = some (.cells #[v0,v1,v2,v3,v4] t (0,0)):=
 heap_setCell_same _ b 4 _ _ _ (heap_setCell_same _ b 3 _ _ _ (heap_setCell_same _ b 2 _ _ _ (heap_setCell_same _ b 1 _ _ _ (heap_setCell_same _ b 0 _ _ _ h))))
theorem gvc {w:World} {b:Nat} {z0 z1 z2 z3 z4:Value} {t:TypeId} (h:w.heap[b]? = some (.cells #[z0,z1,z2,z3,z4] t (0,0))):w.cell? ⟨b,0,none⟩=some z0∧w.cell? ⟨b,1,none⟩=some z1∧w.cell? ⟨b,2,none⟩=some z2∧w.cell? ⟨b,3,none⟩=some z3∧w.cell? ⟨b,4,none⟩=some z4∧∀ i,w.frozen? ⟨b,i,none⟩=false:=by
 refine ⟨?_,?_,?_,?_,?_,fun i=>?_⟩
 all_goals first|(simp only [World.cell?,h];rfl)|simp [World.frozen?,h]
def ResAt (w wx:World):Prop:=wx.heap[w.heap.size]? = some (.cells #[.int .i64 0,.int .i64 0,.string ⟨#[]⟩,.slice none 0 0,.slice none 0 0] 35 (0,0))∧w.heap.size < wx.heap.size∧Below w.heap.size w wx
theorem ResAt.alloc {w wx:World} (h:ResAt w wx) (o:Obj):ResAt w (wx.alloc o):=
 ⟨(Below.heap_alloc _ _ _ h.2.1).trans h.1,by have:=h.2.1;simp;omega,h.2.2.alloc (Nat.le_of_lt h.2.1) o⟩
end Go.Proofs.YtpkmbhnikilihaaGreatDoor
