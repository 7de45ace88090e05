/- The landed Type, whole. -/
import Derived.Test.YtpkmbhnikilihaaGreatDoorQv21
import Derived.Test.YtpkmbhnikilihaaGreatDoorQv16
set_option maxRecDepth 100000
set_option maxHeartbeats 8000000
namespace Go.Proofs.YtpkmbhnikilihaaGreatDoor
open Go.RowKit
def tokB (ts:List (Int × List UInt8)):List Tok:=ts.map fun t=>(t.1,⟨t.2.toArray⟩)
theorem tokB_len (ts:List (Int × List UInt8)):(tokB ts).length=ts.length:=by simp [tokB]
theorem ptokVals_at:∀ (ts:List (Int × List UInt8)) (j:Nat) t,(tokB ts)[j]? = some t→(tokVals ts)[j*2]? = some (.int .i64 t.1)∧(tokVals ts)[j*2+1]? = some (.string t.2)
 | [],_,_,h=>by simp [tokB] at h
 | u :: ts,0,t,h=>by
   have:(u.1,(⟨u.2.toArray⟩:ByteArray))=t:=by simpa [tokB] using h
   subst this
   exact ⟨rfl,rfl⟩
 | u :: ts,j+1,t,h=>by
   obtain ⟨h0,h1⟩:=ptokVals_at ts j t (by simpa [tokB] using h)
   refine ⟨?_,?_⟩
   · rw [show (j+1)*2=j*2+2 by omega];simpa [tokVals] using h0
   · rw [show (j+1)*2+1=(j*2+1)+2 by omega];simpa [tokVals] using h1
theorem rd_start {w:World} {base:Nat} {A:Option Addr} {cap:Nat} {ts:List (Int × List UInt8)} (h:w.ownsRow base 70 2 (.slice A ts.length cap) ts.length (tokVals ts)) (hl:ts.length≤200000) {g:Nat} (hg:g=w.heap.size):Rd (w.alloc (.cells #[.slice A ts.length cap,.int .i64 0] 147)) g (tokB ts) 0:=by
 subst hg
 have hlt:=h.lt
 refine ⟨A,cap,by rw [tokB_len];exact heap_alloc_new _ _,?_,by rw [tokB_len];exact hl,fun j t ht=>?_⟩
 · rw [tokB_len]
   rcases h.2 with ⟨e,h0⟩|⟨g,c,cur,e,_,_,hc,_⟩
   · omega
   · injection e with _ _ e;omega
 · obtain ⟨h0,h1⟩:=ptokVals_at ts j t ht
   have hj:j < ts.length:=by have:=(List.getElem?_eq_some_iff.1 ht).1;rwa [tokB_len] at this
   rcases h.2 with ⟨e,hn⟩|⟨g,c,cur,e,_,_,_,_⟩
   · omega
   · injection e with e1 _ _
     subst e1
     have hgl:=(hlt g rfl).2
     refine ⟨g,0,rfl,hgl,?_,?_⟩
     · rw [Nat.zero_add,World.cell?_of_block (a:=⟨g,j*2,none⟩) (Below.heap_alloc _ _ _ hgl),h.cellAt _ (by omega)];exact h0
     · rw [Nat.zero_add,World.cell?_of_block (a:=⟨g,j*2+1,none⟩) (Below.heap_alloc _ _ _ hgl),h.cellAt _ (by omega)];exact h1
theorem one_box {w:World} {b:Nat} {z:Value} {t:TypeId} (h:w.heap[b]? = some (.cells #[z] t (0,0))):w.cell? ⟨b,0,none⟩=some z∧w.frozen? ⟨b,0,none⟩=false:=by
 refine ⟨?_,?_⟩
 · simp only [World.cell?,h];rfl
 · simp [World.frozen?,h]
theorem two_below' (w:World) (o o':Obj):Below w.heap.size w ((w.alloc o).alloc o'):=((Below.refl _ _).alloc (Nat.le_refl _) o).alloc (by simp) o'
def TZ:Value:=.agg #[.string ⟨#[]⟩,.int .i64 0,.int .i64 0]
theorem wrapped_any (ts:List Tok) (hN:NamesT ts) (r d:Nat) (w:World) (h:Rd w r ts d):Calls Tryz.prog 53 #[.pointer (some ⟨r,0,none⟩)] w fun e w'=>match typeR 4 ts with
   | .ok ((n,l,m),ts')=>e=.returned (.agg #[.string n,.int .i64 (l:Int),.int .i64 (m:Int)])∧Rd w' r ts' d∧Moved r w w'
   | .error x=>e=PanicE x∧Moved r w w':=by
 have HT:=fun wx (hb:Below w.heap.size w wx)=>Hd (typ_any 4 (Nat.le_refl _) ts hN r d wx (h.below hb))
 have hl:=h.lt
 have hb0:=Hd (blw w (.cells #[.string ⟨#[]⟩,.int .i64 0,.int .i64 0] 39))
 clear h
 cases ht:typeR 4 ts with
 | error x =>
   rw [ht] at HT
   show Calls _ _ _ _ fun e w'=>e=PanicE x∧Moved r w w'
   go_enter Tryz.func53,Tryz.ntmps53
   go_wp2_with fail
   refine (HT _ hb0.out).out.mono ?_
   rintro e w1 ⟨rfl,m1⟩
   exact ⟨rfl,rfl,(Moved.of_below hb0.out).trans m1⟩
 | ok p =>
   obtain ⟨⟨n,l,m⟩,ts1⟩:=p
   rw [ht] at HT
   show Calls _ _ _ _ fun e w'=>e=.returned (.agg #[.string n,.int .i64 (l:Int),.int .i64 (m:Int)])∧Rd w' r ts1 d∧Moved r w w'
   have hc0:=Hd (heap_alloc_last w (.cells #[.string ⟨#[]⟩,.int .i64 0,.int .i64 0] 39))
   go_enter Tryz.func53,Tryz.ntmps53
   go_wp2_with fail
   refine (HT _ hb0.out).out.mono ?_
   rintro e w1 ⟨rfl,r1,m1⟩
   have hc1:=m1.keep hc0.out (by omega)
   have C1:=Hd hc1
   have R1:=Hd (And.intro r1 m1)
   obtain ⟨k0,k1,k2,z0,z1,z2⟩:=ty_cells hc1
   clear r1 m1 hc1 HT
   go_wp2_with fail
   refine ret_tp rfl rfl rfl (ty_set C1.out) ⟨rfl,((R1.out.1.set hl).set hl).set hl,?_⟩
   exact ((((Moved.of_below hb0.out).trans R1.out.2).put (Nat.le_refl _)).put (Nat.le_refl _)).put (Nat.le_refl _)
theorem takeWhile_all (p:UInt8→Bool):∀ l:List UInt8,(l.takeWhile p).all p=true
 | []=>rfl
 | b :: t=>by
   rw [List.takeWhile_cons]
   split
   · rename_i h
     rw [List.all_cons,h,takeWhile_all p t];rfl
   · rfl
theorem word_name {l:List UInt8} (h:wordN l ≠ 0):nameB (l.take (wordN l))=true:=by
 cases l with
 | nil=>exact absurd rfl h
 | cons b t =>
   have e0:wordN (b :: t)=if letU b then 1+(t.takeWhile nameU).length else 0:=rfl
   rw [e0] at h ⊢
   split
   · rename_i hb
     rw [Nat.add_comm,List.take_succ_cons]
     have e:t.take (t.takeWhile nameU).length=t.takeWhile nameU:=(List.prefix_iff_eq_take.1 (List.takeWhile_prefix nameU)).symm
     rw [e]
     show (letB (b.toNat:Int) && tailB _)=true
     rw [show letB (b.toNat:Int)=true from hb,Bool.true_and]
     exact takeWhile_all nameU t
   · rename_i hb
     rw [if_neg hb] at h
     exact absurd rfl h
theorem tok_name {l:List UInt8} {x:List UInt8} {n:Nat} (h:tokL l=some ((2,x),n)):nameB x=true∧x.length≤l.length:=by
 unfold tokL at h
 split at h
 · cases h
 · split at h
   · rename_i hw
     have:=(Prod.mk.inj (Prod.mk.inj (Option.some.inj h)).1).2
     subst this
     exact ⟨word_name hw,by rw [List.length_take];omega⟩
   · split at h
     · rename_i hn
       have h2:=(Prod.mk.inj (Prod.mk.inj (Option.some.inj h)).1).1
       have hz:(nbL l).2=0∨(nbL l).2=3∨(nbL l).2=4:=by
        unfold nbL
        split
        · exact .inl rfl
        · split
          · exact .inl rfl
          · unfold nmL
            split
            · exact .inl rfl
            · simp only
              split
              · exact .inr (.inl rfl)
              · exact .inr (.inr rfl)
       omega
     · cases hq:quoteL l with
       | none=>rw [hq] at h;cases h
       | some q=>rw [hq] at h;cases h
theorem readF_names:∀ (n:Nat) (l:List UInt8) ts,readF n l=some ts→∀ t ∈ ts,t.1=2→nameB t.2=true∧t.2.length≤l.length
 | 0,_,_,h=>by cases h
 | n + 1, l, ts,h=>by
   rw [readF] at h
   split at h
   · intro t ht hk
     have:=readF_names n _ ts h t ht hk
     exact ⟨this.1,Nat.le_trans this.2 (by rw [List.length_drop];omega)⟩
   · split at h
     · cases h
       intro t ht;cases ht
     · cases hk:tokL l with
       | none=>rw [hk] at h;cases h
       | some p =>
         obtain ⟨⟨k,x⟩,m⟩:=p
         rw [hk] at h
         cases hr:readF n (l.drop m) with
         | none=>simp only [hr] at h;cases h
         | some us =>
           simp only [hr] at h
           have h:=Option.some.inj h
           subst h
           intro t ht h2
           rcases List.mem_cons.1 ht with e|e
           · subst e
             have h2:k=2:=h2
             subst h2
             exact tok_name hk
           · have:=readF_names n _ us hr t e h2
             exact ⟨this.1,Nat.le_trans this.2 (by rw [List.length_drop];omega)⟩
theorem read_names {s:ByteArray} {ts:List (Int × List UInt8)} (hs:s.size≤9000) (h:readL s.data.toList=some ts):NamesT (tokB ts):=by
 intro t ht hk
 unfold tokB at ht
 obtain ⟨u,hu,rfl⟩:=List.mem_map.1 ht
 have:=readF_names _ _ ts h u hu hk
 refine ⟨by simpa using this.1,?_⟩
 have h2:(⟨u.2.toArray⟩:ByteArray).size=u.2.length:=by rw [Lib.size_eq]
 have h3:s.data.toList.length=s.size:=Array.length_toList
 show (⟨u.2.toArray⟩:ByteArray).size≤9000
 omega
theorem whole_rd {w w2:World} {A:Option Addr} {cap:Nat} {ts:List (Int × List UInt8)} {v:Value} {B:Nat} (h:w2.ownsRow B 70 2 (.slice A ts.length cap) ts.length (tokVals ts)) (hl:ts.length≤200000) (hb:w.heap.size+2≤B) :
  Rd ((w2.setCell ⟨w.heap.size+1,0,none⟩ v).alloc (.cells #[.slice A ts.length cap,.int .i64 0] 147)) w2.heap.size (tokB ts) 0:=by
 have hk:(w2.setCell ⟨w.heap.size+1,0,none⟩ v).ownsRow B 70 2 (.slice A ts.length cap) ts.length (tokVals ts):=by
  refine World.ownsRow.kept h (Moved.set (r:=w.heap.size+1)) ?_
  cases e:(Value.slice A ts.length cap).ownBlock with
  | none=>exact .inl rfl
  | some k=>exact .inr (fun e'=>by have:=(h.lt k e).1;injection e' with e';omega)
 exact rd_start hk hl (by simp [World.setCell])
theorem whole_two {w w2:World} {x y z u v:Value} {o:Obj} (h4:w2.heap[w.heap.size]? = some (.cells #[x,y,z] 39 (0,0))) (h5:w2.heap[w.heap.size+1]? = some (.cells #[u] 27 (0,0))) :
   ((w2.setCell ⟨w.heap.size+1,0,none⟩ v).alloc o).heap[w.heap.size]? = some (.cells #[x,y,z] 39 (0,0))∧((w2.setCell ⟨w.heap.size+1,0,none⟩ v).alloc o).heap[w.heap.size+1]? = some (.cells #[v] 27 (0,0))∧Moved (w.heap.size+1) w2 ((w2.setCell ⟨w.heap.size+1,0,none⟩ v).alloc o)∧w.heap.size+2≤w2.heap.size:=by
 have l5:=(Array.getElem?_eq_some_iff.1 h5).1
 have hs:(w2.setCell ⟨w.heap.size+1,0,none⟩ v).heap.size=w2.heap.size:=by simp [World.setCell]
 refine ⟨?_,?_,Moved.set.trans (Moved.of_below (blw _ _)),by omega⟩
 · rw [Below.heap_alloc _ _ _ (by rw [hs];omega),Below.heap_setCell _ _ _ _ (Nat.ne_of_lt (Nat.lt_succ_self _))];exact h4
 · rw [Below.heap_alloc _ _ _ (by rw [hs];omega)];exact heap_setCell_same _ _ 0 _ _ _ h5
theorem whole_low {w w2 w3 w4:World} (h:Below w.heap.size w w2) (m:Moved (w.heap.size+1) w2 w3) (m':Moved w2.heap.size w3 w4) (hlt:w.heap.size+2≤w2.heap.size):Below w.heap.size w w4:=
 ⟨m'.os.trans (m.os.trans h.os),m'.tape.trans (m.tape.trans h.tape),m'.output.trans (m.output.trans h.output),Nat.le_trans h.size (Nat.le_trans m.size m'.size),fun k hk=>(m'.block k (by have:=m.size;omega) (fun e=>by injection e;omega)).trans ((m.block k (by omega) (fun e=>by injection e;omega)).trans (h.block k hk))⟩
theorem leaves_two {fn:Func} {R:Ending→World→Prop} {tmps:Array Value} {W:World} {x y z u:Value} {b4 b5:Nat} (hf:fn.results=#[.cell 4 39,.cell 5 27]) (h4:W.heap[b4]? = some (.cells #[x,y,z] 39 (0,0))) (h5:W.heap[b5]? = some (.cells #[u] 27 (0,0)))
  (t4:tmps.getD 4 undef=.pointer (some ⟨b4,0,none⟩)) (t5:tmps.getD 5 undef=.pointer (some ⟨b5,0,none⟩)) (hR:R (.returned (.tuple #[.agg #[x,y,z],u])) W):Leaves Tryz.prog fn tmps R [] .returning W:=by
 obtain ⟨k0,k1,k2,_,_,_⟩:=ty_cells h4
 have c5:=(one_box h5).1
 have t4':tmps[4]?.getD undef=.pointer (some ⟨b4,0,none⟩):=by rw [← t4];simp
 have t5':tmps[5]?.getD undef=.pointer (some ⟨b5,0,none⟩):=by rw [← t5];simp
 simp [Leaves,results,hf,t4',t5',asAddr,go_sem,k0,k1,k2,c5]
 exact hR
theorem whole_three {w w4:World} {x y z v:Value} {o:Obj} (h4:w4.heap[w.heap.size]? = some (.cells #[x,y,z] 39 (0,0))) (h5:w4.heap[w.heap.size+1]? = some (.cells #[v] 27 (0,0))) :
  (w4.alloc o).heap[w.heap.size]? = some (.cells #[x,y,z] 39 (0,0))∧(w4.alloc o).heap[w.heap.size+1]? = some (.cells #[v] 27 (0,0))∧(w4.alloc o).heap[w4.heap.size]? = some o:=
 ⟨(Below.heap_alloc _ _ _ (Array.getElem?_eq_some_iff.1 h4).1).trans h4,(Below.heap_alloc _ _ _ (Array.getElem?_eq_some_iff.1 h5).1).trans h5,heap_alloc_last _ _⟩
theorem wholeT_no (s:ByteArray) (w:World) (hs:s.size≤9000) (hw:Laid3 w) (ts:List (Int × List UInt8)) (hr:readS s.data.toList=(ts,0)) (hl:ts.length≤200000) (hN:NamesT (tokB ts)) (x:Int) (ht:typeR 4 (tokB ts)=.error x):Calls Tryz.prog 52 #[.string s,.func (.func 53) #[] #[]] w fun e w'=>e=.returned (.tuple #[TZ,.int .i64 x])∧Below w.heap.size w w':=by
 have hmf:∀ (fn:Fn) (first cap:Array Value) (w:World),(Instr.makeFunc fn first cap).run Tryz.prog w=.ok (.func fn first cap) w:=fun _ _ _ _=>rfl
 have HR:=fun wx (hb:Below w.heap.size w wx)=>Hd (by have:=read_any s wx hs (hw.below hb);rw [hr] at this;exact this)
 have HT:=fun r wx (h:Rd wx r (tokB ts) 0)=>Hd (by have:=wrapped_any (tokB ts) hN r 0 wx h;rw [ht] at this;exact this)
 have B0:=Hd (two_below' w (.cells #[.string ⟨#[]⟩,.int .i64 0,.int .i64 0] 39) (.cells #[.int .i64 0] 27))
 obtain ⟨y0,y1⟩:=new_two w (.cells #[.string ⟨#[]⟩,.int .i64 0,.int .i64 0] 39) (.cells #[.int .i64 0] 27)
 have Y:=Hd (And.intro y0 y1)
 have hsz:Hid (((w.alloc (.cells #[.string ⟨#[]⟩,.int .i64 0,.int .i64 0] 39)).alloc (.cells #[.int .i64 0] 27)).heap.size=w.heap.size+2):=Hd (by simp)
 clear hr hN ht y0 y1
 go_enter_defers Tryz.func52,Tryz.ntmps52
 go_wp2_with fail
 refine (HR _ B0.out).out.mono ?_
 rintro e w2 ⟨A,cap,rfl,hown,hb2⟩
 have z4:=(hb2.block w.heap.size (by have:=hsz.out;omega)).trans Y.out.1
 have z5:=(hb2.block (w.heap.size+1) (by have:=hsz.out;omega)).trans Y.out.2
 obtain ⟨k0,k1,k2,f0,f1,f2⟩:=ty_cells z4
 obtain ⟨e0,e1⟩:=one_box z5
 have Z:=Hd (And.intro z4 z5)
 have B2:=Hd (B0.out.trans (hb2.mono (by have:=hsz.out;omega)))
 have OW:=Hd hown
 clear hb2 hown z4 z5
 go_wp2_with fail
 have R3:=Hd (whole_rd (w:=w) OW.out hl (Nat.le_of_eq hsz.out.symm) (v:=.int .i64 0))
 have D3:=Hd (whole_two Z.out.1 Z.out.2 (v:=.int .i64 0) (o:=.cells #[.slice A ts.length cap,.int .i64 0] 147))
 refine (HT _ _ R3.out).out.mono ?_
 rintro e w4 ⟨rfl,m4⟩
 have z4:=m4.keep D3.out.1 (by have:=D3.out.2.2.2;omega)
 have z5:=m4.keep D3.out.2.1 (by have:=D3.out.2.2.2;omega)
 obtain ⟨e0',e1'⟩:=one_box z5
 have hlt5:=(Array.getElem?_eq_some_iff.1 z5).1
 have B4:=Hd (whole_low B2.out D3.out.2.2.1 m4 D3.out.2.2.2)
 have Z4:=Hd (And.intro z4 z5)
 clear e0 e1 k0 k1 k2 f0 f1 f2
 refine leaves_cons (f:=127) (args:=#[.pointer (some ⟨w.heap.size+1,0,none⟩)]) (by simp) (by simp [go_sem]) ?_
 refine (catchT_panicking ⟨w.heap.size+1,0,none⟩ 0 x [] _ e0' e1' hlt5).mono ?_
 rintro e u' w'' ⟨rfl,rfl,rfl⟩
 refine leaves_two rfl (b4:=w.heap.size) (b5:=w.heap.size+1) (x:=.string ⟨#[]⟩) (y:=.int .i64 0) (z:=.int .i64 0) (u:=.int .i64 x) ?_ ?_ rfl rfl ⟨rfl,?_⟩
 · rw [Below.heap_setCell _ _ _ _ (Nat.ne_of_lt (Nat.lt_succ_self _)),Below.heap_alloc _ _ _ (by omega)];exact Z4.out.1
 · exact heap_setCell_same _ _ 0 _ _ _ ((Below.heap_alloc _ _ _ hlt5).trans Z4.out.2)
 · exact (B4.out.alloc B4.out.size _).setCell (Nat.le_succ _) _
theorem wholeT_more (s:ByteArray) (w:World) (hs:s.size≤9000) (hw:Laid3 w) (ts:List (Int × List UInt8)) (hr:readS s.data.toList=(ts,0)) (hl:ts.length≤200000) (hN:NamesT (tokB ts)) (p:ByteArray × Nat × Nat) (t:Tok) (ts2:List Tok) (ht:typeR 4 (tokB ts)=.ok (p,t :: ts2)):Calls Tryz.prog 52 #[.string s,.func (.func 53) #[] #[]] w fun e w'=>e=.returned (.tuple #[TZ,.int .i64 2])∧Below w.heap.size w w':=by
 obtain ⟨n,l,m⟩:=p
 have hmf:∀ (fn:Fn) (first cap:Array Value) (w:World),(Instr.makeFunc fn first cap).run Tryz.prog w=.ok (.func fn first cap) w:=fun _ _ _ _=>rfl
 have HR:=fun wx (hb:Below w.heap.size w wx)=>Hd (by have:=read_any s wx hs (hw.below hb);rw [hr] at this;exact this)
 have HT:=fun r wx (h:Rd wx r (tokB ts) 0)=>Hd (by have:=wrapped_any (tokB ts) hN r 0 wx h;rw [ht] at this;exact this)
 have B0:=Hd (two_below' w (.cells #[.string ⟨#[]⟩,.int .i64 0,.int .i64 0] 39) (.cells #[.int .i64 0] 27))
 obtain ⟨y0,y1⟩:=new_two w (.cells #[.string ⟨#[]⟩,.int .i64 0,.int .i64 0] 39) (.cells #[.int .i64 0] 27)
 have Y:=Hd (And.intro y0 y1)
 have hsz:Hid (((w.alloc (.cells #[.string ⟨#[]⟩,.int .i64 0,.int .i64 0] 39)).alloc (.cells #[.int .i64 0] 27)).heap.size=w.heap.size+2):=Hd (by simp)
 clear hr hN ht y0 y1
 go_enter_defers Tryz.func52,Tryz.ntmps52
 go_wp2_with fail
 refine (HR _ B0.out).out.mono ?_
 rintro e w2 ⟨A,cap,rfl,hown,hb2⟩
 have z4:=(hb2.block w.heap.size (by have:=hsz.out;omega)).trans Y.out.1
 have z5:=(hb2.block (w.heap.size+1) (by have:=hsz.out;omega)).trans Y.out.2
 obtain ⟨k0,k1,k2,f0,f1,f2⟩:=ty_cells z4
 obtain ⟨e0,e1⟩:=one_box z5
 have Z:=Hd (And.intro z4 z5)
 have B2:=Hd (B0.out.trans (hb2.mono (by have:=hsz.out;omega)))
 have OW:=Hd hown
 clear hb2 hown z4 z5
 go_wp2_with fail
 have R3:=Hd (whole_rd (w:=w) OW.out hl (Nat.le_of_eq hsz.out.symm) (v:=.int .i64 0))
 have D3:=Hd (whole_two Z.out.1 Z.out.2 (v:=.int .i64 0) (o:=.cells #[.slice A ts.length cap,.int .i64 0] 147))
 refine (HT _ _ R3.out).out.mono ?_
 rintro e w4 ⟨rfl,r4,m4⟩
 have z4:=m4.keep D3.out.1 (by have:=D3.out.2.2.2;omega)
 have z5:=m4.keep D3.out.2.1 (by have:=D3.out.2.2.2;omega)
 have B4:=Hd (whole_low B2.out D3.out.2.2.1 m4 D3.out.2.2.2)
 have Z4:=Hd (And.intro z4 z5)
 have HE:=Hd (fun wx (hb:Below w4.heap.size w4 wx)=>ended_any w2.heap.size (t :: ts2) 0 wx (r4.below hb))
 have hlt4:w.heap.size+1 < w4.heap.size:=(Array.getElem?_eq_some_iff.1 z5).1
 clear e0 e1 k0 k1 k2 f0 f1 f2 z4 z5 r4 m4
 go_wp2_with fail
 refine (HE.out _ (blw _ _)).mono ?_
 rintro e w5 ⟨rfl,rfl⟩
 have A6:=Hd (whole_three Z4.out.1 Z4.out.2 (o:=.cells #[.string n,.int .i64 (l:Int),.int .i64 (m:Int)] 39))
 obtain ⟨e0,e1⟩:=one_box A6.out.2.1
 have hlt5:w.heap.size+1 < (w4.alloc (.cells #[.string n,.int .i64 (l:Int),.int .i64 (m:Int)] 39)).heap.size:=by simp;omega
 go_wp2_with fail
 refine leaves_cons (f:=127) (args:=#[.pointer (some ⟨w.heap.size+1,0,none⟩)]) (by simp) (by simp [go_sem]) ?_
 refine (catchT_panicking ⟨w.heap.size+1,0,none⟩ 0 2 [] _ e0 e1 hlt5).mono ?_
 rintro e u' w'' ⟨rfl,rfl,rfl⟩
 refine leaves_two rfl (b4:=w.heap.size) (b5:=w.heap.size+1) (x:=.string ⟨#[]⟩) (y:=.int .i64 0) (z:=.int .i64 0) (u:=.int .i64 2) ?_ ?_ rfl rfl ⟨rfl,?_⟩
 · rw [Below.heap_setCell _ _ _ _ (Nat.ne_of_lt (Nat.lt_succ_self _)),Below.heap_alloc _ _ _ (by omega)];exact A6.out.1
 · exact heap_setCell_same _ _ 0 _ _ _ ((Below.heap_alloc _ _ _ hlt5).trans A6.out.2.1)
 · exact ((B4.out.alloc B4.out.size _).alloc (by have:=B4.out.size;simp;omega) _).setCell (Nat.le_succ _) _
theorem wholeT_yes (s:ByteArray) (w:World) (hs:s.size≤9000) (hw:Laid3 w) (ts:List (Int × List UInt8)) (hr:readS s.data.toList=(ts,0)) (hl:ts.length≤200000) (hN:NamesT (tokB ts)) (n:ByteArray) (l m:Nat) (ht:typeR 4 (tokB ts)=.ok ((n,l,m),[])):Calls Tryz.prog 52 #[.string s,.func (.func 53) #[] #[]] w fun e w'=>e=.returned (.tuple #[.agg #[.string n,.int .i64 (l:Int),.int .i64 (m:Int)],.int .i64 0])∧Below w.heap.size w w':=by
 have hmf:∀ (fn:Fn) (first cap:Array Value) (w:World),(Instr.makeFunc fn first cap).run Tryz.prog w=.ok (.func fn first cap) w:=fun _ _ _ _=>rfl
 have HR:=fun wx (hb:Below w.heap.size w wx)=>Hd (by have:=read_any s wx hs (hw.below hb);rw [hr] at this;exact this)
 have HT:=fun r wx (h:Rd wx r (tokB ts) 0)=>Hd (by have:=wrapped_any (tokB ts) hN r 0 wx h;rw [ht] at this;exact this)
 have B0:=Hd (two_below' w (.cells #[.string ⟨#[]⟩,.int .i64 0,.int .i64 0] 39) (.cells #[.int .i64 0] 27))
 obtain ⟨y0,y1⟩:=new_two w (.cells #[.string ⟨#[]⟩,.int .i64 0,.int .i64 0] 39) (.cells #[.int .i64 0] 27)
 have Y:=Hd (And.intro y0 y1)
 have hsz:Hid (((w.alloc (.cells #[.string ⟨#[]⟩,.int .i64 0,.int .i64 0] 39)).alloc (.cells #[.int .i64 0] 27)).heap.size=w.heap.size+2):=Hd (by simp)
 clear hr hN ht y0 y1
 go_enter_defers Tryz.func52,Tryz.ntmps52
 go_wp2_with fail
 refine (HR _ B0.out).out.mono ?_
 rintro e w2 ⟨A,cap,rfl,hown,hb2⟩
 have z4:=(hb2.block w.heap.size (by have:=hsz.out;omega)).trans Y.out.1
 have z5:=(hb2.block (w.heap.size+1) (by have:=hsz.out;omega)).trans Y.out.2
 obtain ⟨k0,k1,k2,f0,f1,f2⟩:=ty_cells z4
 obtain ⟨e0,e1⟩:=one_box z5
 have Z:=Hd (And.intro z4 z5)
 have B2:=Hd (B0.out.trans (hb2.mono (by have:=hsz.out;omega)))
 have OW:=Hd hown
 clear hb2 hown z4 z5
 go_wp2_with fail
 have R3:=Hd (whole_rd (w:=w) OW.out hl (Nat.le_of_eq hsz.out.symm) (v:=.int .i64 0))
 have D3:=Hd (whole_two Z.out.1 Z.out.2 (v:=.int .i64 0) (o:=.cells #[.slice A ts.length cap,.int .i64 0] 147))
 refine (HT _ _ R3.out).out.mono ?_
 rintro e w4 ⟨rfl,r4,m4⟩
 have z4:=m4.keep D3.out.1 (by have:=D3.out.2.2.2;omega)
 have z5:=m4.keep D3.out.2.1 (by have:=D3.out.2.2.2;omega)
 have B4:=Hd (whole_low B2.out D3.out.2.2.1 m4 D3.out.2.2.2)
 have Z4:=Hd (And.intro z4 z5)
 have HE:=Hd (fun wx (hb:Below w4.heap.size w4 wx)=>ended_any w2.heap.size [] 0 wx (r4.below hb))
 have hlt4:w.heap.size+1 < w4.heap.size:=(Array.getElem?_eq_some_iff.1 z5).1
 clear e0 e1 k0 k1 k2 f0 f1 f2 z4 z5 r4 m4
 go_wp2_with fail
 refine (HE.out _ (blw _ _)).mono ?_
 rintro e w5 ⟨rfl,rfl⟩
 have A6:=Hd (whole_three Z4.out.1 Z4.out.2 (o:=.cells #[.string n,.int .i64 (l:Int),.int .i64 (m:Int)] 39))
 obtain ⟨k0,k1,k2,f0,f1,f2⟩:=ty_cells A6.out.1
 obtain ⟨e0,e1⟩:=one_box A6.out.2.1
 obtain ⟨j0,j1,j2,y0,y1,y2⟩:=ty_cells A6.out.2.2
 go_wp2_with fail
 refine leaves_cons (f:=127) (args:=#[.pointer (some ⟨w.heap.size+1,0,none⟩)]) (by simp) (by simp [go_sem]) ?_
 refine (catchT_idle ⟨w.heap.size+1,0,none⟩ _).mono ?_
 rintro e u' w'' ⟨rfl,rfl,rfl⟩
 refine leaves_two rfl (b4:=w.heap.size) (b5:=w.heap.size+1) (x:=.string n) (y:=.int .i64 (l:Int)) (z:=.int .i64 (m:Int)) (u:=.int .i64 0) ?_ ?_ rfl rfl ⟨rfl,?_⟩
 · exact wset_other (ty_set A6.out.1) (by omega)
 · exact heap_setCell_same _ _ 0 _ _ _ (wset_other (wset_other (wset_other A6.out.2.1 (by omega)) (by omega)) (by omega))
 · exact ((((B4.out.alloc B4.out.size _).setCell (Nat.le_refl _) _).setCell (Nat.le_refl _) _).setCell (Nat.le_refl _) _).setCell (Nat.le_succ _) _
def ArgB (r:Nat) (fx:Bool) (p0 p1:Nat) (w:World):Prop:=w.heap[p0]? = some (.cells #[.pointer (some ⟨r,0,none⟩)] 76 (0,0))∧w.heap[p1]? = some (.cells #[.bool fx] 4 (0,0))∧p0 ≠ r∧p1 ≠ r
theorem ArgB.moved {r:Nat} {fx:Bool} {p0 p1:Nat} {w w':World} (h:ArgB r fx p0 p1 w) (m:Moved r w w'):ArgB r fx p0 p1 w':=⟨m.keep h.1 h.2.2.1,m.keep h.2.1 h.2.2.2,h.2.2⟩
def NoX (_r:Nat) (_w:World):Prop:=True
theorem NoX.moved {r:Nat} {w w':World} (_h:NoX r w) (_m:Moved r w w'):NoX r w':=trivial
theorem arg1_any (fx:Bool) (p0 p1 d:Nat) (ts:List Tok) (r:Nat) (w:World) (hG:GoodD ts) (hd:d≤16) (hR:Rd w r ts d) (hK:KRd r w) (hX:ArgB r fx p0 p1 w):Calls Tryz.prog 268 #[.pointer (some ⟨p0,0,none⟩),.pointer (some ⟨p1,0,none⟩)] w (Post r d w (layS (fun p=>encMem p.1 p.2)) (memD fx d ts)):=by
 suffices H:∀ Q:Ending→World→Prop,(∀ e w',Post r d w (layS (fun p=>encMem p.1 p.2)) (memD fx d ts) e w'→Q e w')→Calls Tryz.prog 268 #[.pointer (some ⟨p0,0,none⟩),.pointer (some ⟨p1,0,none⟩)] w Q from H _ (fun _ _ h=>h)
 intro Q hQ
 have HQ:=Hd hQ
 have K0:=Hd (S0.start hR hK #[.string ⟨#[]⟩,.int .i64 0,.int .i64 0,.string ⟨#[]⟩,.slice none 0 0,.slice none 0 0] 98)
 obtain ⟨q0,_⟩:=one_box ((blw w (.cells #[.string ⟨#[]⟩,.int .i64 0,.int .i64 0,.string ⟨#[]⟩,.slice none 0 0,.slice none 0 0] 98)).block p0 (Array.getElem?_eq_some_iff.1 hX.1).1 |>.trans hX.1)
 obtain ⟨q1,_⟩:=one_box ((blw w (.cells #[.string ⟨#[]⟩,.int .i64 0,.int .i64 0,.string ⟨#[]⟩,.slice none 0 0,.slice none 0 0] 98)).block p1 (Array.getElem?_eq_some_iff.1 hX.2.1).1 |>.trans hX.2.1)
 have HG:=Hd hG
 clear hQ hR hK hX hG
 go_enter Tryz.func268,Tryz.ntmps268
 go_wp2_with fail
 refine (mem_post fx d ts r _ HG.out hd K0.out.rd K0.out.k).mono ?_
 intro e w1 h
 cases hv:memD fx d ts with
 | error x =>
   rw [hv] at h
   obtain ⟨rfl,m⟩:=of_err h
   exact ⟨rfl,HQ.out _ _ (per hv (K0.out.mv.trans m))⟩
 | ok p =>
   obtain ⟨a,ts1⟩:=p
   rw [hv] at h
   obtain ⟨⟨v,rfl,hl⟩,r1,m1⟩:=of_ok h
   obtain ⟨s0,i1,i2,s3,A4,n4,k4,A5,n5,k5,rfl,hts⟩:=mem_open hl
   have K1:=Hd (K0.out.next r1 m1)
   have T1:=Hd (OvS.of hts K0.out.lt)
   obtain ⟨y0,y1,y2,y3,y4,y5,yz⟩:=six_cells K1.out.res
   have z0:=yz 0
   have z1:=yz 1
   have z2:=yz 2
   have z3:=yz 3
   have z4:=yz 4
   have z5:=yz 5
   have HV:=Hd hv
   clear r1 m1 hl hts h hv q0 q1 yz
   go_wp2_with fail
   obtain ⟨f1,f2,f3⟩:=S0.fin (ys:=[.string ⟨#[]⟩,.int .i64 0,.int .i64 0,.string ⟨#[]⟩,.slice none 0 0,.slice none 0 0]) K1.out [.string s0,.int .i64 i1,.int .i64 i2,.string s3,.slice A4 n4 k4,.slice A5 n5 k5] rfl
   have FT:=T1.out.fin (w:=w) (Nat.le_refl _) [.string s0,.int .i64 i1,.int .i64 i2,.string s3,.slice A4 n4 k4,.slice A5 n5 k5]
   have FP:=HQ.out _ _ (post_ok HV.out ⟨_,rfl,FT⟩ f2 f3)
   exact ret_st rfl rfl rfl f1 Tryz.underlying98 ⟨_,rfl⟩ (by kernel_rfl) FP
theorem info_M:(Tryz.prog.info? 98).map (fun i=>(i.zero,i.size,i.bytes))=some (some (.agg #[.string ⟨#[]⟩,.int .i64 0,.int .i64 0,.string ⟨#[]⟩,.slice none 0 0,.slice none 0 0]),6,96):=by kernel_rfl
theorem serM_any (fx:Bool) (p0 p1:Nat) (one:List Tok→Except Int ((ByteArray × VT) × List Tok)) (hS:∀ ts a r,one ts=.ok (a,r)→Sfx r ts) (r d:Nat) (ts:List Tok) (w:World)
  (HC:∀ tq wx,GoodD tq→tq.length≤ts.length→Rd wx r tq d→KRd r wx→ArgB r fx p0 p1 wx→Calls Tryz.prog 268 #[.pointer (some ⟨p0,0,none⟩),.pointer (some ⟨p1,0,none⟩)] wx (Post r d wx (layS (fun p=>encMem p.1 p.2)) (one tq)))
  (hG:GoodD ts) (hR:Rd w r ts d) (hK:KRd r w) (hX:ArgB r fx p0 p1 w):Calls Tryz.prog 267 #[.pointer (some ⟨r,0,none⟩),.string cpB,.func (.func 268) #[] #[.pointer (some ⟨p0,0,none⟩),.pointer (some ⟨p1,0,none⟩)]] w (Post r d w (layR encM) (serR one addM cpB (ts.length+1) .nil ts)):=by
 suffices H:∀ Q:Ending→World→Prop,(∀ e w',Post r d w (layR encM) (serR one addM cpB (ts.length+1) .nil ts) e w'→Q e w')→Calls Tryz.prog 267 #[.pointer (some ⟨r,0,none⟩),.string cpB,.func (.func 268) #[] #[.pointer (some ⟨p0,0,none⟩),.pointer (some ⟨p1,0,none⟩)]] w Q from H _ (fun _ _ h=>h)
 intro Q hQ
 obtain ⟨ti0,hi,hz0,hz1,hz2⟩:=info_parts info_M
 obtain ⟨RES,hRES⟩:∃ RES,serR one addM cpB (ts.length+1) .nil ts=RES:=⟨_,rfl⟩
 rw [hRES] at hQ
 have HQ:=Hd hQ
 have HRES:=Hd hRES
 have HCC:=Hd HC
 have HSS:=Hd hS
 have hr:=hR.lt
 have hlen:ts.length≤200000:=by obtain ⟨_,_,_,_,h,_⟩:=hR;exact h
 have PL:=Hd (And.intro (Array.getElem?_eq_some_iff.1 hX.1).1 (Array.getElem?_eq_some_iff.1 hX.2.1).1)
 have B0:=Hd (And.intro hR (And.intro hK (And.intro hG hX)))
 clear hQ hRES HC hS hG hR hK hX
 go_enter Tryz.func267,Tryz.ntmps267
 go_wp2_with fail
 go_loopg [7] (ts.length+1) (fun g out wx=>∃ (acc:VM) (tq:List Tok),tq.length+1≤g∧tq.length≤ts.length∧(encM acc).len+tq.length≤200000∧Aside (RTr 98 6 w.heap.size wx out (encM acc)∧Moved r w wx∧Rd wx r tq d∧KRd r wx∧GoodD tq∧ArgB r fx p0 p1 wx∧serR one addM cpB g acc tq=RES))
 case atStart=>exact ⟨.nil,ts,Nat.le_refl _,Nat.le_refl _,by rw [show (encM .nil).len=0 from (by rw [encM];rfl)];omega,vaside ⟨(by rw [encM];exact RTr.start _ _ _ _),Moved.refl _ _,B0.out.1,B0.out.2.1,B0.out.2.2.1,B0.out.2.2.2,HRES.out⟩⟩
 case round =>
  obtain ⟨acc,tq,hq,hql,hal,HA⟩:=hrel
  obtain ⟨hrt,hmx,hrx,hkx,hgx,hxx,hex⟩:=HA.out
  obtain ⟨xs,P,hown,hvals,hP⟩:=hrt
  obtain ⟨Ao,co,rfl⟩:=shape_own hown
  have KX:=Hd (And.intro hmx (And.intro hrx (And.intro hkx hxx)))
  have GX:=Hd hgx
  have EX:=Hd hex
  have HRT:=Hd (And.intro hown (And.intro hvals hP))
  clear HA hmx hrx hkx hgx hxx hex hown hvals hP
  cases gk with
  | zero=>omega
  | succ g =>
    go_wp2_with fail
    refine (HCC.out tq _ GX.out hql KX.out.2.1 KX.out.2.2.1 KX.out.2.2.2).mono ?_
    intro e w2 h
    cases hv:one tq with
    | error x =>
      rw [hv] at h
      obtain ⟨rfl,m⟩:=of_err h
      exact ⟨rfl,HQ.out _ _ (per (by rw [← EX.out,serR,hv]) (KX.out.1.trans m))⟩
    | ok p =>
      obtain ⟨a,tq2⟩:=p
      rw [hv] at h
      obtain ⟨⟨v,rfl,hl⟩,r2,m2⟩:=of_ok h
      obtain ⟨s0,i1,i2,s3,A4,n4,k4,A5,n5,k5,rfl,hts⟩:=mem_open hl
      have hsf:=HSS.out _ _ _ hv
      have hsl:=hsf.2
      have G2:=Hd (GX.out.sub hsf.1)
      have M2:=Hd m2
      have R2:=Hd r2
      have T2:=Hd hts
      have hs2:=m2.size
      have hs0:=KX.out.1.size
      have O2:=Hd (own_moved HRT.out.1 m2 hr)
      have HV:=Hd hv
      clear h hv hl hts r2 m2 hsf
      go_wp2_with (at_builtin;refine wpList_append_lies _ rfl _ _ 33 rfl w.heap.size 98 ti0 (.agg #[.string ⟨#[]⟩,.int .i64 0,.int .i64 0,.string ⟨#[]⟩,.slice none 0 0,.slice none 0 0]) 6 96 Tryz.underlying33 hi hz0 hz1 hz2 rfl (by decide) _ (encM acc).len xs rfl (own_low O2.out (blw _ _)) _ 1 1 [.string s0,.int .i64 i1,.int .i64 i2,.string s3,.slice A4 n4 k4,.slice A5 n5 k5] rfl rfl (fun j u hj=>World.news_of_block (heap_alloc_new _ _) j u hj) (by intro y hy;simp at hy;rcases hy with rfl|rfl|rfl|rfl|rfl|rfl<;>rfl) (by decide) (by unfold maxLen;omega) (by omega) (by simp;omega) _ rfl ?_;intro gg cap2 w4 hown4 hgrow hat hlt4;have HG4:=Hd hgrow;have HO4:=Hd hown4;have HT4:=Hd hat;clear hgrow hown4 hat)
      have hgk:=grown_keep HG4.out (r:=r) (fun b hb=>by have:=(HRT.out.1.lt b hb).1;omega)
      have R4:=Hd (hgk.1 _ _ (R2.out.below (blw _ _)))
      have D4:=Hd (hgk.2 ((KX.out.2.2.1.moved M2.out).moved (Moved.of_below (blw _ _))))
      have M4:=Hd (show Moved r w w4 from by
        have m:=(KX.out.1.trans M2.out).trans (Moved.of_below (blw _ (.cells #[.string s0,.int .i64 i1,.int .i64 i2,.string s3,.slice A4 n4 k4,.slice A5 n5 k5] 98)))
        exact ⟨HG4.out.os.trans m.os,HG4.out.tape.trans m.tape,HG4.out.output.trans m.output,Nat.le_trans m.size HG4.out.size,fun k hk hn=>(HG4.out.block k (Nat.lt_of_lt_of_le hk m.size) (fun e=>by have:=(HRT.out.1.lt k e.symm).1;omega)).trans (m.block k hk hn)⟩)
      have XA:=Hd ((KX.out.2.2.2.moved M2.out).moved (Moved.of_below (blw _ (.cells #[.string s0,.int .i64 i1,.int .i64 i2,.string s3,.slice A4 n4 k4,.slice A5 n5 k5] 98))))
      have hp0:=PL.out.1
      have hp1:=PL.out.2
      have X4:=Hd (show ArgB r fx p0 p1 w4 from ⟨(HG4.out.block p0 (by have:=(Array.getElem?_eq_some_iff.1 XA.out.1).1;omega) (fun e=>by have:=(HRT.out.1.lt p0 e.symm).1;omega)).trans XA.out.1,(HG4.out.block p1 (by have:=(Array.getElem?_eq_some_iff.1 XA.out.2.1).1;omega) (fun e=>by have:=(HRT.out.1.lt p1 e.symm).1;omega)).trans XA.out.2.1,XA.out.2.2⟩)
      have T4:=Hd (RTr.app hr (by omega) HRT.out.1 HRT.out.2.1 HRT.out.2.2 M2.out (TS.keep (fun _ hk=>⟨⟨hk.1,hk.2⟩,rfl⟩) _ _ T2.out) HO4.out HG4.out HT4.out)
      clear hgk
      go_wp2_with fail
      refine (skip_any r tq2 d 1 cpB _ R4.out).mono ?_
      intro e w5 h5
      have hE:=EX.out
      rw [serR,HV.out] at hE
      simp only at hE
      cases hb:atB 1 cpB tq2 with
      | true =>
        rw [hb] at h5 hE
        obtain ⟨rfl,r5,m5⟩:=h5
        rw [skip_yes hb] at r5
        simp only [if_true] at hE
        have T5:=Hd ((T4.out.moved m5 hr).fin (by rw [TrL.snoc_len];omega))
        have R5:=Hd r5
        have M5:=Hd (M4.out.trans m5)
        have E5:=Hd hE
        clear r5 m5 hE hb
        go_wp2_with fail
        exact HQ.out _ _ (post_ok E5.out.symm (show TP _ _ (.row (encM (addM acc a))) _ by rw [show encM (addM acc a)=(encM acc).snoc ((fun p=>encMem p.1 p.2) a) from encM_snoc _ _ _];exact T5.out) R5.out M5.out)
      | false =>
        rw [hb] at h5 hE
        obtain ⟨rfl,r5,m5⟩:=h5
        rw [skip_no hb] at r5
        simp only [Bool.false_eq_true,if_false] at hE
        have T5:=Hd (T4.out.moved m5 hr)
        have R5:=Hd r5
        have M5:=Hd (M4.out.trans m5)
        have X5:=Hd (X4.out.moved m5)
        have D5:=Hd (D4.out.moved m5)
        have E5:=Hd hE
        clear r5 m5 hE hb
        go_wp2_with fail
        go_roundg g
        case measure=>omega
        case rel=>exact ⟨addM acc a,tq2,by omega,by omega,by rw [show encM (addM acc a)=(encM acc).snoc ((fun p=>encMem p.1 p.2) a) from encM_snoc _ _ _,TrL.snoc_len];omega,vaside ⟨by rw [show encM (addM acc a)=(encM acc).snoc ((fun p=>encMem p.1 p.2) a) from encM_snoc _ _ _];exact T5.out,M5.out,R5.out,D5.out,G2.out,X5.out,E5.out⟩⟩
def LayMono {α:Type} (lay:World→(Nat→Prop)→α→Value→Prop):Prop:=∀ (w:World) (P P':Nat→Prop) (a:α) (v:Value),(∀ b,P b→P' b)→lay w P a v→lay w P' a v
theorem layR_mono {α:Type} (enc:α→TrL):LayMono (layR enc):=fun _ _ _ _ _ hP h=>TP.keep (fun b hb=>⟨hP b hb,rfl⟩) _ _ h
theorem post_up {α:Type} {r d:Nat} {w w1 w':World} {lay:World→(Nat→Prop)→α→Value→Prop} {R:Except Int (α × List Tok)} {e:Ending} (hl:LayMono lay) (m:Moved r w w1) (h:Post r d w1 lay R e w'):Post r d w lay R e w':=by
 cases R with
 | error x=>exact ⟨h.1,m.trans h.2⟩
 | ok p =>
   obtain ⟨a,ts'⟩:=p
   obtain ⟨⟨v,e1,h1⟩,h2,h3⟩:=of_ok h
   exact ⟨⟨v,e1,hl _ _ _ _ _ (fun b hb=>⟨Nat.le_trans m.size hb.1,hb.2⟩) h1⟩,h2,m.trans h3⟩
theorem two_heap (w:World) (o o':Obj):((w.alloc o).alloc o').heap[w.heap.size]? = some o∧((w.alloc o).alloc o').heap[w.heap.size+1]? = some o':=
 ⟨(Below.heap_alloc _ _ _ (by simp)).trans (heap_alloc_new _ _),heap_alloc2_new _ _ _⟩
theorem args_any (fx:Bool) (d:Nat) (ts:List Tok) (r:Nat) (w:World) (hG:GoodD ts) (hd:d≤16) (hR:Rd w r ts d) (hK:KRd r w):Calls Tryz.prog 233 #[.pointer (some ⟨r,0,none⟩),.bool fx] w (Post r d w (layR encM) (argsR fx d ts)):=by
 suffices H:∀ Q:Ending→World→Prop,(∀ e w',Post r d w (layR encM) (argsR fx d ts) e w'→Q e w')→Calls Tryz.prog 233 #[.pointer (some ⟨r,0,none⟩),.bool fx] w Q from H _ (fun _ _ h=>h)
 intro Q hQ
 have HQ:=Hd hQ
 have hr:=hR.lt
 have B0:=Hd (two_below' w (.cells #[.pointer (some ⟨r,0,none⟩)] 76) (.cells #[.bool fx] 4))
 have X0:=Hd (show ArgB r fx w.heap.size (w.heap.size+1) _ from ⟨(two_heap w (.cells #[.pointer (some ⟨r,0,none⟩)] 76) (.cells #[.bool fx] 4)).1,(two_heap w (.cells #[.pointer (some ⟨r,0,none⟩)] 76) (.cells #[.bool fx] 4)).2,by omega,by omega⟩)
 have R0:=Hd (hR.below B0.out)
 have D0:=Hd (hK.moved (Moved.of_below B0.out))
 have HG:=Hd hG
 have M0:=Hd (Moved.of_below (r:=r) B0.out)
 obtain ⟨q0,_⟩:=one_box X0.out.1
 clear hQ hR hK hG
 go_enter Tryz.func233,Tryz.ntmps233
 go_wp2_with fail
 refine (skip_any r ts d 1 opB _ R0.out).mono ?_
 intro e w1 h
 cases hb:atB 1 opB ts with
 | false =>
   rw [hb] at h
   obtain ⟨rfl,r1,m1⟩:=h
   rw [skip_no hb] at r1
   have R1:=Hd (And.intro r1 (M0.out.trans m1))
   have HB:=Hd hb
   clear r1 m1 hb
   go_wp2_with fail
   exact HQ.out _ _ (post_ok (by unfold argsR;rw [HB.out];rfl) (show TP _ _ (.row (encM .nil)) _ by rw [encM];exact TP.none _ _) R1.out.1 R1.out.2)
 | true =>
   rw [hb] at h
   obtain ⟨rfl,r1,m1⟩:=h
   rw [skip_yes hb] at r1
   have R1:=Hd (And.intro r1 (M0.out.trans m1))
   have X1:=Hd (X0.out.moved m1)
   have D1:=Hd (D0.out.moved m1)
   have HB:=Hd hb
   obtain ⟨q1,_⟩:=one_box X1.out.1
   clear r1 m1 hb q0
   go_wp2_with fail
   refine (serM_any fx w.heap.size (w.heap.size+1) (memD fx d) (fun _ _ _ h=>mem_sfx h) r d ts.tail w1 (fun tq wx g _ hx hk hX=>arg1_any fx _ _ d tq r wx g hd hx hk hX) (HG.out.sub (at_sfx HB.out).1) R1.out.1 D1.out X1.out).mono ?_
   intro e w2 h
   have hA:argsR fx d ts=serR (memD fx d) addM cpB (ts.tail.length+1) .nil ts.tail:=by unfold argsR;rw [HB.out];rfl
   rw [← hA] at h
   have h:=post_up (layR_mono _) R1.out.2 h
   cases hv:argsR fx d ts with
   | error x =>
     rw [hv] at h
     obtain ⟨rfl,m⟩:=of_err h
     exact ⟨rfl,HQ.out _ _ (per hv m)⟩
   | ok p =>
     obtain ⟨l,ts1⟩:=p
     rw [hv] at h
     obtain ⟨⟨v,rfl,hl⟩,r2,m2⟩:=of_ok h
     obtain ⟨A,c,rfl,hl2⟩:=row_open hl
     have F:=Hd (And.intro hl2 (And.intro r2 m2))
     have HV:=Hd hv
     clear h hv hl hl2 r2 m2 hA
     go_wp2_with fail
     exact HQ.out _ _ (post_ok HV.out F.out.1 F.out.2.1 F.out.2.2)
theorem info_D:(Tryz.prog.info? 178).map (fun i=>(i.zero,i.size,i.bytes))=some (some (.agg #[.string ⟨#[]⟩,.slice none 0 0]),2,40):=by kernel_rfl
theorem dirsF_end {fx:Bool} {d g:Nat} {acc:List DirT} {ts:List Tok} (h:atB 1 atmB ts=false):dirsF fx d (g+1) acc ts=.ok (acc,ts):=by rw [dirsF,if_neg (by rw [h];simp)]
theorem dirsF_on {fx:Bool} {d g:Nat} {acc:List DirT} {ts:List Tok} (h:atB 1 atmB ts=true):dirsF fx d (g+1) acc ts=(match nameR ts.tail with
 | none=>.error 2
 | some (n,r) =>
   match argsR fx d r with
   | .error x=>.error x
   | .ok (m,r2)=>dirsF fx d g (acc++[(n,m)]) r2):=by rw [dirsF,if_pos h];rfl
theorem dirs_any (fx:Bool) (d:Nat) (ts:List Tok) (r:Nat) (w:World) (hG:GoodD ts) (hd:d≤16) (hR:Rd w r ts d) (hK:KRd r w):Calls Tryz.prog 177 #[.pointer (some ⟨r,0,none⟩),.bool fx] w (Post r d w (layR (rowOf encD)) (dirsR fx d ts)):=by
 suffices H:∀ Q:Ending→World→Prop,(∀ e w',Post r d w (layR (rowOf encD)) (dirsR fx d ts) e w'→Q e w')→Calls Tryz.prog 177 #[.pointer (some ⟨r,0,none⟩),.bool fx] w Q from H _ (fun _ _ h=>h)
 intro Q hQ
 obtain ⟨i0,hi,hz0,hz1,hz2⟩:=info_parts info_D
 obtain ⟨RES,hRES⟩:∃ RES,dirsR fx d ts=RES:=⟨_,rfl⟩
 rw [hRES] at hQ
 have HQ:=Hd hQ
 have HRES:=Hd hRES
 have hr:=hR.lt
 have hlen:ts.length≤200000:=by obtain ⟨_,_,_,_,h,_⟩:=hR;exact h
 have B0:=Hd (And.intro hR (And.intro hK hG))
 clear hQ hRES hG hR hK
 go_enter Tryz.func177,Tryz.ntmps177
 go_wp2_with fail
 go_loopg [5] (ts.length+1) (fun g out wx=>∃ (acc:List DirT) (tq:List Tok),tq.length+1≤g∧tq.length≤ts.length∧acc.length+tq.length≤200000∧Aside (RTr 178 2 w.heap.size wx out (rowOf encD acc)∧Moved r w wx∧Rd wx r tq d∧KRd r wx∧GoodD tq∧dirsF fx d g acc tq=RES))
 case atStart=>exact ⟨[],ts,Nat.le_refl _,Nat.le_refl _,by simpa using hlen,vaside ⟨RTr.start _ _ _ _,Moved.refl _ _,B0.out.1,B0.out.2.1,B0.out.2.2,HRES.out⟩⟩
 case round =>
  obtain ⟨acc,tq,hq,hql,hal,HA⟩:=hrel
  obtain ⟨hrt,hmx,hrx,hkx,hgx,hex⟩:=HA.out
  obtain ⟨Ao,co,rfl⟩:=hrt.shape
  have KX:=Hd (And.intro hmx (And.intro hrx hkx))
  have GX:=Hd hgx
  have EX:=Hd hex
  have HRT:=Hd hrt
  clear HA hmx hrx hkx hgx hex hrt
  cases gk with
  | zero=>omega
  | succ g =>
    go_wp2_with fail
    refine (skip_any r tq d 1 atmB _ KX.out.2.1).mono ?_
    intro e w1 h
    cases hb:atB 1 atmB tq with
    | false =>
      rw [hb] at h
      obtain ⟨rfl,r1,m1⟩:=h
      rw [skip_no hb] at r1
      have hE:=EX.out
      rw [dirsF_end hb] at hE
      have T5:=Hd ((HRT.out.moved m1 hr).fin (by rw [rowOf_len];omega))
      have R1:=Hd (And.intro r1 (KX.out.1.trans m1))
      have E5:=Hd hE
      clear r1 m1 hE hb
      go_wp2_with fail
      exact HQ.out _ _ (post_ok E5.out.symm T5.out R1.out.1 R1.out.2)
    | true =>
      rw [hb] at h
      obtain ⟨rfl,r1,m1⟩:=h
      rw [skip_yes hb] at r1
      have hE:=EX.out
      rw [dirsF_on hb] at hE
      have G1:=Hd (GX.out.sub (at_sfx hb).1)
      have hl1:=(at_sfx hb).2
      have R1:=Hd (And.intro r1 m1)
      have E1:=Hd hE
      clear r1 m1 hE hb
      go_wp2_with fail
      refine (pname_any r tq.tail d _ R1.out.1).mono ?_
      intro e w2 h
      cases hn:nameR tq.tail with
      | none =>
        rw [hn] at h
        obtain ⟨rfl,m⟩:=h
        have hE:=E1.out
        rw [hn] at hE
        exact ⟨rfl,HQ.out _ _ (per hE.symm ((KX.out.1.trans R1.out.2).trans m))⟩
      | some p =>
        obtain ⟨nm,tq2⟩:=p
        rw [hn] at h
        obtain ⟨rfl,r2,m2⟩:=h
        have hE:=E1.out
        rw [hn] at hE
        simp only at hE
        have G2:=Hd (G1.out.sub (name_sfx hn).1)
        have hl2:=(name_sfx hn).2
        have hnm:=Hd (G1.out.name hn)
        have R2:=Hd (And.intro r2 (R1.out.2.trans m2))
        have E2:=Hd hE
        clear r2 m2 hE hn
        go_wp2_with fail
        refine (args_any fx d tq2 r _ G2.out hd R2.out.1 (KX.out.2.2.moved R2.out.2)).mono ?_
        intro e w3 h
        cases hv:argsR fx d tq2 with
        | error x =>
          rw [hv] at h
          obtain ⟨rfl,m⟩:=of_err h
          have hE:=E2.out
          rw [hv] at hE
          exact ⟨rfl,HQ.out _ _ (per hE.symm ((KX.out.1.trans R2.out.2).trans m))⟩
        | ok p =>
          obtain ⟨l,tq3⟩:=p
          rw [hv] at h
          obtain ⟨⟨v,rfl,hl⟩,r3,m3⟩:=of_ok h
          obtain ⟨A,c,rfl,hl2'⟩:=row_open hl
          have hE:=E2.out
          rw [hv] at hE
          simp only at hE
          have hl3:=(args_sfx hv).length_le
          have G3:=Hd (G2.out.sub (args_sfx hv))
          have M3:=Hd (R2.out.2.trans m3)
          have R3:=Hd r3
          have E3:=Hd hE
          have T3:=Hd (TS.str hnm.out (TS.row (TP.keep (fun b hb=>⟨⟨Nat.le_trans R2.out.2.size hb.1,hb.2⟩,rfl⟩) _ _ hl2') (TS.nil _ _)):TS w3 (Fresh wr w3) (encD (nm,l)) [.string nm,.slice A (encM l).len c])
          have hs3:=M3.out.size
          have hs0:=KX.out.1.size
          obtain ⟨xs,P,hown,hvals,hP⟩:=HRT.out
          have HOW:=Hd (And.intro hown (And.intro hvals hP))
          have O3:=Hd (own_moved hown M3.out hr)
          clear h hv hl hl2' r3 m3 hE hown hvals hP
          go_wp2_with (at_builtin;refine wpList_append_lies _ rfl _ _ 66 rfl w.heap.size 178 i0 (.agg #[.string ⟨#[]⟩,.slice none 0 0]) 2 40 Tryz.underlying66 hi hz0 hz1 hz2 rfl (by decide) _ (rowOf encD acc).len xs rfl (own_low O3.out (blw _ _)) _ 1 1 [.string nm,.slice A (encM l).len c] rfl rfl (fun j u hj=>World.news_of_block (heap_alloc_new _ _) j u hj) (by intro y hy;simp at hy;rcases hy with rfl|rfl<;>rfl) (by decide) (by unfold maxLen;rw [rowOf_len];omega) (by rw [rowOf_len];omega) (by simp;omega) _ rfl ?_;intro gg cap2 w4 hown4 hgrow hat hlt4;have HG4:=Hd hgrow;have HO4:=Hd hown4;have HT4:=Hd hat;clear hgrow hown4 hat)
          have hgk:=grown_keep HG4.out (r:=r) (fun b hb=>by have:=(HOW.out.1.lt b hb).1;omega)
          have R4:=hgk.1 _ _ (R3.out.below (blw _ _))
          have D4:=hgk.2 ((KX.out.2.2.moved M3.out).moved (Moved.of_below (blw _ _)))
          have M4:Moved r w w4:=by
           have m:=(KX.out.1.trans M3.out).trans (Moved.of_below (blw _ (.cells #[.string nm,.slice A (encM l).len c] 178)))
           exact ⟨HG4.out.os.trans m.os,HG4.out.tape.trans m.tape,HG4.out.output.trans m.output,Nat.le_trans m.size HG4.out.size,fun k hk hn=>(HG4.out.block k (Nat.lt_of_lt_of_le hk m.size) (fun e=>by have:=(HOW.out.1.lt k e.symm).1;omega)).trans (m.block k hk hn)⟩
          have T4:=RTr.app hr (by omega) HOW.out.1 HOW.out.2.1 HOW.out.2.2 M3.out (TS.keep (fun _ hk=>⟨⟨hk.1,hk.2⟩,rfl⟩) _ _ T3.out) HO4.out HG4.out HT4.out
          go_roundg g
          case measure=>omega
          case rel=>exact ⟨acc++[(nm,l)],tq3,by omega,by omega,by rw [List.length_append];simp;omega,vaside ⟨by rw [rowOf_snoc];exact T4,M4,R4,D4,G3.out,E3.out⟩⟩
end Go.Proofs.YtpkmbhnikilihaaGreatDoor
