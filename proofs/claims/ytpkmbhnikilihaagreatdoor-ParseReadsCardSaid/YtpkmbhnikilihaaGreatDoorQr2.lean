/- The walks of Item, List, Must, Bare, Is and Sub, of the landed package and of the document's own answer. -/
import Derived.Test.YtpkmbhnikilihaaGreatDoorQr1
import Derived.Laws.BitsAllLaws
import Derived.Laws.BitsLemmas
import Derived.Shelf.Small.Wraps
import Derived.Laws.Rows
import Derived.Laws.Entries
import Derived.Lib.RuneBytes
set_option maxRecDepth 100000
set_option maxHeartbeats 4000000
namespace Go.Proofs.YtpkmbhnikilihaaGreatDoor
open Go.RowKit
theorem blw (w:World) (o:Obj):Below w.heap.size w (w.alloc o):=(Below.refl _ _).alloc (Nat.le_refl _) _
theorem Zn {w:World} {b:Nat} {x y z:Value} (h:w.heap[b]? = some (.cells #[x,y,z] 39 (0,0))):w.cell? ⟨b,0,none⟩=some x∧w.cell? ⟨b,1,none⟩=some y∧w.cell? ⟨b,2,none⟩=some z∧w.frozen? ⟨b,0,none⟩=false∧w.frozen? ⟨b,1,none⟩=false∧w.frozen? ⟨b,2,none⟩=false:=by
 simp [World.cell?,World.frozen?,h]
theorem D7 {w:World} {b:Nat} {x y z x' y' z':Value} (h:w.heap[b]? = some (.cells #[x,y,z] 39 (0,0))):(((w.setCell ⟨b,0,none⟩ x').setCell ⟨b,1,none⟩ y').setCell ⟨b,2,none⟩ z').heap[b]? = some (.cells #[x',y',z'] 39 (0,0)):=by
 simp [World.setCell,Array.getElem?_modify,h]
theorem Xv {w:World} {b c:Nat} {j:Nat} {v:Value} {o:Obj} (h:w.heap[b]? = some o) (hne:c ≠ b):(w.setCell ⟨c,j,none⟩ v).heap[b]? = some o:=by
 simp [World.setCell,Array.getElem?_modify,h,hne]
theorem Ybd {R:Ending→World→Prop} {fn:Func} {a:Act} {W:World} {x y z:Value} {b:Nat} (hf:fn.results=#[.cell 2 39,.tmp 3]) (h2:a.tmps.getD 2 undef=.pointer (some ⟨b,0,none⟩)) (hd:a.defers=[])
  (hc:W.heap[b]? = some (.cells #[x,y,z] 39 (0,0))) (hR:R (.returned (.tuple #[.agg #[x,y,z],a.tmps.getD 3 undef])) W):bodyPost Tryz.prog fn R .ret a W:=by
 have hl:(loadVar 39 ⟨b,0,none⟩).run Tryz.prog W=.ok (.agg #[x,y,z]) W:=
  run_loadVar_row W b 39 39 #[x,y,z] (0,0) _ hc Tryz.underlying39 rfl (by kernel_rfl)
 refine bodyPost_ret ?_ hd hR
 have h2':a.tmps[2]?.getD undef=.pointer (some ⟨b,0,none⟩):=by rw [← h2];simp
 simp [results,hf,h2',asAddr,hl]
theorem Ydc {R:Ending→World→Prop} {fn:Func} {a:Act} {W:World} {x y z:Value} {b:Nat} (hf:fn.results=#[.cell 2 39]) (h2:a.tmps.getD 2 undef=.pointer (some ⟨b,0,none⟩)) (hd:a.defers=[])
  (hc:W.heap[b]? = some (.cells #[x,y,z] 39 (0,0))) (hR:R (.returned (.agg #[x,y,z])) W):bodyPost Tryz.prog fn R .ret a W:=by
 have hl:(loadVar 39 ⟨b,0,none⟩).run Tryz.prog W=.ok (.agg #[x,y,z]) W:=
  run_loadVar_row W b 39 39 #[x,y,z] (0,0) _ hc Tryz.underlying39 rfl (by kernel_rfl)
 refine bodyPost_ret ?_ hd hR
 have h2':a.tmps[2]?.getD undef=.pointer (some ⟨b,0,none⟩):=by rw [← h2];simp
 simp [results,hf,h2',asAddr,hl]
def noT:Value:=.tuple #[.agg #[.string ⟨#[]⟩,.int .i64 0,.int .i64 0],.bool false]
def Yna (n:ByteArray) (l m:Int):Value:=.tuple #[.agg #[.string n,.int .i64 l,.int .i64 m],.bool true]
def R8 (n:ByteArray) (l m:Int):Value:=if Yh n.data.toList l m=true∧l ≠ 4 then Yna n (l+1) (m*2) else noT
theorem Yaa (w:World) (o o':Obj):((w.alloc o).alloc o').heap[w.heap.size]? = some o∧((w.alloc o).alloc o').heap[w.heap.size+1]? = some o':=by
 have h2:=heap_alloc_last (w.alloc o) o'
 have e:(w.alloc o).heap.size=w.heap.size+1:=by simp
 rw [e] at h2
 refine ⟨?_,h2⟩
 exact ((blw (w.alloc o) o').block w.heap.size (by omega)).trans (heap_alloc_last w o)
theorem W5 {w w2:World} {x y z x' y' z':Value} (hb:Below ((w.alloc (.cells #[x,y,z] 39)).alloc (.cells #[x',y',z'] 39)).heap.size ((w.alloc (.cells #[x,y,z] 39)).alloc (.cells #[x',y',z'] 39)) w2) :
  w2.heap[w.heap.size]? = some (.cells #[x,y,z] 39 (0,0))∧w2.heap[w.heap.size+1]? = some (.cells #[x',y',z'] 39 (0,0))∧Below w.heap.size w w2:=by
 obtain ⟨h0,h1⟩:=Yaa w (.cells #[x,y,z] 39) (.cells #[x',y',z'] 39)
 have e:((w.alloc (.cells #[x,y,z] 39)).alloc (.cells #[x',y',z'] 39)).heap.size=w.heap.size+1+1:=by simp
 refine ⟨(hb.block w.heap.size (by omega)).trans h0,(hb.block (w.heap.size+1) (by omega)).trans h1,Zz.trans ((Zz.mono (by simp)).trans (hb.mono (by omega)))⟩
theorem Ylq {B:Nat} {w w2:World} {b:Nat} (h:Below B w w2) (hb:B≤b) (x y z:Value):Below B w (((w2.setCell ⟨b,0,none⟩ x).setCell ⟨b,1,none⟩ y).setCell ⟨b,2,none⟩ z):=((h.setCell hb _).setCell hb _).setCell hb _
def Zqx (n:ByteArray) (l m:Int):Value:=if Yh n.data.toList l m=true then .agg #[.string n,.int .i64 l,.int .i64 (bits .or .i64 m 1)] else .agg #[.string n,.int .i64 l,.int .i64 m]
theorem Yfb (n:ByteArray) (l m:Int) (w:World) (hn:n.size≤9000):Calls Tryz.prog 192 #[.agg #[.string n,.int .i64 l,.int .i64 m]] w fun e w'=>e=.returned (R8 n l m)∧Below w.heap.size w w':=by
 have HR:=fun w=>Hd (Nt n l m w hn)
 cases hr:Yh n.data.toList l m
 · have hv:Hid (R8 n l m=noT):=Hd (by simp [R8,hr])
   rw [hr] at HR
   clear hr
   go_enter Tryz.func192,Tryz.ntmps192
   go_wp2_with fail
   refine (HR _).out.mono ?_
   rintro e w2 ⟨rfl,hb2⟩
   obtain ⟨b0,b1,HB⟩:=W5 hb2
   obtain ⟨a0,a1,a2,g0,g1,g2⟩:=Zn b0
   obtain ⟨c0,c1,c2,f0,f1,f2⟩:=Zn b1
   have H0:=Hd b0
   have H1:=Hd b1
   have HB':=Hd HB
   clear b0 b1 HB hb2 HR
   go_wp2_with fail
   refine Ybd rfl rfl rfl (D7 H1.out) ⟨?_,Ylq HB'.out (Nat.le_succ _) _ _ _⟩
   rw [hv.out]
   rfl
 · by_cases hl:l=4
   · have hv:Hid (R8 n l m=noT):=Hd (by simp [R8,hl])
     subst hl
     rw [hr] at HR
     clear hr
     go_enter Tryz.func192,Tryz.ntmps192
     go_wp2_with fail
     refine (HR _).out.mono ?_
     rintro e w2 ⟨rfl,hb2⟩
     obtain ⟨b0,b1,HB⟩:=W5 hb2
     obtain ⟨a0,a1,a2,g0,g1,g2⟩:=Zn b0
     obtain ⟨c0,c1,c2,f0,f1,f2⟩:=Zn b1
     have H0:=Hd b0
     have H1:=Hd b1
     have HB':=Hd HB
     clear b0 b1 HB hb2 HR
     go_wp2_with fail
     refine Ybd rfl rfl rfl (D7 H1.out) ⟨?_,Ylq HB'.out (Nat.le_succ _) _ _ _⟩
     rw [hv.out]
     rfl
   · have hv:Hid (R8 n l m=Yna n (l+1) (m*2)):=Hd (by simp [R8,hl,hr])
     obtain ⟨s1,s2,s3,s4⟩:=Zz0 hr
     have e0:(l == 4)=false:=by simpa using hl
     rw [hr] at HR
     clear hr
     go_enter Tryz.func192,Tryz.ntmps192
     go_wp2_with fail
     refine (HR _).out.mono ?_
     rintro e w2 ⟨rfl,hb2⟩
     obtain ⟨b0,b1,HB⟩:=W5 hb2
     obtain ⟨a0,a1,a2,g0,g1,g2⟩:=Zn b0
     obtain ⟨c0,c1,c2,f0,f1,f2⟩:=Zn b1
     have H0:=Hd b0
     have H1:=Hd b1
     have HB':=Hd HB
     clear b0 b1 HB hb2 HR
     go_wp2_with fail
     refine Ybd rfl rfl rfl (D7 (Xv (Xv H1.out (by omega)) (by omega))) ⟨?_,Ylq ((HB'.out.setCell (Nat.le_refl _) _).setCell (Nat.le_refl _) _) (Nat.le_succ _) _ _ _⟩
     rw [hv.out]
     rfl
theorem Zkd (n:ByteArray) (l m:Int) (w:World) (hn:n.size≤9000):Calls Tryz.prog 193 #[.agg #[.string n,.int .i64 l,.int .i64 m]] w fun e w'=>e=.returned (Zqx n l m)∧Below w.heap.size w w':=by
 have HR:=fun w=>Hd (Nt n l m w hn)
 cases hr:Yh n.data.toList l m
 · have hv:Hid (Zqx n l m=.agg #[.string n,.int .i64 l,.int .i64 m]):=Hd (by simp [Zqx,hr])
   rw [hr] at HR
   clear hr
   go_enter Tryz.func193,Tryz.ntmps193
   go_wp2_with fail
   refine (HR _).out.mono ?_
   rintro e w2 ⟨rfl,hb2⟩
   obtain ⟨b0,b1,HB⟩:=W5 hb2
   obtain ⟨a0,a1,a2,g0,g1,g2⟩:=Zn b0
   obtain ⟨c0,c1,c2,f0,f1,f2⟩:=Zn b1
   have H0:=Hd b0
   have H1:=Hd b1
   have HB':=Hd HB
   clear b0 b1 HB hb2 HR
   go_wp2_with fail
   refine Ydc rfl rfl rfl (D7 H1.out) ⟨?_,Ylq HB'.out (Nat.le_succ _) _ _ _⟩
   rw [hv.out]
 · have hv:Hid (Zqx n l m=.agg #[.string n,.int .i64 l,.int .i64 (bits .or .i64 m 1)]):=Hd (by simp [Zqx,hr])
   rw [hr] at HR
   clear hr
   go_enter Tryz.func193,Tryz.ntmps193
   go_wp2_with fail
   refine (HR _).out.mono ?_
   rintro e w2 ⟨rfl,hb2⟩
   obtain ⟨b0,b1,HB⟩:=W5 hb2
   obtain ⟨a0,a1,a2,g0,g1,g2⟩:=Zn b0
   obtain ⟨c0,c1,c2,f0,f1,f2⟩:=Zn b1
   have H0:=Hd b0
   have H1:=Hd b1
   have HB':=Hd HB
   clear b0 b1 HB hb2 HR
   go_wp2_with fail
   refine Ydc rfl rfl rfl (D7 (Xv H1.out (by omega))) ⟨?_,Ylq (HB'.out.setCell (Nat.le_refl _) _) (Nat.le_succ _) _ _ _⟩
   rw [hv.out]
theorem Zxx {w:World} {b:Nat} {o:Obj} (h:w.heap[b]? = some o):b < w.heap.size:=(Array.getElem?_eq_some_iff.1 h).1
theorem Z6 (s:ByteArray):s.data.toList.length=s.size:=Array.length_toList
theorem F1 (s t:ByteArray):(s++t).data.toList=s.data.toList++t.data.toList:=by simp
theorem Gz {s:ByteArray} {l:List UInt8} (h:s.data.toList=l):(⟨l.toArray⟩:ByteArray)=s:=by subst h;simp
def KP (w w':World) (n:ByteArray) (l m:Int):Prop:=w'.heap[w.heap.size]? = some (.cells #[.string n,.int .i64 l,.int .i64 m] 39 (0,0))∧Below w.heap.size w w'
theorem KP.next {w w1 w2:World} {n:ByteArray} {l m:Int} (hb:Below w1.heap.size w1 w2) (h:KP w w1 n l m):KP w w2 n l m:=
 ⟨(hb.block w.heap.size (Zxx h.1)).trans h.1,h.2.trans (hb.mono h.2.size)⟩
theorem KP.cells {w w1:World} {n:ByteArray} {l m:Int} (h:KP w w1 n l m):w1.cell? ⟨w.heap.size,0,none⟩=some (.string n)∧w1.cell? ⟨w.heap.size,1,none⟩=some (.int .i64 l)∧KP w w1 n l m:=⟨(Zn h.1).1,(Zn h.1).2.1,h⟩
theorem Zyu {n:List UInt8} {k q:Nat} (hn:Uk n=true) (hk:k≤4) (hq:q < 2 ^ (k+1)):Yh n k q=true:=by
 refine Ev hn (by omega) (by omega) (by omega) ?_
 have:((2 ^ (k+1):Nat):Int)=(2:Int) ^ (k+1):=by simp
 simp only [Int.toNat_natCast]
 omega
def oB:ByteArray:=⟨#[91]⟩
def cB:ByteArray:=⟨#[93]⟩
def bB:ByteArray:=⟨#[33]⟩
def Uh (n:ByteArray) (l m:Nat) (ts:List Tok):(ByteArray × Nat × Nat) × List Tok:=if atB 1 bB ts=true then ((n,l,m ||| 1),ts.tail) else ((n,l,m),ts)
def Zl:Nat→List Tok→Except Int ((ByteArray × Nat × Nat) × List Tok)
 | left,ts =>
   if atB 1 oB ts=true then
    match left with
    | 0=>.error 4
    | left+1 =>
      match Zl left ts.tail with
      | .error e=>.error e
      | .ok ((n,l,m),ts1)=>if atB 1 cB ts1=true then .ok (Uh n (l+1) (2*m) ts1.tail) else .error 2
   else
    match Zb ts with
    | none=>.error 2
    | some (n,ts1)=>.ok (Uh n 0 0 ts1)
theorem Vx {left:Nat} {ts:List Tok} (h:atB 1 oB ts=false):Zl left ts=(match Zb ts with|none=>.error 2|some (n,ts1)=>.ok (Uh n 0 0 ts1)):=by
 cases left<;>(rw [Zl,if_neg (by rw [h];decide)])
theorem Eq {ts:List Tok} (h:atB 1 oB ts=true):Zl 0 ts=.error 4:=by rw [Zl,if_pos h]
theorem Uw {left:Nat} {ts:List Tok} (h:atB 1 oB ts=true):Zl (left+1) ts=(match Zl left ts.tail with
        | .error e=>.error e
        | .ok ((n,l,m),ts1)=>if atB 1 cB ts1=true then .ok (Uh n (l+1) (2*m) ts1.tail) else .error 2):=by rw [Zl,if_pos h]
def Ih (ts:List Tok):Prop:=∀ t ∈ ts,t.1=2→Uk t.2.data.toList=true∧t.2.size≤9000
theorem Ih.tail {ts:List Tok} (h:Ih ts):Ih ts.tail:=fun t ht=>h t (List.mem_of_mem_tail ht)
theorem O1 {ts ts1:List Tok} {n:ByteArray} (h:Ih ts) (hn:Zb ts=some (n,ts1)):Uk n.data.toList=true∧n.size≤9000∧Ih ts1:=by
 cases ts with
 | nil=>cases hn
 | cons t ts =>
   change (if t.1=2 then some (t.2,ts) else none)=some (n,ts1) at hn
   split at hn
   · rename_i hk
     obtain ⟨e1,e2⟩:=Prod.mk.inj (Option.some.inj hn)
     subst e1 e2
     exact ⟨(h t (by simp) hk).1,(h t (by simp) hk).2,fun u hu=>h u (by simp [hu])⟩
   · cases hn
def Ox (n:ByteArray) (l m left:Nat) (ts:List Tok):Prop:=Uk n.data.toList=true∧n.size≤9000∧l≤left∧m < 2 ^ (l+1)∧Ih ts
theorem Yhk (m:Nat):(m ||| 1)=2*(m / 2)+1:=by
 have h:=Nat.shiftLeft_add_eq_or_of_lt (a:=m / 2) (b:=1) (i:=1) (by decide)
 rw [Nat.shiftLeft_eq] at h
 have:m ||| 1=(m / 2*2 ^ 1) ||| 1:=by
  apply Nat.eq_of_testBit_eq
  intro i
  rw [Nat.testBit_or,Nat.testBit_or]
  cases i with
  | zero=>simp
  | succ i=>simp [Nat.testBit_succ]
 rw [this,← h];omega
theorem Ws {n:ByteArray} {l m left:Nat} {ts:List Tok} (h:Ox n l m left ts):Ox (Uh n l m ts).1.1 (Uh n l m ts).1.2.1 (Uh n l m ts).1.2.2 left (Uh n l m ts).2:=by
 obtain ⟨h1,h2,h3,h4,h5⟩:=h
 unfold Uh
 split
 · refine ⟨h1,h2,h3,?_,h5.tail⟩
   show m ||| 1 < _
   have h4':m < 2 ^ l*2:=by rw [← Nat.pow_succ];exact h4
   rw [Yhk]
   show _ < 2 ^ (l+1)
   rw [Nat.pow_succ]
   omega
 · exact ⟨h1,h2,h3,h4,h5⟩
theorem Wu:∀ (left:Nat) (ts:List Tok),Ih ts→∀ n l m ts',Zl left ts=.ok ((n,l,m),ts')→Ox n l m left ts':=by
 intro left
 induction left with
 | zero =>
   intro ts hN n l m ts' h
   cases hb:atB 1 oB ts with
   | true=>rw [Eq hb] at h;cases h
   | false =>
     rw [Vx hb] at h
     cases hn:Zb ts with
     | none=>rw [hn] at h;cases h
     | some p =>
       obtain ⟨x,ts1⟩:=p
       rw [hn] at h
       injection h with h
       obtain ⟨g1,g2,g3⟩:=O1 hN hn
       have:=Ws (n:=x) (l:=0) (m:=0) (left:=0) (ts:=ts1) ⟨g1,g2,Nat.le_refl _,by decide,g3⟩
       rw [h] at this
       exact this
 | succ left ih =>
   intro ts hN n l m ts' h
   cases hb:atB 1 oB ts with
   | true =>
     rw [Uw hb] at h
     cases hi:Zl left ts.tail with
     | error e=>rw [hi] at h;cases h
     | ok p =>
       obtain ⟨⟨x,a,b⟩,ts1⟩:=p
       rw [hi] at h
       obtain ⟨g1,g2,g3,g4,g5⟩:=ih _ hN.tail _ _ _ _ hi
       simp only at h
       split at h
       · injection h with h
         have:=Ws (n:=x) (l:=a+1) (m:=2*b) (left:=left+1) (ts:=ts1.tail) ⟨g1,g2,by omega,by rw [Nat.pow_succ];omega,g5.tail⟩
         rw [h] at this
         exact this
       · cases h
   | false =>
     rw [Vx hb] at h
     cases hn:Zb ts with
     | none=>rw [hn] at h;cases h
     | some p =>
       obtain ⟨x,ts1⟩:=p
       rw [hn] at h
       injection h with h
       obtain ⟨g1,g2,g3⟩:=O1 hN hn
       have:=Ws (n:=x) (l:=0) (m:=0) (left:=left+1) (ts:=ts1) ⟨g1,g2,Nat.zero_le _,by decide,g3⟩
       rw [h] at this
       exact this
theorem Z0.keep {r b:Nat} {w w':World} {o:Obj} (m:Z0 r w w') (h:w.heap[b]? = some o) (hb:b ≠ r):w'.heap[b]? = some o:=
 (m.block b (Array.getElem?_eq_some_iff.1 h).1 (fun e=>hb (by injection e))).trans h
theorem Rd.set {w:World} {r b i:Nat} {v:Value} {ts:List Tok} {d:Nat} (h:Rd w r ts d) (hb:r < b):Rd (w.setCell ⟨b,i,none⟩ v) r ts d:=by
 have hl:=h.lt
 obtain ⟨A,c,h0,h1,h2,h3⟩:=h
 refine ⟨A,c,(Below.heap_setCell _ _ _ _ (by show r ≠ b;omega)).trans h0,h1,h2,fun j t ht=>?_⟩
 obtain ⟨x,o,e,hx,g0,g1⟩:=h3 j t ht
 have hs:(w.setCell ⟨b,i,none⟩ v).heap[x]? = w.heap[x]?:=Below.heap_setCell _ _ _ _ (by show x ≠ b;omega)
 exact ⟨x,o,e,hx,(World.cell?_of_block (a:=⟨x,o+j*2,none⟩) hs).trans g0,(World.cell?_of_block (a:=⟨x,o+j*2+1,none⟩) hs).trans g1⟩
def Zq1 (w:World) (r:Nat) (x y z x' y' z':Value) (W:World):Prop:=W.heap[w.heap.size]? = some (.cells #[x,y,z] 39 (0,0))∧W.heap[w.heap.size+1]? = some (.cells #[x',y',z'] 39 (0,0))∧Z0 r w W∧r < w.heap.size
theorem Zq1.next {w:World} {r:Nat} {x y z x' y' z':Value} {W W':World} (h:Zq1 w r x y z x' y' z' W) (m:Z0 r W W'):Zq1 w r x y z x' y' z' W':=
 ⟨m.keep h.1 (by have:=h.2.2.2;omega),m.keep h.2.1 (by have:=h.2.2.2;omega),h.2.2.1.trans m,h.2.2.2⟩
theorem Z0.put {r b i:Nat} {w W:World} {v:Value} (h:Z0 r w W) (hb:w.heap.size≤b):Z0 r w (W.setCell ⟨b,i,none⟩ v):=
 ⟨h.os,h.tape,h.output,by simp [World.setCell];exact h.size,fun k hk hn=>(Below.heap_setCell _ _ _ _ (by show k ≠ b;omega)).trans (h.block k hk hn)⟩
theorem Zq1.set2 {w:World} {r:Nat} {x y z x' y' z':Value} {W:World} (h:Zq1 w r x y z x' y' z' W) (a b c:Value):Zq1 w r x y z a b c (((W.setCell ⟨w.heap.size+1,0,none⟩ a).setCell ⟨w.heap.size+1,1,none⟩ b).setCell ⟨w.heap.size+1,2,none⟩ c):=
 ⟨Xv (Xv (Xv h.1 (by omega)) (by omega)) (by omega),D7 h.2.1,((h.2.2.1.put (Nat.le_succ _)).put (Nat.le_succ _)).put (Nat.le_succ _),h.2.2.2⟩
theorem Zq1.set1 {w:World} {r:Nat} {x y z x' y' z':Value} {W:World} (h:Zq1 w r x y z x' y' z' W) (a b c:Value):Zq1 w r a b c x' y' z' (((W.setCell ⟨w.heap.size,0,none⟩ a).setCell ⟨w.heap.size,1,none⟩ b).setCell ⟨w.heap.size,2,none⟩ c):=
 ⟨D7 h.1,Xv (Xv (Xv h.2.1 (by omega)) (by omega)) (by omega),((h.2.2.1.put (Nat.le_refl _)).put (Nat.le_refl _)).put (Nat.le_refl _),h.2.2.2⟩
theorem Zq1.setn {w:World} {r:Nat} {x y z x' y' z':Value} {W:World} (h:Zq1 w r x y z x' y' z' W) (a:Value):Zq1 w r x y z a y' z' (W.setCell ⟨w.heap.size+1,0,none⟩ a):=
 ⟨Xv h.1 (by omega),heap_setCell_same _ _ 0 _ _ _ h.2.1,h.2.2.1.put (Nat.le_succ _),h.2.2.2⟩
theorem Zq1.start (w:World) (r:Nat) (x y z x' y' z':Value) (hr:r < w.heap.size):Zq1 w r x y z x' y' z' ((w.alloc (.cells #[x,y,z] 39)).alloc (.cells #[x',y',z'] 39)):=by
 obtain ⟨h0,h1⟩:=Yaa w (.cells #[x,y,z] 39) (.cells #[x',y',z'] 39)
 exact ⟨h0,h1,(Z0.of_below (blw w _)).trans (Z0.of_below (blw _ _)),hr⟩
theorem Sh {R:Ending→World→Prop} {fn:Func} {a:Act} {W:World} {x y z:Value} {b p:Nat} (hf:fn.results=#[.cell p 39]) (h2:a.tmps.getD p undef=.pointer (some ⟨b,0,none⟩)) (hd:a.defers=[])
  (hc:W.heap[b]? = some (.cells #[x,y,z] 39 (0,0))) (hR:R (.returned (.agg #[x,y,z])) W):bodyPost Tryz.prog fn R .ret a W:=by
 have hl:(loadVar 39 ⟨b,0,none⟩).run Tryz.prog W=.ok (.agg #[x,y,z]) W:=
  run_loadVar_row W b 39 39 #[x,y,z] (0,0) _ hc Tryz.underlying39 rfl (by kernel_rfl)
 refine bodyPost_ret ?_ hd hR
 have h2':a.tmps[p]?.getD undef=.pointer (some ⟨b,0,none⟩):=by rw [← h2];simp
 simp [results,hf,h2',asAddr,hl]
theorem Yd8 {m:Nat} (h:m < 32):bits .or .i64 (m:Int) 1=((m ||| 1:Nat):Int):=by
 have:∀ a:Fin 32,bits .or .i64 ((a.val:Nat):Int) 1=((a.val ||| 1:Nat):Int):=by decide +kernel
 exact this ⟨m,h⟩
theorem Sv {n:ByteArray} {l m left:Nat} {ts:List Tok} (h:Ox n l m left ts) (hl:left≤4):Yh n.data.toList (l:Int) (m:Int)=true:=Zyu h.1 (Nat.le_trans h.2.2.1 hl) h.2.2.2.1
theorem Ya2 {n:ByteArray} {l m left:Nat} {ts:List Tok} (h:Ox n l m left ts) (hl:left≤4):Zqx n l m=.agg #[.string n,.int .i64 l,.int .i64 ((m ||| 1:Nat):Int)]:=by
 unfold Zqx
 rw [if_pos (Sv h hl),Yd8]
 have:=h.2.2.2.1
 have hp:2 ^ (l+1)≤2 ^ 5:=Nat.pow_le_pow_right (by decide) (by have:=h.2.2.1;omega)
 omega
theorem Yil {n:ByteArray} {l m left:Nat} {ts:List Tok} (h:Ox n l m left ts) (hl:left≤3):R8 n l m=Yna n ((l+1:Nat):Int) ((2*m:Nat):Int):=by
 unfold R8
 rw [if_pos ⟨Sv h (by omega),by have:=h.2.2.1;omega⟩]
 have e1:(l:Int)+1=((l+1:Nat):Int):=by omega
 have e2:(m:Int)*2=((2*m:Nat):Int):=by omega
 rw [e1,e2]
def Ym5 (left:Nat) (ts:List Tok):Prop:=∀ (r d:Nat) (w:World),Rd w r ts d→Calls Tryz.prog 128 #[.pointer (some ⟨r,0,none⟩),.int .i64 ((4 - left:Nat):Int)] w fun e w'=>match Zl left ts with
    | .ok ((n,l,m),ts')=>e=.returned (.agg #[.string n,.int .i64 (l:Int),.int .i64 (m:Int)])∧Rd w' r ts' d∧Z0 r w w'
    | .error x=>e=Y5 x∧Z0 r w w'
theorem Zjx (left:Nat) (hleft:left≤4) (ts:List Tok) (hN:Ih ts) (hb:atB 1 oB ts=false):Ym5 left ts:=by
 intro r d w h
 have K0:=Hd (Zq1.start w r (.string ⟨#[]⟩) (.int .i64 0) (.int .i64 0) (.string ⟨#[]⟩) (.int .i64 0) (.int .i64 0) h.lt)
 have R0:=Hd ((h.below (blw w (.cells #[.string ⟨#[]⟩,.int .i64 0,.int .i64 0] 39))).below (blw _ (.cells #[.string ⟨#[]⟩,.int .i64 0,.int .i64 0] 39)))
 have HA:=Hd (U6 r ts d 1 oB _ R0.out)
 have HK:=Hd (Zv r ts d 1 oB _ R0.out)
 have hst:Vj 1 oB ts=ts:=by unfold Vj;rw [hb];rfl
 rw [hb] at HA HK
 rw [hst] at HK
 rw [Vx hb]
 have hT:=Wu left ts hN
 rw [Vx hb] at hT
 cases hn:Zb ts with
 | none =>
   have HP:=fun wx (hx:Rd wx r ts d)=>Hd (by have:=Yd r ts d wx hx;rw [hn] at this;exact this)
   clear hT hst hb h hN
   show Calls _ _ _ _ fun e w'=>e=Y5 2∧Z0 r w w'
   go_enter Tryz.func128,Tryz.ntmps128
   go_wp2_with fail
   refine HA.out.mono ?_
   rintro e w1 ⟨rfl,rfl⟩
   go_wp2_with fail
   refine HK.out.mono ?_
   rintro e w2 ⟨rfl,r2,m2⟩
   have K2:=Hd (K0.out.next m2)
   have R2:=Hd r2
   clear r2 m2
   go_wp2_with fail
   refine (HP _ R2.out).out.mono ?_
   rintro e w3 ⟨rfl,m3⟩
   exact ⟨rfl,rfl,K2.out.2.2.1.trans m3⟩
 | some p =>
   obtain ⟨n,ts1⟩:=p
   have HP:=fun wx (hx:Rd wx r ts d)=>Hd (by have:=Yd r ts d wx hx;rw [hn] at this;exact this)
   obtain ⟨g1,g2,g3⟩:=O1 hN hn
   have RN:=Hd (show Ox n 0 0 left ts1 from ⟨g1,g2,Nat.zero_le _,by decide,g3⟩)
   clear hT hst hb h hN hn g1 g2 g3
   obtain ⟨RES,hRES⟩:∃ RES,Uh n 0 0 ts1=RES:=⟨_,rfl⟩
   show Calls _ _ _ _ fun e w'=>match (.ok (Uh n 0 0 ts1):Except Int ((ByteArray × Nat × Nat) × List Tok)) with | .ok ((n,l,m),ts')=>e=.returned (.agg #[.string n,.int .i64 (l:Int),.int .i64 (m:Int)])∧Rd w' r ts' d∧Z0 r w w' | .error x=>e=Y5 x∧Z0 r w w'
   have hR:Hid (Uh n 0 0 ts1=RES):=Hd hRES
   rw [hRES]
   have hR:=Hd hRES.symm
   clear hRES
   go_enter Tryz.func128,Tryz.ntmps128
   go_wp2_with fail
   refine HA.out.mono ?_
   rintro e w1 ⟨rfl,rfl⟩
   go_wp2_with fail
   refine HK.out.mono ?_
   rintro e w2 ⟨rfl,r2,m2⟩
   have K2:=Hd (K0.out.next m2)
   have R2:=Hd r2
   clear r2 m2
   go_wp2_with fail
   refine (HP _ R2.out).out.mono ?_
   rintro e w3 ⟨rfl,r3,m3⟩
   have K3:=Hd (K2.out.next m3)
   have R3:=Hd r3
   clear r3 m3 HP HA HK K0 R0 K2 R2
   obtain ⟨k0,k1,k2,z0,z1,z2⟩:=Zn K3.out.2.1
   go_wp2_with fail
   clear k0 k1 k2 z0 z1 z2
   have K4:=Hd (K3.out.setn (.string n))
   have R4:=Hd (R3.out.set (b:=w.heap.size+1) (i:=0) (v:=.string n) (Nat.lt_succ_of_lt K3.out.2.2.2))
   clear K3 R3
   have HS:=Hd (Zv r ts1 d 1 bB _ R4.out)
   have hbb:Hid (Uh n 0 0 ts1=if atB 1 bB ts1=true then ((n,0,0 ||| 1),ts1.tail) else ((n,0,0),ts1)):=Hd rfl
   have hst:Hid (Vj 1 bB ts1=if atB 1 bB ts1=true then ts1.tail else ts1):=Hd rfl
   generalize atB 1 bB ts1=q at *
   obtain ⟨k0,k1,k2,z0,z1,z2⟩:=Zn K4.out.2.1
   obtain ⟨j0,j1,j2,y0,y1,y2⟩:=Zn K4.out.1
   clear k0 k1 k2 z0 z1 z2 j0 j1 j2 y0 y1 y2
   go_wp2_with fail
   cases q with
   | false =>
     refine HS.out.mono ?_
     rintro e wa ⟨rfl,ra,ma⟩
     rw [hst.out] at ra
     have KA:=Hd (K4.out.next ma)
     have RA:=Hd ra
     obtain ⟨k0,k1,k2,z0,z1,z2⟩:=Zn KA.out.2.1
     obtain ⟨j0,j1,j2,y0,y1,y2⟩:=Zn KA.out.1
     clear ra ma HS
     go_wp2_with fail
     have KB:=Hd (KA.out.set1 (.string n) (.int .i64 (0:Nat)) (.int .i64 (0:Nat)))
     refine Sh rfl rfl rfl KB.out.1 ?_
     rw [hR.out,hbb.out]
     exact ⟨rfl,((RA.out.set (Nat.lt_of_lt_of_le KA.out.2.2.2 (Nat.le_refl _))).set (Nat.lt_of_lt_of_le KA.out.2.2.2 (Nat.le_refl _))).set (Nat.lt_of_lt_of_le KA.out.2.2.2 (Nat.le_refl _)),KB.out.2.2.1⟩
   | true =>
     refine HS.out.mono ?_
     rintro e wa ⟨rfl,ra,ma⟩
     rw [hst.out] at ra
     have KA:=Hd (K4.out.next ma)
     have RA:=Hd ra
     have HM:=fun wx=>Hd (by have h:=Zkd n (0:Nat) (0:Nat) wx RN.out.2.1;rw [Ya2 RN.out hleft] at h;exact h)
     obtain ⟨k0,k1,k2,z0,z1,z2⟩:=Zn KA.out.2.1
     clear ra ma HS
     go_wp2_with fail
     refine (HM _).out.mono ?_
     rintro e wb ⟨rfl,hb⟩
     have KB:=Hd (KA.out.next (Z0.of_below hb))
     have RB:=Hd (RA.out.below hb)
     clear hb k0 k1 k2 z0 z1 z2 HM
     obtain ⟨k0,k1,k2,z0,z1,z2⟩:=Zn KB.out.2.1
     obtain ⟨j0,j1,j2,y0,y1,y2⟩:=Zn KB.out.1
     go_wp2_with fail
     have KC:=Hd ((KB.out.set2 (.string n) (.int .i64 (0:Nat)) (.int .i64 ((0 ||| 1:Nat):Int))).set1 (.string n) (.int .i64 (0:Nat)) (.int .i64 ((0 ||| 1:Nat):Int)))
     refine Sh rfl rfl rfl KC.out.1 ?_
     rw [hR.out,hbb.out]
     have hlt:=KB.out.2.2.2
     exact ⟨rfl,(((((RB.out.set (by omega)).set (by omega)).set (by omega)).set (by omega)).set (by omega)).set (by omega),KC.out.2.2.1⟩
mutual
inductive Tr where
 | one (v:Value)
 | row (l:TrL)
inductive TrS where
 | nil
 | cons (x:Tr) (t:TrS)
inductive TrL where
 | nil
 | cons (s:TrS) (t:TrL)
end
def TrS.len:TrS→Nat
 | .nil=>0
 | .cons _ t=>t.len+1
def TrL.len:TrL→Nat
 | .nil=>0
 | .cons _ t=>t.len+1
def TrL.snoc:TrL→TrS→TrL
 | .nil,s=>.cons s .nil
 | .cons u t,s=>.cons u (t.snoc s)
theorem TrL.snoc_len:∀ (l:TrL) (s:TrS),(l.snoc s).len=l.len+1
 | .nil,_=>rfl
 | .cons u t,s=>by rw [TrL.snoc,TrL.len,TrL.len,TrL.snoc_len t s]
def okV:Value→Prop
 | .string s=>s.size≤9223372036854775807
 | _=>True
mutual
def TP (w:World) (P:Nat→Prop):Tr→Value→Prop
 | .one v,c=>c=v∧okV v
 | .row l,c=>∃ A k,c=.slice A l.len k∧l.len≤9223372036854775807∧Xp w P l A
def TS (w:World) (P:Nat→Prop):TrS→List Value→Prop
 | .nil,cs=>cs=[]
 | .cons x t,cs=>∃ c ys,cs=c :: ys∧TP w P x c∧TS w P t ys
def Xp (w:World) (P:Nat→Prop):TrL→Option Addr→Prop
 | .nil,_=>True
 | .cons s t,A=>∃ b o cs,A=some ⟨b,o,none⟩∧P b∧(∀ j u,cs[j]? = some u→w.cell? ⟨b,o+j,none⟩=some u)∧TS w P s cs∧Xp w P t (some ⟨b,o+s.len,none⟩)
end
mutual
theorem TP.keep {w w':World} {P P':Nat→Prop} (hP:∀ b,P b→P' b∧w'.heap[b]? = w.heap[b]?):∀ (x:Tr) (c:Value),TP w P x c→TP w' P' x c
 | .one v,c,h=>by unfold TP at h ⊢;exact h
 | .row l,c,h=>by
   unfold TP at h ⊢
   obtain ⟨A,k,h0,h1,h2⟩:=h
   exact ⟨A,k,h0,h1,Xp.keep hP l A h2⟩
theorem TS.keep {w w':World} {P P':Nat→Prop} (hP:∀ b,P b→P' b∧w'.heap[b]? = w.heap[b]?):∀ (s:TrS) (cs:List Value),TS w P s cs→TS w' P' s cs
 | .nil,cs,h=>by unfold TS at h ⊢;exact h
 | .cons x t,cs,h=>by
   unfold TS at h ⊢
   obtain ⟨c,ys,e,h1,h2⟩:=h
   exact ⟨c,ys,e,TP.keep hP x c h1,TS.keep hP t ys h2⟩
theorem Xp.keep {w w':World} {P P':Nat→Prop} (hP:∀ b,P b→P' b∧w'.heap[b]? = w.heap[b]?):∀ (l:TrL) (A:Option Addr),Xp w P l A→Xp w' P' l A
 | .nil,_,_=>by unfold Xp;trivial
 | .cons s t,A,h=>by
   unfold Xp at h ⊢
   obtain ⟨b,o,cs,e,hb,hc,h1,h2⟩:=h
   exact ⟨b,o,cs,e,(hP b hb).1,fun j u hu=>(World.cell?_of_block (a:=⟨b,o+j,none⟩) (hP b hb).2).trans (hc j u hu),TS.keep hP s cs h1,Xp.keep hP t _ h2⟩
end
theorem TS.len {w:World} {P:Nat→Prop} : ∀ {s:TrS} {cs:List Value},TS w P s cs→cs.length=s.len
 | .nil,cs,h=>by unfold TS at h;subst h;rfl
 | .cons x t,cs,h=>by
   unfold TS at h
   obtain ⟨c,ys,rfl,_,h2⟩:=h
   rw [List.length_cons,TS.len h2,TrS.len]
def TLV (w:World) (P:Nat→Prop):TrL→List Value→Prop
 | .nil,xs=>xs=[]
 | .cons s t,xs=>∃ cs ys,xs=cs++ys∧TS w P s cs∧TLV w P t ys
theorem TLV.keep {w w':World} {P P':Nat→Prop} (hP:∀ b,P b→P' b∧w'.heap[b]? = w.heap[b]?):∀ {l:TrL} {xs:List Value},TLV w P l xs→TLV w' P' l xs
 | .nil,_,h=>h
 | .cons s t,xs,h=>by
   obtain ⟨cs,ys,e,h1,h2⟩:=h
   exact ⟨cs,ys,e,TS.keep hP s cs h1,TLV.keep hP h2⟩
theorem TLV.snoc {w:World} {P:Nat→Prop} {s:TrS} {cs:List Value} (hd:TS w P s cs):∀ {l:TrL} {xs:List Value},TLV w P l xs→TLV w P (l.snoc s) (xs++cs)
 | .nil,xs,h=>by
   have:xs=[]:=h
   subst this
   exact ⟨cs,[],by simp,hd,rfl⟩
 | .cons u t,xs,h=>by
   obtain ⟨c,ys,rfl,hv,ht⟩:=h
   exact ⟨c,ys++cs,by simp,hv,TLV.snoc hd ht⟩
theorem Xp.of_cells {w:World} {P:Nat→Prop} {g:Nat} (hg:P g):∀ {l:TrL} {xs:List Value} (i:Nat),TLV w P l xs→(∀ j u,xs[j]? = some u→w.cell? ⟨g,i+j,none⟩=some u)→Xp w P l (some ⟨g,i,none⟩)
 | .nil,_,_,_,_=>by unfold Xp;trivial
 | .cons s t,xs,i,h,hc=>by
   obtain ⟨cs,ys,rfl,hv,ht⟩:=h
   unfold Xp
   refine ⟨g,i,cs,rfl,hg,fun j u hj=>hc j u ?_,hv,Xp.of_cells hg (i+s.len) ht (fun j u hj=>?_)⟩
   · rw [List.getElem?_append_left (List.getElem?_eq_some_iff.1 hj).1];exact hj
   · have:=hc (s.len+j) u (by rw [← hv.len,List.getElem?_append_right (by omega)];simpa using hj)
     rwa [← Nat.add_assoc] at this
theorem Ylj {w:World} {base n:Nat} {ty:TypeId} {V:Value} {P:Nat→Prop} {l:TrL} {xs:List Value} (h:w.ownsRow base ty n V l.len xs) (hv:TLV w P l xs) :
   ∃ A c,V=.slice A l.len c∧Xp w (fun b=>P b∨V.ownBlock=some b) l A:=by
 rcases h.2 with ⟨hV,hn⟩|⟨g,c,cur,hV,_⟩
 · refine ⟨none,0,by rw [hV,hn],?_⟩
   cases l with
   | nil=>unfold Xp;trivial
   | cons v t=>simp [TrL.len] at hn
 · have hg:V.ownBlock=some g:=by rw [hV];rfl
   refine ⟨some ⟨g,0,none⟩,c,hV,Xp.of_cells (.inr hg) 0 (hv.keep (fun b hb=>⟨.inl hb,rfl⟩)) (fun j u hj=>?_)⟩
   have:=h.cells hg j u hj
   rwa [Rk] at this
def RTr (ty:TypeId) (n base:Nat) (W:World) (V:Value) (l:TrL):Prop:=∃ xs P,W.ownsRow base ty n V l.len xs∧TLV W P l xs∧∀ b,P b→base≤b∧b < W.heap.size∧V.ownBlock ≠ some b
theorem RTr.start (ty:TypeId) (n base:Nat) (W:World):RTr ty n base W (.slice none 0 0) .nil:=⟨[],fun _=>False,World.ownsRow_nil _ _ _ _,rfl,fun _ h=>h.elim⟩
theorem RTr.moved {ty:TypeId} {n base r:Nat} {W W':World} {V:Value} {l:TrL} (h:RTr ty n base W V l) (m:Z0 r W W') (hr:r < base):RTr ty n base W' V l:=by
 obtain ⟨xs,P,h1,h2,h3⟩:=h
 refine ⟨xs,P,World.ownsRow.kept h1 m ?_,h2.keep (fun b hb=>⟨hb,m.block b (h3 b hb).2.1 (fun e=>by have:=(h3 b hb).1;injection e;omega)⟩),fun b hb=>⟨(h3 b hb).1,Nat.lt_of_lt_of_le (h3 b hb).2.1 m.size,(h3 b hb).2.2⟩⟩
 cases e:V.ownBlock with
 | none=>exact .inl rfl
 | some k=>exact .inr (fun e'=>by have:=(h1.lt k e).1;injection e';omega)
theorem RTr.shape {ty:TypeId} {n base:Nat} {W:World} {V:Value} {l:TrL} (h:RTr ty n base W V l):∃ A cap,V=.slice A l.len cap:=by
 obtain ⟨xs,P,h1,_⟩:=h
 exact Yw h1
theorem Xu {ty:TypeId} {n base r q:Nat} {W W':World} {V:Value} {xs:List Value} (h:W.ownsRow base ty n V q xs) (m:Z0 r W W') (hr:r < base):W'.ownsRow base ty n V q xs:=by
 refine World.ownsRow.kept h m ?_
 cases e:V.ownBlock with
 | none=>exact .inl rfl
 | some k=>exact .inr (fun e'=>by have:=(h.lt k e).1;injection e';omega)
theorem RTr.app {ty:TypeId} {n base r cap g:Nat} {w2 w3 w4:World} {V:Value} {l:TrL} {s:TrS} {o:Obj} {xs cs:List Value} {P:Nat→Prop} (hr:r < base) (hbase:base≤w2.heap.size) (hown:w2.ownsRow base ty n V l.len xs) (hv:TLV w2 P l xs) (hP:∀ b,P b→base≤b∧b < w2.heap.size∧V.ownBlock ≠ some b) (m:Z0 r w2 w3)
  (hd:TS w3 (fun b=>w2.heap.size≤b∧b < w3.heap.size) s cs) (hown4:w4.ownsRow base ty n (.slice (some ⟨g,0,none⟩) (l.len+1) cap) (l.len+1) (xs++cs)) (hg:(w3.alloc o).grownBy w4 V.ownBlock) (hat:V.ownBlock=some g∨g=(w3.alloc o).heap.size) :
  RTr ty n base w4 (.slice (some ⟨g,0,none⟩) (l.len+1) cap) (l.snoc s):=by
 have hs:=m.size
 have hV:∀ k,V.ownBlock=some k→k < w2.heap.size:=fun k hk=>(hown.lt k hk).2
 obtain ⟨h1,_,h3⟩:=Vv (wr:=w3) (w2:=w3) (w4:=w4) (V:=V) (g:=g) (o:=o) (P:=fun b=>P b∨(w2.heap.size≤b∧b < w3.heap.size)) (base:=base) (Nat.le_trans hbase hs) (fun k hk=>Nat.lt_of_lt_of_le (hV k hk) hs) (fun b hb=>by
  rcases hb with hb|hb
  · exact ⟨(hP b hb).1,Nat.lt_of_lt_of_le (hP b hb).2.1 hs,(hP b hb).2.2⟩
  · exact ⟨Nat.le_trans hbase hb.1,hb.2,fun e=>by have:=hV b e;omega⟩) (Below.refl _ _) hg hat
 exact ⟨_,_,by rw [TrL.snoc_len];exact hown4,TLV.snoc (TS.keep (fun b hb=>h1 b (.inr hb)) _ _ hd) ((hv.keep (P':=fun b=>P b∨(w2.heap.size≤b∧b < w3.heap.size)) (fun b hb=>⟨.inl hb,m.block b (hP b hb).2.1 (fun e=>by have:=(hP b hb).1;injection e;omega)⟩)).keep h1),h3⟩
theorem RTr.fin {ty:TypeId} {n base:Nat} {W:World} {V:Value} {l:TrL} (h:RTr ty n base W V l) (hl:l.len≤9223372036854775807):TP W (fun b=>base≤b∧b < W.heap.size) (.row l) V:=by
 obtain ⟨xs,P,h1,h2,h3⟩:=h
 obtain ⟨A,c,e,h4⟩:=Ylj h1 h2
 unfold TP
 exact ⟨A,c,e,hl,Xp.keep (fun b hb=>⟨by
  rcases hb with hb|hb
  · exact ⟨(h3 b hb).1,(h3 b hb).2.1⟩
  · exact h1.lt b hb,rfl⟩) _ _ h4⟩
mutual
def Lm:VT→TrS
 | .mk k n s l m=>.cons (.one (.int .i64 k)) (.cons (.one (.int .i64 n)) (.cons (.one (.string s)) (.cons (.row (Zzi l)) (.cons (.row (Jf m)) .nil))))
def Zzi:VL→TrL
 | .nil=>.nil
 | .cons v t=>.cons (Lm v) (Zzi t)
def Jf:VM→TrL
 | .nil=>.nil
 | .cons nm v t=>.cons (.cons (.one (.string nm)) (Lm v)) (Jf t)
end
theorem Cz:∀ v:VT,(Lm v).len=5
 | .mk _ _ _ _ _=>by rw [Lm];rfl
theorem Dn:∀ l:VL,(Zzi l).len=l.len
 | .nil=>by rw [Zzi];rfl
 | .cons v t=>by rw [Zzi,TrL.len,VL.len,Dn t]
theorem Ey:∀ l:VM,(Jf l).len=l.len
 | .nil=>by rw [Jf];rfl
 | .cons nm v t=>by rw [Jf,TrL.len,VM.len,Ey t]
theorem Fl:∀ (l:VM) (nm:ByteArray) (v:VT),Jf (l.snoc nm v)=(Jf l).snoc (.cons (.one (.string nm)) (Lm v))
 | .nil,nm,v=>by rw [VM.snoc,Jf,Jf,TrL.snoc,Jf]
 | .cons x u t,nm,v=>by rw [VM.snoc,Jf,Jf,TrL.snoc,Fl t]
def W3:Option Addr→Nat→Option Addr
 | none,_=>none
 | some ⟨b,o,x⟩,n=>some ⟨b,o+n,x⟩
theorem Ic (A:Option Addr):W3 A 0=A:=by
 cases A with
 | none=>rfl
 | some a=>rfl
mutual
theorem Ycv {w:World} {P:Nat→Prop} : ∀ (v:VT) (c0 c1 c2 c3 c4:Value),VP w P v c0 c1 c2 c3 c4→TS w P (Lm v) [c0,c1,c2,c3,c4]
 | .mk k n s l m,c0,c1,c2,c3,c4,h=>by
   unfold VP at h
   obtain ⟨h0,h1,h2,hs,⟨A,c,h3,g3,h4⟩,A',c',h5,g5,h6⟩:=h
   rw [Lm]
   simp only [TS,TP]
   refine ⟨_,_,rfl,⟨h0,trivial⟩,_,_,rfl,⟨h1,trivial⟩,_,_,rfl,⟨h2,hs⟩,_,_,rfl,⟨A,c,by rw [Dn];exact h3,by rw [Dn];exact g3,?_⟩,_,_,rfl,⟨A',c',by rw [Ey];exact h5,by rw [Ey];exact g5,?_⟩,rfl⟩
   · have:=Ymz l A 0 h4;rwa [Nat.zero_mul,Ic] at this
   · have:=Ylm m A' 0 h6;rwa [Nat.zero_mul,Ic] at this
theorem Ymz {w:World} {P:Nat→Prop} : ∀ (l:VL) (A:Option Addr) (j:Nat),LP w P l A j→Xp w P (Zzi l) (W3 A (j*5))
 | .nil,_,_,_=>by rw [Zzi];unfold Xp;trivial
 | .cons v t,A,j,h=>by
   unfold LP at h
   obtain ⟨⟨b,o,c0,c1,c2,c3,c4,rfl,hb,hf,hv⟩,ht⟩:=h
   rw [Zzi]
   unfold Xp
   refine ⟨b,o+j*5,[c0,c1,c2,c3,c4],rfl,hb,fun i u hi=>?_,Ycv v _ _ _ _ _ hv,?_⟩
   · match i,hi with
     | 0,hi=>cases hi;exact hf.1
     | 1,hi=>cases hi;exact hf.2.1
     | 2,hi=>cases hi;exact hf.2.2.1
     | 3,hi=>cases hi;exact hf.2.2.2.1
     | 4,hi=>cases hi;exact hf.2.2.2.2
   · have:=Ymz t _ (j+1) ht
     rw [Cz]
     rwa [show o+j*5+5=o+(j+1)*5 by omega]
theorem Ylm {w:World} {P:Nat→Prop} : ∀ (l:VM) (A:Option Addr) (j:Nat),MP w P l A j→Xp w P (Jf l) (W3 A (j*6))
 | .nil,_,_,_=>by rw [Jf];unfold Xp;trivial
 | .cons nm v t,A,j,h=>by
   unfold MP at h
   obtain ⟨⟨b,o,c0,c1,c2,c3,c4,rfl,hb,hn,hz,hf,hv⟩,ht⟩:=h
   rw [Jf]
   unfold Xp
   refine ⟨b,o+j*6,[.string nm,c0,c1,c2,c3,c4],rfl,hb,fun i u hi=>?_,?_,?_⟩
   · match i,hi with
     | 0,hi=>cases hi;exact hn
     | 1,hi=>cases hi;exact hf.1
     | 2,hi=>cases hi;exact hf.2.1
     | 3,hi=>cases hi;exact hf.2.2.1
     | 4,hi=>cases hi;exact hf.2.2.2.1
     | 5,hi=>cases hi;exact hf.2.2.2.2
   · rw [TS]
     exact ⟨_,_,rfl,by unfold TP;exact ⟨rfl,hz⟩,Ycv v _ _ _ _ _ hv⟩
   · have:=Ylm t _ (j+1) ht
     rw [TrS.len,Cz]
     rwa [show o+j*6+(5+1)=o+(j+1)*6 by omega]
end
mutual
theorem Ykp {w:World} {P:Nat→Prop} : ∀ (v:VT) (cs:List Value),TS w P (Lm v) cs→∃ c0 c1 c2 c3 c4,cs=[c0,c1,c2,c3,c4]∧VP w P v c0 c1 c2 c3 c4
 | .mk k n s l m,cs,h=>by
   rw [Lm] at h
   simp only [TS,TP] at h
   obtain ⟨c0,_,rfl,⟨h0,_⟩,c1,_,rfl,⟨h1,_⟩,c2,_,rfl,⟨h2,hs⟩,c3,_,rfl,⟨A,c,h3,g3,h4⟩,c4,_,rfl,⟨A',c',h5,g5,h6⟩,rfl⟩:=h
   rw [Dn] at h3 g3
   rw [Ey] at h5 g5
   refine ⟨c0,c1,c2,c3,c4,rfl,?_⟩
   unfold VP
   exact ⟨h0,h1,h2,hs,⟨A,c,h3,g3,Ym7 l A 0 (by rw [Nat.zero_mul,Ic];exact h4)⟩,A',c',h5,g5,Yjz m A' 0 (by rw [Nat.zero_mul,Ic];exact h6)⟩
theorem Ym7 {w:World} {P:Nat→Prop} : ∀ (l:VL) (A:Option Addr) (j:Nat),Xp w P (Zzi l) (W3 A (j*5))→LP w P l A j
 | .nil,_,_,_=>by unfold LP;trivial
 | .cons v t,A,j,h=>by
   rw [Zzi] at h
   unfold Xp at h
   obtain ⟨b,o,cs,e,hb,hc,h1,h2⟩:=h
   obtain ⟨c0,c1,c2,c3,c4,rfl,hv⟩:=Ykp v cs h1
   cases A with
   | none=>cases e
   | some a =>
     obtain ⟨b',o',x⟩:=a
     have e:=Option.some.inj e
     injection e with e1 e2 e3
     subst e1 e2 e3
     unfold LP
     refine ⟨⟨b',o',c0,c1,c2,c3,c4,rfl,hb,⟨hc 0 _ rfl,hc 1 _ rfl,hc 2 _ rfl,hc 3 _ rfl,hc 4 _ rfl⟩,hv⟩,Ym7 t _ (j+1) ?_⟩
     rw [Cz] at h2
     rwa [show W3 (some (⟨b',o',none⟩:Addr)) ((j+1)*5)=some ⟨b',o'+j*5+5,none⟩ by rw [W3];congr 2;omega]
theorem Yjz {w:World} {P:Nat→Prop} : ∀ (l:VM) (A:Option Addr) (j:Nat),Xp w P (Jf l) (W3 A (j*6))→MP w P l A j
 | .nil,_,_,_=>by unfold MP;trivial
 | .cons nm v t,A,j,h=>by
   rw [Jf] at h
   unfold Xp at h
   obtain ⟨b,o,cs,e,hb,hc,h1,h2⟩:=h
   rw [TS] at h1
   obtain ⟨c,ys,rfl,h0,h1⟩:=h1
   unfold TP at h0
   obtain ⟨rfl,hz⟩:=h0
   obtain ⟨c0,c1,c2,c3,c4,rfl,hv⟩:=Ykp v ys h1
   cases A with
   | none=>cases e
   | some a =>
     obtain ⟨b',o',x⟩:=a
     have e:=Option.some.inj e
     injection e with e1 e2 e3
     subst e1 e2 e3
     unfold MP
     refine ⟨⟨b',o',c0,c1,c2,c3,c4,rfl,hb,hc 0 _ rfl,hz,⟨hc 1 _ rfl,hc 2 _ rfl,hc 3 _ rfl,hc 4 _ rfl,hc 5 _ rfl⟩,hv⟩,Yjz t _ (j+1) ?_⟩
     rw [TrS.len,Cz] at h2
     rwa [show W3 (some (⟨b',o',none⟩:Addr)) ((j+1)*6)=some ⟨b',o'+j*6+(5+1),none⟩ by rw [W3];congr 2;omega]
end
abbrev Lk:=ByteArray × VM
mutual
inductive Wi where
 | mk (kind:Int) (alias name:ByteArray) (args:VM) (dirs:List Lk) (on:ByteArray) (sels:Vy)
inductive Vy where
 | nil
 | cons (x:Wi) (t:Vy)
end
def Vy.len:Vy→Nat
 | .nil=>0
 | .cons _ t=>t.len+1
def Vy.snoc:Vy→Wi→Vy
 | .nil,x=>.cons x .nil
 | .cons u t,x=>.cons u (t.snoc x)
structure Mw where
 name:ByteArray
 tn:ByteArray
 tl:Nat
 tm:Nat
 has:Bool
 v:VT
structure OpT where
 kind:Int
 name:ByteArray
 vars:List Mw
 dirs:List Lk
 sels:Vy
structure Ql where
 name:ByteArray
 on:ByteArray
 dirs:List Lk
 sels:Vy
def Z5 {α:Type} (f:α→TrS):List α→TrL
 | []=>.nil
 | a :: t=>.cons (f a) (Z5 f t)
theorem Zt {α:Type} (f:α→TrS):∀ l:List α,(Z5 f l).len=l.length
 | []=>rfl
 | a :: t=>by rw [Z5,TrL.len,Zt f t];rfl
theorem Xa {α:Type} (f:α→TrS):∀ (l:List α) (a:α),Z5 f (l++[a])=(Z5 f l).snoc (f a)
 | [],a=>rfl
 | b :: t,a=>by rw [List.cons_append,Z5,Z5,TrL.snoc,Xa f t]
def Gu (nm:ByteArray) (v:VT):TrS:=.cons (.one (.string nm)) (Lm v)
def Xc (d:Lk):TrS:=.cons (.one (.string d.1)) (.cons (.row (Jf d.2)) .nil)
mutual
def Gk:Wi→TrS
 | .mk k a n g d o s=>.cons (.one (.int .i64 k)) (.cons (.one (.string a)) (.cons (.one (.string n)) (.cons (.row (Jf g)) (.cons (.row (Z5 Xc d)) (.cons (.one (.string o)) (.cons (.row (Z7 s)) .nil))))))
def Z7:Vy→TrL
 | .nil=>.nil
 | .cons x t=>.cons (Gk x) (Z7 t)
end
theorem F4:∀ l:Vy,(Z7 l).len=l.len
 | .nil=>by rw [Z7];rfl
 | .cons x t=>by rw [Z7,TrL.len,Vy.len,F4 t]
theorem Fa:∀ (l:Vy) (x:Wi),Z7 (l.snoc x)=(Z7 l).snoc (Gk x)
 | .nil,x=>by rw [Vy.snoc,Z7,Z7,TrL.snoc,Z7]
 | .cons u t,x=>by rw [Vy.snoc,Z7,Z7,TrL.snoc,Fa t]
def Y7 (x:Mw):TrS:=.cons (.one (.string x.name)) (.cons (.one (.string x.tn)) (.cons (.one (.int .i64 (x.tl:Int))) (.cons (.one (.int .i64 (x.tm:Int))) (.cons (.one (.bool x.has)) (Lm x.v)))))
def Ya (x:OpT):TrS:=.cons (.one (.int .i64 x.kind)) (.cons (.one (.string x.name)) (.cons (.row (Z5 Y7 x.vars)) (.cons (.row (Z5 Xc x.dirs)) (.cons (.row (Z7 x.sels)) .nil))))
def Ur (x:Ql):TrS:=.cons (.one (.string x.name)) (.cons (.one (.string x.on)) (.cons (.row (Z5 Xc x.dirs)) (.cons (.row (Z7 x.sels)) .nil)))
theorem Wh {α:Type} {f:α→TrS} {w:World} {P:Nat→Prop} (n:Nat) (hn:∀ a,(f a).len=n):∀ {l:List α} {A:Option Addr} {q:Nat} {x:α},Xp w P (Z5 f l) A→l[q]? = some x →
   ∃ b o cs,A=some ⟨b,o,none⟩∧P b∧(∀ j u,cs[j]? = some u→w.cell? ⟨b,o+q*n+j,none⟩=some u)∧TS w P (f x) cs
 | [],_,_,_,_,h=>by simp at h
 | a :: t,A,0,x,h,hx=>by
   obtain rfl:a=x:=by simpa using hx
   rw [Z5] at h
   unfold Xp at h
   obtain ⟨b,o,cs,e,hb,hc,h1,_⟩:=h
   exact ⟨b,o,cs,e,hb,fun j u hj=>by rw [Nat.zero_mul,Nat.add_zero];exact hc j u hj,h1⟩
 | a :: t,A,q+1,x,h,hx=>by
   rw [Z5] at h
   unfold Xp at h
   obtain ⟨b,o,cs,e,hb,hc,h1,h2⟩:=h
   have hx:t[q]? = some x:=by simpa using hx
   obtain ⟨b',o',cs',e',hb',hc',h1'⟩:=Wh n hn h2 hx
   have e':=Option.some.inj e'
   injection e' with e1 e2 _
   subst e1 e2
   rw [hn] at hc'
   exact ⟨b,o,cs',e,hb,fun j u hj=>by rw [Nat.add_mul,Nat.one_mul,Nat.add_comm (q*n) n,← Nat.add_assoc];exact hc' j u hj,h1'⟩
theorem Xp.below {w w':World} {B:Nat} (hb:Below B w w') {l:TrL} {A:Option Addr} (h:Xp w (fun b=>b < B) l A):Xp w' (fun b=>b < B) l A:=
 Xp.keep (fun b hlt=>⟨hlt,hb.block b hlt⟩) _ _ h
theorem Yhn {w:World} {B:Nat} {m:VM} {A:Option Addr} (h:Xp w (fun b=>b < B) (Jf m) A):MAt w B m A 0:=MP.at (fun _ h=>h) m A 0 (Yjz m A 0 (by rw [Nat.zero_mul,Ic];exact h))
theorem Ygl (d:Lk):(Xc d).len=2:=rfl
theorem Yhp {w:World} {B:Nat} {l:List Lk} {A:Option Addr} {q:Nat} {nm:ByteArray} {m:VM} (h:Xp w (fun b=>b < B) (Z5 Xc l) A) (hx:l[q]? = some (nm,m)) :
  ∃ b o A2 k2,A=some ⟨b,o,none⟩∧b < B∧w.cell? ⟨b,o+q*2,none⟩=some (.string nm)∧w.cell? ⟨b,o+q*2+1,none⟩=some (.slice A2 m.len k2)∧m.len≤9223372036854775807∧MAt w B m A2 0:=by
 obtain ⟨b,o,cs,e,hb,hc,h1⟩:=Wh 2 Ygl h hx
 simp only [Xc,TS,TP] at h1
 obtain ⟨c0,_,rfl,⟨rfl,_⟩,c1,_,rfl,⟨A2,k2,rfl,hl,hM⟩,rfl⟩:=h1
 rw [Ey] at hc hl
 exact ⟨b,o,A2,k2,e,hb,hc 0 _ rfl,hc 1 _ rfl,hl,Yhn hM⟩
theorem Qm (m:VM) (A A':Option Addr) (c c':Nat) (w:World) (B:Nat) (hB:B≤w.heap.size) (hl:m.len≤9223372036854775807) (h1:MAt w B m A 0) (h2:MAt w B m A' 0) :
  Calls Tryz.prog 55 #[.slice A m.len c,.slice A' m.len c'] w fun e w'=>e=.returned (.bool true)∧Below w.heap.size w w':=by
 refine (Yco m m A A' c c' w B hB hl hl h1 h2).mono ?_
 rintro e' w' ⟨⟨b,rfl,hb⟩,hw⟩
 rw [hb.2 rfl]
 exact ⟨rfl,hw⟩
def KD (w:World) (b O:Nat) (nm d:Value) (b' O':Nat) (nm' f:Value) (W:World):Prop:=
 W.cell? ⟨b,O,none⟩=some nm∧W.cell? ⟨b,O+1,none⟩=some d∧W.cell? ⟨b',O',none⟩=some nm'∧W.cell? ⟨b',O'+1,none⟩=some f∧Below w.heap.size w W
theorem KD.next {w W W':World} {b O:Nat} {nm d:Value} {b' O':Nat} {nm' f:Value} (h:KD w b O nm d b' O' nm' f W) (hl:b < w.heap.size) (hl':b' < w.heap.size) (hb:Below W.heap.size W W'):KD w b O nm d b' O' nm' f W':=by
 obtain ⟨h1,h2,h3,h4,hB⟩:=h
 have g:=Nat.lt_of_lt_of_le hl hB.size
 have g':=Nat.lt_of_lt_of_le hl' hB.size
 exact ⟨(hb.cell (p:=⟨b,_,none⟩) g).trans h1,(hb.cell (p:=⟨b,_,none⟩) g).trans h2,(hb.cell (p:=⟨b',_,none⟩) g').trans h3,(hb.cell (p:=⟨b',_,none⟩) g').trans h4,hB.trans (hb.mono hB.size)⟩
theorem KD.written {w W:World} {b O:Nat} {nm d:Value} {b' O':Nat} {nm' f:Value} (h:KD w b O nm d b' O' nm' f W) :
  W.cell? ⟨b,O,none⟩=some nm∧W.cell? ⟨b,O+1,none⟩=some d∧W.cell? ⟨b',O',none⟩=some nm'∧W.cell? ⟨b',O'+1,none⟩=some f∧KD w b O nm d b' O' nm' f W:=
 ⟨h.1,h.2.1,h.2.2.1,h.2.2.2.1,h⟩
theorem Do (l:List Lk) (A A':Option Addr) (c c':Nat) (w:World) (B:Nat) (hB:B≤w.heap.size) (hl:l.length≤9223372036854775807) (h1:Xp w (fun b=>b < B) (Z5 Xc l) A) (h2:Xp w (fun b=>b < B) (Z5 Xc l) A') :
  Calls Tryz.prog 112 #[.slice A l.length c,.slice A' l.length c'] w fun e w'=>e=.returned (.bool true)∧Below w.heap.size w w':=by
 have H1:=Hd h1
 have H2:=Hd h2
 have HB0:=Hd hB
 clear h1 h2 hB
 have e0:((l.length:Int) != (l.length:Int))=false:=by simp
 go_enter Tryz.func112,Tryz.ntmps112
 go_wp2_with fail
 go_loopg [5] l.length (fun g i wx=>∃ q:Nat,q+g=l.length∧i=.int .i64 q∧Below w.heap.size w wx)
 case atStart=>exact ⟨0,by omega,rfl,Below.refl _ _⟩
 case round =>
  obtain ⟨q,hq,rfl,hb⟩:=hrel
  have HBB:=Hd hb
  clear hb
  cases gk with
  | zero =>
    obtain rfl:q=l.length:=by omega
    go_wp2_with fail
    go_ret
    exact ⟨rfl,HBB.out⟩
  | succ g =>
    have hqn:q < l.length:=by omega
    have hqn':(q:Int) < (l.length:Int):=by omega
    obtain ⟨⟨nm,m⟩,hv⟩:∃ x,l[q]? = some x:=⟨_,List.getElem?_eq_getElem hqn⟩
    obtain ⟨b,o,A2,k2,rfl,hblt,hnm,hcs,hml,hM⟩:=Yhp (Xp.below (HBB.out.mono HB0.out) H1.out) hv
    obtain ⟨b',o',A3,k3,rfl,hblt',hnm',hcs',_,hM'⟩:=Yhp (Xp.below (HBB.out.mono HB0.out) H2.out) hv
    clear hv
    have e1:(nm.toList != nm.toList)=false:=by simp
    have e1':(nm.toList == nm.toList)=true:=by simp
    have HBW:Hid (b < w.heap.size):=Hd (Nat.lt_of_lt_of_le hblt HB0.out)
    have HBW':Hid (b' < w.heap.size):=Hd (Nat.lt_of_lt_of_le hblt' HB0.out)
    have hE0:KD w b (o+q*2) (.string nm) (.slice A2 m.len k2) b' (o'+q*2) (.string nm) (.slice A3 m.len k3) wr:=⟨hnm,hcs,hnm',hcs',HBB.out⟩
    have C:=fun (wx:World) (hx:Below wr.heap.size wr wx)=>Hd (Qm m A2 A3 k2 k3 wx B (Nat.le_trans HB0.out (Nat.le_trans HBB.out.size hx.size)) hml (MAt.below (hx.mono (Nat.le_trans HB0.out HBB.out.size)) _ _ _ hM) (MAt.below (hx.mono (Nat.le_trans HB0.out HBB.out.size)) _ _ _ hM'))
    clear hM hM' hblt hblt'
    go_wp2_with fail
    go_region_held3 (fun w'=>w'.cell? ⟨b,o+q*2,none⟩=some (.string nm)∧w'.cell? ⟨b,o+q*2+1,none⟩=some (.slice A2 m.len k2)∧w'.cell? ⟨b',o'+q*2,none⟩=some (.string nm)∧w'.cell? ⟨b',o'+q*2+1,none⟩=some (.slice A3 m.len k3)∧KD w b (o+q*2) (.string nm) (.slice A2 m.len k2) b' (o'+q*2) (.string nm) (.slice A3 m.len k3) w')
     (first
      | exact KD.written (KD.next hE0 HBW.out HBW'.out (Below.drew (Below.refl _ _)))
      | exact KD.written ((KD.next hE0 HBW.out HBW'.out (Below.drew (Below.refl _ _))).next HBW.out HBW'.out (by assumption))
      | exact KD.written (KD.next hE0 HBW.out HBW'.out (by assumption))
      | exact KD.written (KD.next (by assumption) HBW.out HBW'.out (by assumption))
      | go_keep)
     ((first|(go_at_call 55;refine (C _ (by first|exact Below.drew (Below.refl _ _)|exact Below.refl _ _|assumption)).out.mono ?_;rintro e w' ⟨rfl,hb⟩)))
    all_goals
     have HKM:KD w b (o+q*2) (.string nm) (.slice A2 m.len k2) b' (o'+q*2) (.string nm) (.slice A3 m.len k3) w':=And.right (And.right (And.right (And.right (by assumption))))
     have HKB:=Hd HKM.2.2.2.2
     clear HKM hE0 C hnm hcs hnm' hcs'
     go_wp2_with fail
     go_roundg g
     case measure=>omega
     case rel=>exact ⟨q+1,by omega,by go_num,HKB.out⟩
def VT.zero:VT:=.mk 0 0 ⟨#[]⟩ .nil .nil
def VM.drop:VM→Nat→VM
 | m,0=>m
 | .nil,_+1=>.nil
 | .cons _ _ t,j+1=>t.drop j
theorem Vb {R:Ending→World→Prop} {fn:Func} {a:Act} {W:World} {c0 c1 c2 c3 c4:Value} {p b:Nat} (hf:fn.results=#[.cell p 35]) (h2:a.tmps.getD p undef=.pointer (some ⟨b,0,none⟩)) (hd:a.defers=[])
  (hc:W.heap[b]? = some (.cells #[c0,c1,c2,c3,c4] 35 (0,0))) (hR:R (.returned (.agg #[c0,c1,c2,c3,c4])) W):bodyPost Tryz.prog fn R .ret a W:=by
 have hl:(loadVar 35 ⟨b,0,none⟩).run Tryz.prog W=.ok (.agg #[c0,c1,c2,c3,c4]) W:=
  run_loadVar_row W b 35 35 #[c0,c1,c2,c3,c4] (0,0) _ hc Tryz.underlying35 rfl (by kernel_rfl)
 refine bodyPost_ret ?_ hd hR
 have h2':a.tmps[p]?.getD undef=.pointer (some ⟨b,0,none⟩):=by rw [← h2];simp
 simp [results,hf,h2',asAddr,hl]
theorem Yf8 (z:Int) (w:World) :
  Calls Tryz.prog 121 #[.int .i64 z] w fun e w'=>e=.returned (.agg #[.int .i64 2,.int .i64 z,.string ⟨#[]⟩,.slice none 0 0,.slice none 0 0])∧Below w.heap.size w w':=by
 go_enter Tryz.func121,Tryz.ntmps121
 go_wp2_with fail
 exact Vb rfl rfl rfl (heap_alloc_new _ _) ⟨rfl,(Below.refl _ _).alloc (Nat.le_refl _) _⟩
theorem Yag (s:ByteArray) (w:World) :
  Calls Tryz.prog 122 #[.string s] w fun e w'=>e=.returned (.agg #[.int .i64 4,.int .i64 0,.string s,.slice none 0 0,.slice none 0 0])∧Below w.heap.size w w':=by
 go_enter Tryz.func122,Tryz.ntmps122
 go_wp2_with fail
 exact Vb rfl rfl rfl (heap_alloc_new _ _) ⟨rfl,(Below.refl _ _).alloc (Nat.le_refl _) _⟩
theorem Yg0 (z:Int) (w:World) :
  Calls Tryz.prog 190 #[.int .i64 z] w fun e w'=>e=.returned (.agg #[.int .i64 2,.int .i64 z,.string ⟨#[]⟩,.slice none 0 0,.slice none 0 0])∧Below w.heap.size w w':=by
 go_enter Tryz.func190,Tryz.ntmps190
 go_wp2_with fail
 exact Vb rfl rfl rfl (heap_alloc_new _ _) ⟨rfl,(Below.refl _ _).alloc (Nat.le_refl _) _⟩
theorem Ycq (s:ByteArray) (w:World) :
  Calls Tryz.prog 191 #[.string s] w fun e w'=>e=.returned (.agg #[.int .i64 4,.int .i64 0,.string s,.slice none 0 0,.slice none 0 0])∧Below w.heap.size w w':=by
 go_enter Tryz.func191,Tryz.ntmps191
 go_wp2_with fail
 exact Vb rfl rfl rfl (heap_alloc_new _ _) ⟨rfl,(Below.refl _ _).alloc (Nat.le_refl _) _⟩
theorem L7 {w:World} {b:Nat} {z0 z1 z2 z3 z4 v0 v1 v2 v3 v4:Value} {t:TypeId} (h:w.heap[b]? = some (.cells #[z0,z1,z2,z3,z4] t (0,0))):(((((w.setCell ⟨b,0,none⟩ v0).setCell ⟨b,1,none⟩ v1).setCell ⟨b,2,none⟩ v2).setCell ⟨b,3,none⟩ v3).setCell ⟨b,4,none⟩ v4).heap[b]? = some (.cells #[v0,v1,v2,v3,v4] t (0,0)):=
 heap_setCell_same _ b 4 _ _ _ (heap_setCell_same _ b 3 _ _ _ (heap_setCell_same _ b 2 _ _ _ (heap_setCell_same _ b 1 _ _ _ (heap_setCell_same _ b 0 _ _ _ h))))
theorem gvc {w:World} {b:Nat} {z0 z1 z2 z3 z4:Value} {t:TypeId} (h:w.heap[b]? = some (.cells #[z0,z1,z2,z3,z4] t (0,0))):w.cell? ⟨b,0,none⟩=some z0∧w.cell? ⟨b,1,none⟩=some z1∧w.cell? ⟨b,2,none⟩=some z2∧w.cell? ⟨b,3,none⟩=some z3∧w.cell? ⟨b,4,none⟩=some z4∧∀ i,w.frozen? ⟨b,i,none⟩=false:=by
 refine ⟨?_,?_,?_,?_,?_,fun i=>?_⟩
 all_goals first|(simp only [World.cell?,h];rfl)|simp [World.frozen?,h]
def Ykt (w wx:World):Prop:=wx.heap[w.heap.size]? = some (.cells #[.int .i64 0,.int .i64 0,.string ⟨#[]⟩,.slice none 0 0,.slice none 0 0] 35 (0,0))∧w.heap.size < wx.heap.size∧Below w.heap.size w wx
theorem Ykt.alloc {w wx:World} (h:Ykt w wx) (o:Obj):Ykt w (wx.alloc o):=
 ⟨(Below.heap_alloc _ _ _ h.2.1).trans h.1,by have:=h.2.1;simp;omega,h.2.2.alloc (Nat.le_of_lt h.2.1) o⟩
def byt (l:List UInt8) (k:Nat):Int:=((l.getD k 0).toNat:Int)
def V3 (b:Int):Bool:=decide (128≤b∧b≤191)
def U0:Nat→Int|0=>0|1=>192|2=>224|_=>240
def Yle:Nat→Int|0=>128|1=>224|2=>240|_=>248
def Lp:Nat→Int|0=>0|1=>128|2=>2048|_=>65536
def Aw:Nat→Int|0=>128|1=>32|2=>16|_=>8
def acc (l:List UInt8) (c:Int):Nat→Int
 | 0=>c
 | 1=>c
 | k+2=>acc l c (k+1)*64+(byt l (k+1) - 128)
def Xy (l:List UInt8):Nat→Bool
 | 0=>true
 | 1=>true
 | k+2=>Xy l (k+1) && V3 (byt l (k+1))
def Xr (k:Nat) (a:Int):Prop:=U0 k≤a∧a < U0 k+Aw k
instance (k:Nat) (a:Int):Decidable (Xr k a):=by unfold Xr;infer_instance
def Qn (k:Nat) (c:Int):Prop:=Lp k≤c∧c≤1114111∧X3 c=false
instance (k:Nat) (c:Int):Decidable (Qn k c):=by unfold Qn;infer_instance
def D9 (k:Nat) (l:List UInt8):Option (Int × Int):=
 if k < l.length∧Xr k (byt l 0)∧Xy l (k+1)=true∧Qn k (acc l (byt l 0 - U0 k) (k+1)) then some (acc l (byt l 0 - U0 k) (k+1),(k:Int)+1) else none
def dec (l:List UInt8):Int × Int:=
 match D9 0 l with
 | some p=>p
 | none=>match D9 1 l with
   | some p=>p
   | none=>match D9 2 l with
     | some p=>p
     | none=>match D9 3 l with
       | some p=>p
       | none=>(0,0)
def Da (l:List UInt8) (k:Nat):Prop:=∀ j,j < k→D9 j l=none
theorem Je {l:List UInt8} {k:Nat} (h:Da l k) (hk:D9 k l=none):Da l (k+1):=fun j hj=>by
 rcases Nat.lt_or_ge j k with h'|h'
 · exact h j h'
 · obtain rfl:j=k:=by omega
   exact hk
theorem Dg {l:List UInt8} (h:Da l 4):dec l=(0,0):=by
 simp [dec,h 0 (by omega),h 1 (by omega),h 2 (by omega),h 3 (by omega)]
theorem Ez {l:List UInt8} {k:Nat} {p:Int × Int} (hk:k < 4) (h:Da l k) (hp:D9 k l=some p):dec l=p:=by
 match k,hk with
 | 0,_=>simp [dec,hp]
 | 1,_=>simp [dec,h 0 (by omega),hp]
 | 2,_=>simp [dec,h 0 (by omega),h 1 (by omega),hp]
 | 3,_=>simp [dec,h 0 (by omega),h 1 (by omega),h 2 (by omega),hp]
theorem Lw (l:List UInt8) (k:Nat):0≤byt l k∧byt l k < 256:=by
 have:=(l.getD k 0).toNat_lt
 unfold byt;omega
theorem Xz (s:ByteArray) (i k:Nat) (h:i+k < s.size):(s[i+k].toNat:Int)=byt (s.data.toList.drop i) k:=by
 unfold byt
 have hl:s.data.toList.length=s.size:=Array.length_toList
 rw [List.getD_eq_getElem?_getD,List.getElem?_drop,List.getElem?_eq_getElem (by omega)]
 rfl
theorem Yn6 (l:List UInt8) (c:Int) (h0:0≤c) (h1:c < 128):∀ k,Xy l k=true→0≤acc l c k∧acc l c k < 128*64 ^ (k - 1):=by
 intro k
 induction k with
 | zero=>intro _;exact ⟨h0,by simpa [acc] using h1⟩
 | succ k ih =>
   cases k with
   | zero=>intro _;exact ⟨h0,by simpa [acc] using h1⟩
   | succ k =>
     intro h
     simp only [Xy,Bool.and_eq_true] at h
     obtain ⟨a,b⟩:=ih h.1
     have hc:=h.2
     simp only [V3,decide_eq_true_eq] at hc
     simp only [acc]
     refine ⟨by omega,?_⟩
     rw [show k+1+1 - 1=(k+1 - 1)+1 from by omega,Int.pow_succ]
     omega
theorem Gh {l:List UInt8} {k:Nat} (h : ¬ Xr k (byt l 0)):D9 k l=none:=by
 unfold D9;rw [if_neg (fun x=>h x.2.1)]
theorem Ga {l:List UInt8} {k:Nat} (h : ¬ k < l.length):D9 k l=none:=by
 unfold D9;rw [if_neg (fun x=>h x.1)]
theorem Fj {l:List UInt8} {k:Nat} (h : ¬ Qn k (acc l (byt l 0 - U0 k) (k+1))):D9 k l=none:=by
 unfold D9;rw [if_neg (fun x=>h x.2.2.2)]
theorem Zz7 {l:List UInt8} : ∀ (k j:Nat),j≤k→Xy l k=true→Xy l j=true:=by
 intro k
 induction k with
 | zero => intro j hj h;obtain rfl:j=0:=by omega
           exact h
 | succ k ih =>
   intro j hj h
   rcases Nat.lt_or_ge j (k+1) with h'|h'
   · refine ih j (by omega) ?_
     cases k with
     | zero=>rfl
     | succ k=>simp only [Xy,Bool.and_eq_true] at h;exact h.1
   · obtain rfl:j=k+1:=by omega
     exact h
theorem U7 {l:List UInt8} {k j:Nat} (h0:1≤j) (hj:j≤k) (h : ¬ V3 (byt l j)=true):D9 k l=none:=by
 unfold D9;rw [if_neg (fun x=>h ?_)]
 have:=Zz7 (k+1) (j+1) (by omega) x.2.2.1
 match j,h0 with
 | j+1,_=>simp only [Xy,Bool.and_eq_true] at this;exact this.2
theorem Zjq {l:List UInt8} {k:Nat} (h1:k < l.length) (h2:Xr k (byt l 0)) (h3:Xy l (k+1)=true) (h4:Qn k (acc l (byt l 0 - U0 k) (k+1))) :
 D9 k l=some (acc l (byt l 0 - U0 k) (k+1),(k:Int)+1):=by unfold D9;rw [if_pos ⟨h1,h2,h3,h4⟩]
theorem Zko {k:Nat} {a:Int} (h:Xr k a):0≤a - U0 k∧a - U0 k < 128:=by
 unfold Xr at h
 match k,h with
 | 0,h=>simp only [U0,Aw] at *;omega
 | 1,h=>simp only [U0,Aw] at *;omega
 | 2,h=>simp only [U0,Aw] at *;omega
 | k+3,h=>simp only [U0,Aw] at *;omega
theorem Fq {l:List UInt8} {j:Nat} (h0:1≤j) (h:Xy l j=true) (hc:V3 (byt l j)=true):Xy l (j+1)=true:=by
 match j,h0 with
 | j+1,_=>simp [Xy,h,hc]
theorem Dk {l:List UInt8} {c:Int} {j:Nat} (h0:1≤j):acc l c (j+1)=acc l c j*64+(byt l j - 128):=by
 match j,h0 with
 | j+1,_=>rfl
theorem Lt {l:List UInt8} {c:Int} {j:Nat} (h0:0≤c) (h1:c < 128) (hj:j≤4) (h:Xy l j=true):0≤acc l c j∧acc l c j < 33554433:=by
 have hx:∀ (k:Nat),k≤3→(128:Int)*64 ^ k≤33554432:=by
  intro k hk
  match k,hk with
  | 0,_=>decide
  | 1,_=>decide
  | 2,_=>decide
  | 3,_=>decide
 have hb:0≤acc l c j∧acc l c j < 128*64 ^ (j - 1):=Yn6 l c h0 h1 j h
 have:=hx (j - 1) (by omega)
 omega
theorem Rt:∀ k:Fin 4,∀ a:Fin 256,(bits .and .i64 ((a.val:Nat):Int) (Yle k.val)=U0 k.val ↔ Xr k.val ((a.val:Nat):Int))∧(Xr k.val ((a.val:Nat):Int)→bits .andNot .i64 ((a.val:Nat):Int) (Yle k.val)=((a.val:Nat):Int) - U0 k.val):=by decide +kernel
theorem Rp:∀ a:Fin 256,(bits .and .i64 ((a.val:Nat):Int) 192=128 ↔ V3 ((a.val:Nat):Int)=true)∧(V3 ((a.val:Nat):Int)=true→bits .and .i64 ((a.val:Nat):Int) 63=((a.val:Nat):Int) - 128):=by decide +kernel
theorem Yf1 {k:Nat} (hk:k < 4) {a:Int} (h0:0≤a) (h1:a < 256):(bits .and .i64 a (Yle k)=U0 k ↔ Xr k a)∧(Xr k a→bits .andNot .i64 a (Yle k)=a - U0 k):=by
 obtain ⟨n,rfl⟩:=Int.eq_ofNat_of_zero_le h0
 exact Rt ⟨k,hk⟩ ⟨n,by omega⟩
theorem Dq {a:Int} (h0:0≤a) (h1:a < 256):(bits .and .i64 a 192=128 ↔ V3 a=true)∧(V3 a=true→bits .and .i64 a 63=a - 128):=by
 obtain ⟨n,rfl⟩:=Int.eq_ofNat_of_zero_le h0
 exact Rp ⟨n,by omega⟩
theorem F7 (a:Nat) (ha:a < 9223372036854775808):(BitVec.ofInt 64 (a:Int)).toNat=a:=by
 rw [BitVec.ofInt_natCast,BitVec.toNat_ofNat];exact Nat.mod_eq_of_lt (by omega)
theorem Zk9 {c d:Int} (h0:0≤c) (h1:c < 134217728) (h2:0≤d) (h3:d < 64):bits .or .i64 (c*64) d=c*64+d:=by
 obtain ⟨a,rfl⟩:=Int.eq_ofNat_of_zero_le h0
 obtain ⟨b,rfl⟩:=Int.eq_ofNat_of_zero_le h2
 have e:((a:Int)*64)=((a*64:Nat):Int):=by omega
 rw [e]
 show IntKind.i64.wrap ((BitVec.ofInt 64 ((a*64:Nat):Int) ||| BitVec.ofInt 64 (b:Int)).toNat:Int)=_
 have h:=Nat.shiftLeft_add_eq_or_of_lt (b:=b) (i:=6) (by omega) a
 rw [BitVec.toNat_or,F7 _ (by omega),F7 b (by omega),show a*64=a <<< 6 from by rw [Nat.shiftLeft_eq],← h,IntKind.wrap_i64,Nat.shiftLeft_eq]
 omega
theorem Yce {k:Nat} {l:List UInt8} {p:Int × Int} (hk:k < 4) (h:D9 k l=some p):p.2=(k:Int)+1∧k+1≤l.length∧0≤p.1∧Qn k p.1:=by
 unfold D9 at h
 split at h
 · rename_i hc
   obtain ⟨h1,h2,h3,h4⟩:=hc
   injection h with h
   subst h
   have hls:=Zko h2
   exact ⟨rfl,by omega,(Lt hls.1 hls.2 (by omega) h3).1,h4⟩
 · cases h
theorem Tn (l : List UInt8) : (Da l 4 ∧ dec l=(0,0))∨∃ k,k < 4∧Da l k∧D9 k l=some (dec l):=by
 cases h0:D9 0 l with
 | some p=>exact .inr ⟨0,by omega,fun j hj=>by omega,by rw [Ez (k:=0) (by omega) (fun j hj=>by omega) h0,h0]⟩
 | none =>
   have n1 : Da l 1 := fun j hj => by obtain rfl:j=0:=by omega
                                      exact h0
   cases h1:D9 1 l with
   | some p=>exact .inr ⟨1,by omega,n1,by rw [Ez (k:=1) (by omega) n1 h1,h1]⟩
   | none =>
     have n2:=Je n1 h1
     cases h2:D9 2 l with
     | some p=>exact .inr ⟨2,by omega,n2,by rw [Ez (k:=2) (by omega) n2 h2,h2]⟩
     | none =>
       have n3:=Je n2 h2
       cases h3:D9 3 l with
       | some p=>exact .inr ⟨3,by omega,n3,by rw [Ez (k:=3) (by omega) n3 h3,h3]⟩
       | none=>exact .inl ⟨Je n3 h3,Dg (Je n3 h3)⟩
theorem Bg (l:List UInt8):0≤(dec l).2∧(dec l).2≤4∧(dec l).2≤l.length∧0≤(dec l).1∧(dec l).1≤1114111∧X3 (dec l).1=false:=by
 rcases Tn l with ⟨_,h⟩|⟨k,hk,_,h⟩
 · rw [h];simp [X3]
 · obtain ⟨h1,h2,h3,h4⟩:=Yce hk h
   unfold Qn at h4
   exact ⟨by omega,by omega,by omega,h3,h4.2.1,h4.2.2⟩
def Op:Nat→List UInt8→Option (List Int)
 | _,[]=>some []
 | 0,_ :: _=>none
 | n+1,b :: t=>if (dec (b :: t)).2=0 then none else (Op n ((b :: t).drop (dec (b :: t)).2.toNat)).map ((dec (b :: t)).1 :: ·)
def Jc (l:List UInt8):Option (List Int):=Op l.length l
theorem Rf:∀ (n m:Nat) (l:List UInt8),l.length≤n→l.length≤m→Op n l=Op m l:=by
 intro n
 induction n with
 | zero =>
   intro m l h _
   have:l=[]:=List.eq_nil_of_length_eq_zero (by omega)
   subst this
   cases m<;>rfl
 | succ n ih =>
   intro m l hn hm
   cases l with
   | nil=>cases m<;>rfl
   | cons b t =>
     cases m with
     | zero=>simp at hm
     | succ m =>
       have hb:=Bg (b :: t)
       simp only [Op]
       split
       · rfl
       · rename_i h0
         rw [ih m _ (by simp only [List.length_drop,List.length_cons] at *;omega) (by simp only [List.length_drop,List.length_cons] at *;omega)]
theorem F8:Jc []=some []:=rfl
theorem Lz {l:List UInt8} (h:l ≠ []) (h0:(dec l).2=0):Jc l=none:=by
 cases l with
 | nil=>exact absurd rfl h
 | cons b t=>simp only [Jc,List.length_cons,Op,if_pos h0]
theorem Ux {l:List UInt8} (h:l ≠ []) (h0:(dec l).2 ≠ 0):Jc l=(Jc (l.drop (dec l).2.toNat)).map ((dec l).1 :: ·):=by
 cases l with
 | nil=>exact absurd rfl h
 | cons b t =>
   have hb:=Bg (b :: t)
   show Op (t.length+1) (b :: t)=_
   simp only [Op,if_neg h0]
   rw [Rf t.length ((b :: t).drop (dec (b :: t)).2.toNat).length _ (by simp only [List.length_drop,List.length_cons] at *;omega) (Nat.le_refl _)]
   rfl
def F0 (p:Int→Bool) (l:List UInt8):Bool:=
 match Jc l with
 | some cs=>cs.all p
 | none=>false
theorem Yad {p:Int→Bool} {l:List UInt8} (h:l ≠ []) (h0:(dec l).2=0):F0 p l=false:=by simp [F0,Lz h h0]
theorem Oh {p:Int→Bool} {l:List UInt8} (h:l ≠ []) (h0:(dec l).2 ≠ 0):F0 p l=(p (dec l).1 && F0 p (l.drop (dec l).2.toNat)):=by
 unfold F0
 rw [Ux h h0]
 cases Jc (l.drop (dec l).2.toNat) with
 | none=>simp
 | some cs=>simp
def Ybz (c:Int):Bool:=decide (c=9∨c=10∨c=13∨(32≤c∧c < 65536))
def Zi (l:List UInt8):Bool:=F0 (fun _=>true) l
def Yz (l:List UInt8):Bool:=F0 Ybz l
theorem Jd (l:List UInt8):Zi l=(Jc l).isSome:=by
 unfold Zi F0
 cases Jc l<;>simp
def Xt:List Int→Option (List Int)
 | []=>some []
 | [c]=>if c < 0∨65536≤c∨X3 c=true then none else some [c]
 | c :: d :: t=>if c < 0∨65536≤c then none else if X3 c=true then (if Ct c d=true then (Xt t).map ((65536+1024*(c - 55296)+d - 56320) :: ·) else none) else (Xt (d :: t)).map (c :: ·)
def Yf (cs:List Int):List UInt8:=cs.flatMap Lib.encodeRune
def Vq (l:List Int):Option (List UInt8):=(Xt l).map Yf
def Gp (c:Int):List Int:=if c < 65536 then [c] else [55296+(c - 65536) / 1024,56320+(c - 65536) % 1024]
def Aj (cs:List Int):List Int:=cs.flatMap Gp
def okB (c:Int):Bool:=decide (0≤c∧c≤1114111∧X3 c=false)
theorem Ne {c:Int} {t:List Int} (h0 : ¬ c < 0) (h1 : ¬ 65536≤c) (h2:X3 c=false):Xt (c :: t)=(Xt t).map (c :: ·):=by
 cases t with
 | nil=>simp [Xt,h0,h1,h2]
 | cons d t=>simp [Xt,h0,h1,h2]
theorem Nf {c d:Int} {t:List Int} (h0 : ¬ c < 0) (h1 : ¬ 65536≤c) (h2:X3 c=true) (h3:Ct c d=true):Xt (c :: d :: t)=(Xt t).map ((65536+1024*(c - 55296)+d - 56320) :: ·):=by
 simp [Xt,h0,h1,h2,h3]
theorem U9 {c:Int} {t:List Int} (h:c < 0∨65536≤c):Xt (c :: t)=none:=by
 cases t with
 | nil=>simp only [Xt];rw [if_pos (by rcases h with h|h;exact .inl h;exact .inr (.inl h))]
 | cons d t=>simp only [Xt];rw [if_pos h]
theorem Ex {c:Int} (h:X3 c=true):Xt [c]=none:=by
 simp [Xt,h]
theorem F9 {c d:Int} {t:List Int} (h2:X3 c=true) (h3:Ct c d=false):Xt (c :: d :: t)=none:=by
 simp [Xt,h2,h3]
theorem Lr : ∀ (n:Nat) (l cs:List Int),l.length≤n→Xt l=some cs→Aj cs=l∧cs.all okB=true:=by
 intro n
 induction n with
 | zero =>
   intro l cs hl h
   have:l=[]:=List.eq_nil_of_length_eq_zero (by omega)
   subst this
   simp only [Xt,Option.some.injEq] at h
   subst h
   exact ⟨rfl,rfl⟩
 | succ n ih =>
   intro l cs hl h
   cases l with
   | nil =>
     simp only [Xt,Option.some.injEq] at h
     subst h
     exact ⟨rfl,rfl⟩
   | cons c t =>
     by_cases hr:c < 0∨65536≤c
     · rw [U9 hr] at h;cases h
     · cases hh : X3 c
       · rw [Ne (by omega) (by omega) hh] at h
         obtain ⟨cs',h',rfl⟩:=Option.map_eq_some_iff.1 h
         obtain ⟨a,b⟩:=ih t cs' (by simp at hl;omega) h'
         refine ⟨?_,?_⟩
         · have:Gp c=[c]:=by unfold Gp;rw [if_pos (by omega)]
           show Gp c++Aj cs'=_
           rw [this,a];rfl
         · rw [List.all_cons,b,Bool.and_true]
           simp [okB,hh];omega
       · cases t with
         | nil=>rw [Ex hh] at h;cases h
         | cons d t =>
           cases hp:Ct c d
           · rw [F9 hh hp] at h;cases h
           · rw [Nf (by omega) (by omega) hh hp] at h
             obtain ⟨cs',h',rfl⟩:=Option.map_eq_some_iff.1 h
             obtain ⟨a,b⟩:=ih t cs' (by simp at hl;omega) h'
             have hp':55296≤c∧c < 56320∧56320≤d∧d≤57343:=by simpa [Ct] using hp
             refine ⟨?_,?_⟩
             · have:Gp (65536+1024*(c - 55296)+d - 56320)=[c,d]:=by
                unfold Gp
                rw [if_neg (by omega)]
                congr 1
                · omega
                · congr 1;omega
               show Gp _++Aj cs'=_
               rw [this,a];rfl
             · rw [List.all_cons,b,Bool.and_true]
               simp [okB,X3];omega
theorem Ut (b:UInt8) (t:List UInt8):byt (b :: t) 0=(b.toNat:Int):=rfl
theorem Fx (b:UInt8) (t:List UInt8) (k:Nat):byt (b :: t) (k+1)=byt t k:=rfl
theorem Yt {x:Int} (h0:0≤x) (h1:x < 256):((x.toNat.toUInt8).toNat:Int)=x:=by
 obtain ⟨n,rfl⟩:=Int.eq_ofNat_of_zero_le h0
 simp [Nat.toUInt8,UInt8.toNat_ofNat']
 omega
theorem Sg {j k:Nat} {a:Int} (hj:j < 4) (hk:k < 4) (h1:Xr j a) (h2:Xr k a):j=k:=by
 unfold Xr at h1 h2
 match j,hj,k,hk with
 | 0,_,0,_|1,_,1,_|2,_,2,_|3,_,3,_=>rfl
 | 0,_,1,_|0,_,2,_|0,_,3,_|1,_,0,_|1,_,2,_|1,_,3,_|2,_,0,_|2,_,1,_|2,_,3,_|3,_,0,_|3,_,1,_|3,_,2,_ =>
   simp only [U0,Aw] at h1 h2;omega
theorem Ck {l:List UInt8} {k:Nat} {c:Int} (hk:k < 4) (h1:k < l.length) (h2:Xr k (byt l 0)) (h3:Xy l (k+1)=true) (ha:acc l (byt l 0 - U0 k) (k+1)=c) (h4:Qn k c):dec l=(c,(k:Int)+1):=by
 subst ha
 exact Ez hk (fun j hj=>Gh (fun h=>by have:=Sg (by omega) hk h h2;omega)) (Zjq h1 h2 h3 h4)
theorem Fc {b:Int} (h0:128≤b) (h1:b≤191):V3 b=true:=by simp [V3,h0,h1]
theorem Zx9 {c:Int} (h:okB c=true) (t:List UInt8):dec (Lib.encodeRune c++t)=(c,((Lib.encodeRune c).length:Int)):=by
 have hok:0≤c∧c≤1114111∧X3 c=false:=by simpa [okB] using h
 obtain ⟨h0,h1,h2⟩:=hok
 have hh : ¬ (55296≤c∧c≤57343):=by simpa [X3] using h2
 by_cases a1:c≤127
 · have e:Lib.encodeRune c=[c.toNat.toUInt8]:=by simp [Lib.encodeRune,Lib.encodeRuneZ_one h0 a1]
   rw [e]
   have b0:byt ([c.toNat.toUInt8]++t) 0=c:=Yt h0 (by omega)
   have hl:1≤([c.toNat.toUInt8]++t).length:=by simp
   generalize [c.toNat.toUInt8]++t=l at *
   exact Ck (k:=0) (by omega) (by omega) (by rw [b0];simp only [Xr,U0,Aw];omega) rfl (by rw [b0];simp [acc,U0]) ⟨h0,h1,h2⟩
 by_cases a2:c≤2047
 · have e:Lib.encodeRune c=[(192+c / 64).toNat.toUInt8,(128+c % 64).toNat.toUInt8]:=by simp [Lib.encodeRune,Lib.encodeRuneZ_two (by omega) a2]
   rw [e]
   generalize hx:(192+c / 64).toNat.toUInt8=x
   generalize hy:(128+c % 64).toNat.toUInt8=y
   have b0:byt ([x,y]++t) 0=192+c / 64:=by rw [← hx];exact Yt (by omega) (by omega)
   have b1:byt ([x,y]++t) 1=128+c % 64:=by rw [← hy];exact Yt (by omega) (by omega)
   have hl:2≤([x,y]++t).length:=by simp
   generalize [x,y]++t=l at *
   refine Ck (k:=1) (by omega) (by omega) (by rw [b0];simp only [Xr,U0,Aw];omega) ?_ ?_ ⟨by simp only [Lp];omega,h1,h2⟩
   · simp only [Xy,b1,Bool.true_and];exact Fc (by omega) (by omega)
   · simp only [acc,b0,b1,U0];omega
 by_cases a3:c≤65535
 · have e:Lib.encodeRune c=[(224+c / 4096).toNat.toUInt8,(128+c / 64 % 64).toNat.toUInt8,(128+c % 64).toNat.toUInt8]:=by simp [Lib.encodeRune,Lib.encodeRuneZ_three (show (2048≤c∧c < 55296)∨(57343 < c∧c≤65535) by omega)]
   rw [e]
   generalize hx:(224+c / 4096).toNat.toUInt8=x
   generalize hy:(128+c / 64 % 64).toNat.toUInt8=y
   generalize hz:(128+c % 64).toNat.toUInt8=z
   have b0:byt ([x,y,z]++t) 0=224+c / 4096:=by rw [← hx];exact Yt (by omega) (by omega)
   have b1:byt ([x,y,z]++t) 1=128+c / 64 % 64:=by rw [← hy];exact Yt (by omega) (by omega)
   have b2:byt ([x,y,z]++t) 2=128+c % 64:=by rw [← hz];exact Yt (by omega) (by omega)
   have hl:3≤([x,y,z]++t).length:=by simp
   generalize [x,y,z]++t=l at *
   refine Ck (k:=2) (by omega) (by omega) (by rw [b0];simp only [Xr,U0,Aw];omega) ?_ ?_ ⟨by simp only [Lp];omega,h1,h2⟩
   · simp only [Xy,b1,b2,Bool.true_and];rw [Fc (by omega) (by omega),Fc (by omega) (by omega)];rfl
   · simp only [acc,b0,b1,b2,U0];omega
 · have e:Lib.encodeRune c=[(240+c / 262144).toNat.toUInt8,(128+c / 4096 % 64).toNat.toUInt8,(128+c / 64 % 64).toNat.toUInt8,(128+c % 64).toNat.toUInt8]:=by simp [Lib.encodeRune,Lib.encodeRuneZ_four (show 65536≤c by omega) h1]
   rw [e]
   generalize hx:(240+c / 262144).toNat.toUInt8=x
   generalize hy:(128+c / 4096 % 64).toNat.toUInt8=y
   generalize hz:(128+c / 64 % 64).toNat.toUInt8=z
   generalize hu:(128+c % 64).toNat.toUInt8=u
   have b0:byt ([x,y,z,u]++t) 0=240+c / 262144:=by rw [← hx];exact Yt (by omega) (by omega)
   have b1:byt ([x,y,z,u]++t) 1=128+c / 4096 % 64:=by rw [← hy];exact Yt (by omega) (by omega)
   have b2:byt ([x,y,z,u]++t) 2=128+c / 64 % 64:=by rw [← hz];exact Yt (by omega) (by omega)
   have b3:byt ([x,y,z,u]++t) 3=128+c % 64:=by rw [← hu];exact Yt (by omega) (by omega)
   have hl:4≤([x,y,z,u]++t).length:=by simp
   generalize [x,y,z,u]++t=l at *
   refine Ck (k:=3) (by omega) (by omega) (by rw [b0];simp only [Xr,U0,Aw];omega) ?_ ?_ ⟨by simp only [Lp];omega,h1,h2⟩
   · simp only [Xy,b1,b2,b3,Bool.true_and];rw [Fc (by omega) (by omega),Fc (by omega) (by omega),Fc (by omega) (by omega)];rfl
   · simp only [acc,b0,b1,b2,b3,U0];omega
theorem Mq {b:UInt8} {x:Int} (h:(b.toNat:Int)=x):x.toNat.toUInt8=b:=by
 subst h;simp
theorem Pc {l:List UInt8} (h:(dec l).2 ≠ 0):Lib.encodeRune (dec l).1=l.take (dec l).2.toNat:=by
 rcases Tn l with ⟨_,h'⟩|⟨k,hk,_,h'⟩
 · rw [h'] at h;exact absurd rfl h
 · obtain ⟨e2,hlen,h0,hf⟩:=Yce hk h'
   have hp:=h'
   unfold D9 at hp
   split at hp
   · rename_i hc
     obtain ⟨_,hL,hC,_⟩:=hc
     injection hp with hp
     have e1:(dec l).1=acc l (byt l 0 - U0 k) (k+1):=by rw [← hp]
     rw [e2,show ((k:Int)+1).toNat=k+1 from by omega]
     unfold Qn at hf
     generalize (dec l).1=c at *
     clear h h' hp e2
     have hh : ¬ (55296≤c∧c≤57343):=by simpa [X3] using hf.2.2
     have hcb:∀ b:Int,V3 b=true→128≤b∧b≤191:=fun b hb=>by simpa [V3] using hb
     match k,hk with
     | 0,_ =>
       match l,hlen with
       | x :: t,_ =>
         simp only [acc,Ut,U0,Xr,Aw] at e1 hL
         rw [Lib.encodeRune,Lib.encodeRuneZ_one h0 (by omega)]
         simp only [List.map,List.take_succ_cons,List.take_zero]
         rw [Mq (b:=x) (by omega)]
     | 1,_ =>
       match l,hlen with
       | x :: y :: t,_ =>
         simp only [acc,Ut,Fx,U0,Xr,Aw,Xy,Bool.true_and] at e1 hL hC
         have c1:=hcb _ hC
         simp only [Lp] at hf
         rw [Lib.encodeRune,Lib.encodeRuneZ_two (by omega) (by omega)]
         simp only [List.map,List.take_succ_cons,List.take_zero]
         rw [Mq (b:=x) (by omega),Mq (b:=y) (by omega)]
     | 2,_ =>
       match l,hlen with
       | x :: y :: z :: t,_ =>
         simp only [acc,Ut,Fx,U0,Xr,Aw,Xy,Bool.true_and,Bool.and_eq_true] at e1 hL hC
         have c1:=hcb _ hC.1
         have c2:=hcb _ hC.2
         simp only [Lp] at hf
         rw [Lib.encodeRune,Lib.encodeRuneZ_three (by omega)]
         simp only [List.map,List.take_succ_cons,List.take_zero]
         rw [Mq (b:=x) (by omega),Mq (b:=y) (by omega),Mq (b:=z) (by omega)]
     | 3,_ =>
       match l,hlen with
       | x :: y :: z :: u :: t,_ =>
         simp only [acc,Ut,Fx,U0,Xr,Aw,Xy,Bool.true_and,Bool.and_eq_true] at e1 hL hC
         have c1:=hcb _ hC.1.1
         have c2:=hcb _ hC.1.2
         have c3:=hcb _ hC.2
         simp only [Lp] at hf
         rw [Lib.encodeRune,Lib.encodeRuneZ_four (by omega) (by omega)]
         simp only [List.map,List.take_succ_cons,List.take_zero]
         rw [Mq (b:=x) (by omega),Mq (b:=y) (by omega),Mq (b:=z) (by omega),Mq (b:=u) (by omega)]
   · cases hp
theorem Ya7 (c:Int):Lib.encodeRune c ≠ []:=by
 have:=(Lib.encodeRuneZ_length c).1
 intro e
 have h:=congrArg List.length e
 simp [Lib.encodeRune] at h
 rw [h] at this
 simp at this
theorem Bf:∀ (cs:List Int) (t:List UInt8),cs.all okB=true→Jc (Yf cs++t)=(Jc t).map (cs ++ ·):=by
 intro cs
 induction cs with
 | nil=>intro t _;show Jc t=_;cases Jc t<;>rfl
 | cons c cs ih =>
   intro t h
   rw [List.all_cons,Bool.and_eq_true] at h
   have e:Yf (c :: cs)++t=Lib.encodeRune c++(Yf cs++t):=by simp [Yf]
   have hd:=Zx9 h.1 (Yf cs++t)
   have hne:=Ya7 c
   have hpos:0 < (Lib.encodeRune c).length:=List.length_pos_iff.2 hne
   rw [e,Ux (by simp [hne]) (by rw [hd];show ((Lib.encodeRune c).length:Int) ≠ 0;omega),hd]
   show Option.map _ (Jc (List.drop (((Lib.encodeRune c).length:Int)).toNat _))=_
   rw [show (((Lib.encodeRune c).length:Int)).toNat=(Lib.encodeRune c).length from by omega,List.drop_left,ih t h.2]
   cases Jc t<;>rfl
theorem C4:∀ (n:Nat) (l:List UInt8) (cs:List Int),l.length≤n→Jc l=some cs→Yf cs=l∧cs.all okB=true:=by
 intro n
 induction n with
 | zero =>
   intro l cs hl h
   have:l=[]:=List.eq_nil_of_length_eq_zero (by omega)
   subst this
   rw [F8,Option.some.injEq] at h
   subst h
   exact ⟨rfl,rfl⟩
 | succ n ih =>
   intro l cs hl h
   by_cases hn:l=[]
   · subst hn
     rw [F8,Option.some.injEq] at h
     subst h
     exact ⟨rfl,rfl⟩
   · by_cases h0:(dec l).2=0
     · rw [Lz hn h0] at h;cases h
     · rw [Ux hn h0] at h
       obtain ⟨cs',h',rfl⟩:=Option.map_eq_some_iff.1 h
       have hb:=Bg l
       obtain ⟨a,b⟩:=ih _ cs' (by rw [List.length_drop];omega) h'
       refine ⟨?_,?_⟩
       · show Lib.encodeRune (dec l).1++Yf cs'=l
         rw [Pc h0,a,List.take_append_drop]
       · rw [List.all_cons,b,Bool.and_true]
         simp [okB,hb.2.2.2.2.2];omega
theorem Ty {l:List UInt8} {cs:List Int} (h:Jc l=some cs) (t:List UInt8):Jc (l++t)=(Jc t).map (cs ++ ·):=by
 obtain ⟨a,b⟩:=C4 _ l cs (Nat.le_refl _) h
 conv=>lhs;rw [← a]
 exact Bf cs t b
end Go.Proofs.YtpkmbhnikilihaaGreatDoor
