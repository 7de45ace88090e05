/- The texts of types, as plain lists of bytes: which type may be, how it is printed, how the landed reader and the document's own read it. -/
import Derived.Test.YtkmloefbkgcbkaaGreatDoorSr2
import Derived.Deep.DeepCutAuto
import Derived.Laws.BitsAllLaws
import Derived.Laws.BitsLemmas
import Derived.Shelf.Small.Wraps
set_option maxRecDepth 100000
set_option maxHeartbeats 4000000
namespace Go.Proofs.YtkmloefbkgcbkaaGreatDoor
def Yj (n:List UInt8) (l m:Int):Bool:=Jv n && (decide (0≤l) && (decide (l≤4) && (decide (0≤m) && decide (m < 2 ^ (l.toNat+1)))))
open Go.RowKit
theorem Y5 {w:World} {cs:Array Value} {t:TypeId} : Below w.heap.size w (w.alloc (.cells cs t)):=(Below.refl _ _).alloc (Nat.le_refl _) _
theorem Lx {B:Nat} {a w:World} (h:Below B a w) (n:Nat):Below B a (w.drewN n):=⟨h.os,h.tape,h.output,h.size,h.block⟩
theorem Iu {a b:Bool} (h:a=b):Ending.returned (.bool a)=.returned (.bool b):=by rw [h]
theorem Zyf {n:List UInt8} {l m:Int} (h:Yj n l m=true):Jv n=true∧0≤l∧l≤4∧0≤m∧m < 2 ^ (l.toNat+1):=by
 simpa [Yj] using h
theorem Zjv {n:List UInt8} {l m:Int} (h:Yj n l m=true):0≤l∧l≤4∧0≤m∧m < 32:=by
 obtain ⟨_,h1,h2,h3,h4⟩:=Zyf h;refine ⟨h1,h2,h3,?_⟩;have:l=0∨l=1∨l=2∨l=3∨l=4:=by omega
 rcases this with rfl|rfl|rfl|rfl|rfl<;>simp at h4<;>omega
theorem El {n:List UInt8} {l m:Int} (hn:Jv n=true) (h1:0≤l) (h2:l≤4) (h3:0≤m) (h4:m < 2 ^ (l.toNat+1)):Yj n l m=true:=by
 simp [Yj,hn,h1,h2,h3,h4]
theorem Yqo {l:Int} (h0:0≤l) (h4:l≤4):l=0∨l=1∨l=2∨l=3∨l=4:=by omega
theorem P8 (n:ByteArray) (l m:Int) (w:World) (hn:n.size≤9000):Calls Tryz.prog 159 #[.agg #[.string n,.int .i64 l,.int .i64 m]] w fun e w'=>e=.returned (.bool (Yj n.data.toList l m))∧Below w.heap.size w w':=by
 have HN:=fun w=>Hd (Dp n w (by omega));have HB:=Hd (Y5 (w:=w) (cs:=#[.string n,.int .i64 l,.int .i64 m]) (t:=70))
 cases hb:Jv n.data.toList
 · have hr:Hid (Yj n.data.toList l m=false):=Hd (by simp [Yj,hb])
   rw [hb] at HN;clear hb
   go_enter Tryz.func159,Tryz.ntmps159
   go_wp2
   go_quiet (exact (HN _).out.mono fun _ _ h=>⟨h.1,_,h.2.symm⟩)
   go_wp2
   go_ret
   exact ⟨Iu hr.out.symm,Lx HB.out _⟩
 · rw [hb] at HN
   have hb':=Hd hb;clear hb
   by_cases h1:0≤l
   · by_cases h2:l≤4
     · by_cases h3:0≤m
       · have t1:decide ((0:Int)≤m)=true:=by simpa using h3
         rcases Yqo h1 h2 with rfl|rfl|rfl|rfl|rfl
         · by_cases h4:m < 2
           · have hr:Hid (Yj n.data.toList 0 m=true):=Hd (El hb'.out (by omega) (by omega) h3 (by simpa using h4))
             have t2:decide (m < 2)=true:=by simpa using h4
             go_enter Tryz.func159,Tryz.ntmps159
             go_wp2
             go_quiet (exact (HN _).out.mono fun _ _ h=>⟨h.1,_,h.2.symm⟩)
             go_wp2
             go_ret
             exact ⟨Iu hr.out.symm,Lx HB.out _⟩
           · have hr:Hid (Yj n.data.toList 0 m=false):=Hd (by simp [Yj];intro _ _;simp at h4;omega)
             have t2:decide (m < 2)=false:=by simpa using h4
             go_enter Tryz.func159,Tryz.ntmps159
             go_wp2
             go_quiet (exact (HN _).out.mono fun _ _ h=>⟨h.1,_,h.2.symm⟩)
             go_wp2
             go_ret
             exact ⟨Iu hr.out.symm,Lx HB.out _⟩
         · by_cases h4:m < 4
           · have hr:Hid (Yj n.data.toList 1 m=true):=Hd (El hb'.out (by omega) (by omega) h3 (by simpa using h4))
             have t2:decide (m < 4)=true:=by simpa using h4
             go_enter Tryz.func159,Tryz.ntmps159
             go_wp2
             go_quiet (exact (HN _).out.mono fun _ _ h=>⟨h.1,_,h.2.symm⟩)
             go_wp2
             go_ret
             exact ⟨Iu hr.out.symm,Lx HB.out _⟩
           · have hr:Hid (Yj n.data.toList 1 m=false):=Hd (by simp [Yj];intro _ _;simp at h4;omega)
             have t2:decide (m < 4)=false:=by simpa using h4
             go_enter Tryz.func159,Tryz.ntmps159
             go_wp2
             go_quiet (exact (HN _).out.mono fun _ _ h=>⟨h.1,_,h.2.symm⟩)
             go_wp2
             go_ret
             exact ⟨Iu hr.out.symm,Lx HB.out _⟩
         · by_cases h4:m < 8
           · have hr:Hid (Yj n.data.toList 2 m=true):=Hd (El hb'.out (by omega) (by omega) h3 (by simpa using h4))
             have t2:decide (m < 8)=true:=by simpa using h4
             go_enter Tryz.func159,Tryz.ntmps159
             go_wp2
             go_quiet (exact (HN _).out.mono fun _ _ h=>⟨h.1,_,h.2.symm⟩)
             go_wp2
             go_ret
             exact ⟨Iu hr.out.symm,Lx HB.out _⟩
           · have hr:Hid (Yj n.data.toList 2 m=false):=Hd (by simp [Yj];intro _ _;simp at h4;omega)
             have t2:decide (m < 8)=false:=by simpa using h4
             go_enter Tryz.func159,Tryz.ntmps159
             go_wp2
             go_quiet (exact (HN _).out.mono fun _ _ h=>⟨h.1,_,h.2.symm⟩)
             go_wp2
             go_ret
             exact ⟨Iu hr.out.symm,Lx HB.out _⟩
         · by_cases h4:m < 16
           · have hr:Hid (Yj n.data.toList 3 m=true):=Hd (El hb'.out (by omega) (by omega) h3 (by simpa using h4))
             have t2:decide (m < 16)=true:=by simpa using h4
             go_enter Tryz.func159,Tryz.ntmps159
             go_wp2
             go_quiet (exact (HN _).out.mono fun _ _ h=>⟨h.1,_,h.2.symm⟩)
             go_wp2
             go_ret
             exact ⟨Iu hr.out.symm,Lx HB.out _⟩
           · have hr:Hid (Yj n.data.toList 3 m=false):=Hd (by simp [Yj];intro _ _;simp at h4;omega)
             have t2:decide (m < 16)=false:=by simpa using h4
             go_enter Tryz.func159,Tryz.ntmps159
             go_wp2
             go_quiet (exact (HN _).out.mono fun _ _ h=>⟨h.1,_,h.2.symm⟩)
             go_wp2
             go_ret
             exact ⟨Iu hr.out.symm,Lx HB.out _⟩
         · by_cases h4:m < 32
           · have hr:Hid (Yj n.data.toList 4 m=true):=Hd (El hb'.out (by omega) (by omega) h3 (by simpa using h4))
             have t2:decide (m < 32)=true:=by simpa using h4
             go_enter Tryz.func159,Tryz.ntmps159
             go_wp2
             go_quiet (exact (HN _).out.mono fun _ _ h=>⟨h.1,_,h.2.symm⟩)
             go_wp2
             go_ret
             exact ⟨Iu hr.out.symm,Lx HB.out _⟩
           · have hr:Hid (Yj n.data.toList 4 m=false):=Hd (by simp [Yj];intro _ _;simp at h4;omega)
             have t2:decide (m < 32)=false:=by simpa using h4
             go_enter Tryz.func159,Tryz.ntmps159
             go_wp2
             go_quiet (exact (HN _).out.mono fun _ _ h=>⟨h.1,_,h.2.symm⟩)
             go_wp2
             go_ret
             exact ⟨Iu hr.out.symm,Lx HB.out _⟩
       · have hr:Hid (Yj n.data.toList l m=false):=Hd (by simp [Yj];omega)
         have t1:decide ((0:Int)≤m)=false:=by simpa using h3
         go_enter Tryz.func159,Tryz.ntmps159
         go_wp2
         go_quiet (exact (HN _).out.mono fun _ _ h=>⟨h.1,_,h.2.symm⟩)
         go_wp2
         go_ret
         exact ⟨Iu hr.out.symm,Lx HB.out _⟩
     · have hr:Hid (Yj n.data.toList l m=false):=Hd (by simp [Yj];omega)
       have t1:decide (l≤(4:Int))=false:=by simpa using h2
       go_enter Tryz.func159,Tryz.ntmps159
       go_wp2
       go_quiet (exact (HN _).out.mono fun _ _ h=>⟨h.1,_,h.2.symm⟩)
       go_wp2
       go_ret
       exact ⟨Iu hr.out.symm,Lx HB.out _⟩
   · have hr:Hid (Yj n.data.toList l m=false):=Hd (by simp [Yj];omega)
     have t1:decide ((0:Int)≤l)=false:=by simpa using h1
     go_enter Tryz.func159,Tryz.ntmps159
     go_wp2
     go_quiet (exact (HN _).out.mono fun _ _ h=>⟨h.1,_,h.2.symm⟩)
     go_wp2
     go_ret
     exact ⟨Iu hr.out.symm,Lx HB.out _⟩
theorem blw (w:World) (o:Obj):Below w.heap.size w (w.alloc o):=(Below.refl _ _).alloc (Nat.le_refl _) _
theorem Zy {w:World} {b:Nat} {x y z:Value} (h:w.heap[b]? = some (.cells #[x,y,z] 70 (0,0))):w.cell? ⟨b,0,none⟩=some x∧w.cell? ⟨b,1,none⟩=some y∧w.cell? ⟨b,2,none⟩=some z∧w.frozen? ⟨b,0,none⟩=false∧w.frozen? ⟨b,1,none⟩=false∧w.frozen? ⟨b,2,none⟩=false:=by
 simp [World.cell?,World.frozen?,h]
theorem Db {w:World} {b:Nat} {x y z x' y' z':Value} (h:w.heap[b]? = some (.cells #[x,y,z] 70 (0,0))):(((w.setCell ⟨b,0,none⟩ x').setCell ⟨b,1,none⟩ y').setCell ⟨b,2,none⟩ z').heap[b]? = some (.cells #[x',y',z'] 70 (0,0)):=by
 simp [World.setCell,Array.getElem?_modify,h]
theorem Xz {w:World} {b c:Nat} {j:Nat} {v:Value} {o:Obj} (h:w.heap[b]? = some o) (hne:c ≠ b):(w.setCell ⟨c,j,none⟩ v).heap[b]? = some o:=by
 simp [World.setCell,Array.getElem?_modify,h,hne]
theorem Ycr {R:Ending→World→Prop} {fn:Func} {a:Act} {W:World} {x y z:Value} {b:Nat} (hf:fn.results=#[.cell 2 70,.tmp 3]) (h2:a.tmps.getD 2 undef=.pointer (some ⟨b,0,none⟩)) (hd:a.defers=[])
  (hc:W.heap[b]? = some (.cells #[x,y,z] 70 (0,0))) (hR:R (.returned (.tuple #[.agg #[x,y,z],a.tmps.getD 3 undef])) W):bodyPost Tryz.prog fn R .ret a W:=by
 have hl:(loadVar 70 ⟨b,0,none⟩).run Tryz.prog W=.ok (.agg #[x,y,z]) W:=
  run_loadVar_row W b 70 70 #[x,y,z] (0,0) _ hc Tryz.underlying70 rfl (by kernel_rfl)
 refine bodyPost_ret ?_ hd hR;have h2':a.tmps[2]?.getD undef=.pointer (some ⟨b,0,none⟩):=by rw [← h2];simp
 simp [results,hf,h2',asAddr,hl]
theorem Yff {R:Ending→World→Prop} {fn:Func} {a:Act} {W:World} {x y z:Value} {b:Nat} (hf:fn.results=#[.cell 2 70]) (h2:a.tmps.getD 2 undef=.pointer (some ⟨b,0,none⟩)) (hd:a.defers=[])
  (hc:W.heap[b]? = some (.cells #[x,y,z] 70 (0,0))) (hR:R (.returned (.agg #[x,y,z])) W):bodyPost Tryz.prog fn R .ret a W:=by
 have hl:(loadVar 70 ⟨b,0,none⟩).run Tryz.prog W=.ok (.agg #[x,y,z]) W:=
  run_loadVar_row W b 70 70 #[x,y,z] (0,0) _ hc Tryz.underlying70 rfl (by kernel_rfl)
 refine bodyPost_ret ?_ hd hR;have h2':a.tmps[2]?.getD undef=.pointer (some ⟨b,0,none⟩):=by rw [← h2];simp
 simp [results,hf,h2',asAddr,hl]
def noT:Value:=.tuple #[.agg #[.string ⟨#[]⟩,.int .i64 0,.int .i64 0],.bool false]
def Yq6 (n:ByteArray) (l m:Int):Value:=.tuple #[.agg #[.string n,.int .i64 l,.int .i64 m],.bool true]
def Rf (n:ByteArray) (l m:Int):Value:=if Yj n.data.toList l m=true∧l ≠ 4 then Yq6 n (l+1) (m*2) else noT
theorem Ye7 (w:World) (o o':Obj):((w.alloc o).alloc o').heap[w.heap.size]? = some o∧((w.alloc o).alloc o').heap[w.heap.size+1]? = some o':=by
 have h2:=heap_alloc_last (w.alloc o) o';have e:(w.alloc o).heap.size=w.heap.size+1:=by simp
 rw [e] at h2;refine ⟨?_,h2⟩;exact ((blw (w.alloc o) o').block w.heap.size (by omega)).trans (heap_alloc_last w o)
theorem Cn {w w2:World} {x y z x' y' z':Value} (hb:Below ((w.alloc (.cells #[x,y,z] 70)).alloc (.cells #[x',y',z'] 70)).heap.size ((w.alloc (.cells #[x,y,z] 70)).alloc (.cells #[x',y',z'] 70)) w2) :
  w2.heap[w.heap.size]? = some (.cells #[x,y,z] 70 (0,0))∧w2.heap[w.heap.size+1]? = some (.cells #[x',y',z'] 70 (0,0))∧Below w.heap.size w w2:=by
 obtain ⟨h0,h1⟩:=Ye7 w (.cells #[x,y,z] 70) (.cells #[x',y',z'] 70);have e:((w.alloc (.cells #[x,y,z] 70)).alloc (.cells #[x',y',z'] 70)).heap.size=w.heap.size+1+1:=by simp
 refine ⟨(hb.block w.heap.size (by omega)).trans h0,(hb.block (w.heap.size+1) (by omega)).trans h1,Y5.trans ((Y5.mono (by simp)).trans (hb.mono (by omega)))⟩
theorem Yor {B:Nat} {w w2:World} {b:Nat} (h:Below B w w2) (hb:B≤b) (x y z:Value):Below B w (((w2.setCell ⟨b,0,none⟩ x).setCell ⟨b,1,none⟩ y).setCell ⟨b,2,none⟩ z):=((h.setCell hb _).setCell hb _).setCell hb _
def Zk1 (n:ByteArray) (l m:Int):Value:=if Yj n.data.toList l m=true then .agg #[.string n,.int .i64 l,.int .i64 (bits .or .i64 m 1)] else .agg #[.string n,.int .i64 l,.int .i64 m]
theorem Ygp (n:ByteArray) (l m:Int) (w:World) (hn:n.size≤9000):Calls Tryz.prog 141 #[.agg #[.string n,.int .i64 l,.int .i64 m]] w fun e w'=>e=.returned (Rf n l m)∧Below w.heap.size w w':=by
 have HR:=fun w=>Hd (P8 n l m w hn)
 cases hr:Yj n.data.toList l m
 · have hv:Hid (Rf n l m=noT):=Hd (by simp [Rf,hr])
   rw [hr] at HR;clear hr
   go_enter Tryz.func141,Tryz.ntmps141
   go_wp2_with fail
   refine (HR _).out.mono ?_;rintro e w2 ⟨rfl,hb2⟩;obtain ⟨b0,b1,HB⟩:=Cn hb2;obtain ⟨a0,a1,a2,g0,g1,g2⟩:=Zy b0;obtain ⟨c0,c1,c2,f0,f1,f2⟩:=Zy b1;have H0:=Hd b0;have H1:=Hd b1;have HB':=Hd HB;clear b0 b1 HB hb2 HR;go_wp2_with fail
   refine Ycr rfl rfl rfl (Db H1.out) ⟨?_,Yor HB'.out (Nat.le_succ _) _ _ _⟩;rw [hv.out]
   rfl
 · by_cases hl:l=4
   · have hv:Hid (Rf n l m=noT):=Hd (by simp [Rf,hl])
     subst hl;rw [hr] at HR;clear hr
     go_enter Tryz.func141,Tryz.ntmps141
     go_wp2_with fail
     refine (HR _).out.mono ?_;rintro e w2 ⟨rfl,hb2⟩;obtain ⟨b0,b1,HB⟩:=Cn hb2;obtain ⟨a0,a1,a2,g0,g1,g2⟩:=Zy b0;obtain ⟨c0,c1,c2,f0,f1,f2⟩:=Zy b1;have H0:=Hd b0;have H1:=Hd b1;have HB':=Hd HB;clear b0 b1 HB hb2 HR;go_wp2_with fail
     refine Ycr rfl rfl rfl (Db H1.out) ⟨?_,Yor HB'.out (Nat.le_succ _) _ _ _⟩;rw [hv.out]
     rfl
   · have hv:Hid (Rf n l m=Yq6 n (l+1) (m*2)):=Hd (by simp [Rf,hl,hr])
     obtain ⟨s1,s2,s3,s4⟩:=Zjv hr;have e0:(l == 4)=false:=by simpa using hl
     rw [hr] at HR;clear hr
     go_enter Tryz.func141,Tryz.ntmps141
     go_wp2_with fail
     refine (HR _).out.mono ?_;rintro e w2 ⟨rfl,hb2⟩;obtain ⟨b0,b1,HB⟩:=Cn hb2;obtain ⟨a0,a1,a2,g0,g1,g2⟩:=Zy b0;obtain ⟨c0,c1,c2,f0,f1,f2⟩:=Zy b1;have H0:=Hd b0;have H1:=Hd b1;have HB':=Hd HB;clear b0 b1 HB hb2 HR;go_wp2_with fail
     refine Ycr rfl rfl rfl (Db (Xz (Xz H1.out (by omega)) (by omega))) ⟨?_,Yor ((HB'.out.setCell (Nat.le_refl _) _).setCell (Nat.le_refl _) _) (Nat.le_succ _) _ _ _⟩;rw [hv.out]
     rfl
theorem Zxr (n:ByteArray) (l m:Int) (w:World) (hn:n.size≤9000):Calls Tryz.prog 142 #[.agg #[.string n,.int .i64 l,.int .i64 m]] w fun e w'=>e=.returned (Zk1 n l m)∧Below w.heap.size w w':=by
 have HR:=fun w=>Hd (P8 n l m w hn)
 cases hr:Yj n.data.toList l m
 · have hv:Hid (Zk1 n l m=.agg #[.string n,.int .i64 l,.int .i64 m]):=Hd (by simp [Zk1,hr])
   rw [hr] at HR;clear hr
   go_enter Tryz.func142,Tryz.ntmps142
   go_wp2_with fail
   refine (HR _).out.mono ?_;rintro e w2 ⟨rfl,hb2⟩;obtain ⟨b0,b1,HB⟩:=Cn hb2;obtain ⟨a0,a1,a2,g0,g1,g2⟩:=Zy b0;obtain ⟨c0,c1,c2,f0,f1,f2⟩:=Zy b1;have H0:=Hd b0;have H1:=Hd b1;have HB':=Hd HB;clear b0 b1 HB hb2 HR;go_wp2_with fail
   refine Yff rfl rfl rfl (Db H1.out) ⟨?_,Yor HB'.out (Nat.le_succ _) _ _ _⟩;rw [hv.out]
 · have hv:Hid (Zk1 n l m=.agg #[.string n,.int .i64 l,.int .i64 (bits .or .i64 m 1)]):=Hd (by simp [Zk1,hr])
   rw [hr] at HR;clear hr
   go_enter Tryz.func142,Tryz.ntmps142
   go_wp2_with fail
   refine (HR _).out.mono ?_;rintro e w2 ⟨rfl,hb2⟩;obtain ⟨b0,b1,HB⟩:=Cn hb2;obtain ⟨a0,a1,a2,g0,g1,g2⟩:=Zy b0;obtain ⟨c0,c1,c2,f0,f1,f2⟩:=Zy b1;have H0:=Hd b0;have H1:=Hd b1;have HB':=Hd HB;clear b0 b1 HB hb2 HR;go_wp2_with fail
   refine Yff rfl rfl rfl (Db (Xz H1.out (by omega))) ⟨?_,Yor (HB'.out.setCell (Nat.le_refl _) _) (Nat.le_succ _) _ _ _⟩;rw [hv.out]
theorem Zyo {w:World} {b:Nat} {o:Obj} (h:w.heap[b]? = some o):b < w.heap.size:=(Array.getElem?_eq_some_iff.1 h).1
theorem Z7 (s:ByteArray):s.data.toList.length=s.size:=Array.length_toList
theorem Iv (s t:ByteArray):(s++t).data.toList=s.data.toList++t.data.toList:=by simp
theorem Gc {s:ByteArray} {l:List UInt8} (h:s.data.toList=l):(⟨l.toArray⟩:ByteArray)=s:=by subst h;simp
def KP (w w':World) (n:ByteArray) (l m:Int):Prop:=w'.heap[w.heap.size]? = some (.cells #[.string n,.int .i64 l,.int .i64 m] 70 (0,0))∧Below w.heap.size w w'
theorem KP.next {w w1 w2:World} {n:ByteArray} {l m:Int} (hb:Below w1.heap.size w1 w2) (h:KP w w1 n l m):KP w w2 n l m:=
 ⟨(hb.block w.heap.size (Zyo h.1)).trans h.1,h.2.trans (hb.mono h.2.size)⟩
theorem Yc5 {n:List UInt8} {k q:Nat} (hn:Jv n=true) (hk:k≤4) (hq:q < 2 ^ (k+1)):Yj n k q=true:=by
 refine El hn (by omega) (by omega) (by omega) ?_;have:((2 ^ (k+1):Nat):Int)=(2:Int) ^ (k+1):=by simp
 simp only [Int.toNat_natCast];omega
def oB:ByteArray:=⟨#[91]⟩
def cB:ByteArray:=⟨#[93]⟩
def bB:ByteArray:=⟨#[33]⟩
def Ui (n:ByteArray) (l m:Nat) (ts:List Tok):(ByteArray × Nat × Nat) × List Tok:=if atB 1 bB ts=true then ((n,l,m ||| 1),ts.tail) else ((n,l,m),ts)
def Zj:Nat→List Tok→Except Int ((ByteArray × Nat × Nat) × List Tok)
 | left,ts =>
   if atB 1 oB ts=true then
    match left with
    | 0=>.error 4
    | left+1 =>
      match Zj left ts.tail with
      | .error e=>.error e
      | .ok ((n,l,m),ts1)=>if atB 1 cB ts1=true then .ok (Ui n (l+1) (2*m) ts1.tail) else .error 2
   else
    match Zg ts with
    | none=>.error 2
    | some (n,ts1)=>.ok (Ui n 0 0 ts1)
theorem Vy {left:Nat} {ts:List Tok} (h:atB 1 oB ts=false):Zj left ts=(match Zg ts with|none=>.error 2|some (n,ts1)=>.ok (Ui n 0 0 ts1)):=by
 cases left<;>(rw [Zj,if_neg (by rw [h];decide)])
theorem Es {ts:List Tok} (h:atB 1 oB ts=true):Zj 0 ts=.error 4:=by rw [Zj,if_pos h]
theorem Uy {left:Nat} {ts:List Tok} (h:atB 1 oB ts=true):Zj (left+1) ts=(match Zj left ts.tail with
        | .error e=>.error e
        | .ok ((n,l,m),ts1)=>if atB 1 cB ts1=true then .ok (Ui n (l+1) (2*m) ts1.tail) else .error 2):=by rw [Zj,if_pos h]
def Vq (ts:List Tok):Prop:=∀ t ∈ ts,t.1=2→Jv t.2.data.toList=true∧t.2.size≤9000
theorem Vq.tail {ts:List Tok} (h:Vq ts):Vq ts.tail:=fun t ht=>h t (List.mem_of_mem_tail ht)
theorem Wq {ts ts1:List Tok} {n:ByteArray} (h:Vq ts) (hn:Zg ts=some (n,ts1)):Jv n.data.toList=true∧n.size≤9000∧Vq ts1:=by
 cases ts with
 | nil=>cases hn
 | cons t ts =>
   change (if t.1=2 then some (t.2,ts) else none)=some (n,ts1) at hn
   split at hn
   · rename_i hk
     obtain ⟨e1,e2⟩:=Prod.mk.inj (Option.some.inj hn);subst e1 e2;exact ⟨(h t (by simp) hk).1,(h t (by simp) hk).2,fun u hu=>h u (by simp [hu])⟩
   · cases hn
def Da (n:ByteArray) (l m left:Nat) (ts:List Tok):Prop:=Jv n.data.toList=true∧n.size≤9000∧l≤left∧m < 2 ^ (l+1)∧Vq ts
theorem Yk1 (m:Nat):(m ||| 1)=2*(m / 2)+1:=by
 have h:=Nat.shiftLeft_add_eq_or_of_lt (a:=m / 2) (b:=1) (i:=1) (by decide);rw [Nat.shiftLeft_eq] at h
 have:m ||| 1=(m / 2*2 ^ 1) ||| 1:=by
  apply Nat.eq_of_testBit_eq
  intro i;rw [Nat.testBit_or,Nat.testBit_or]
  cases i with
  | zero=>simp
  | succ i=>simp [Nat.testBit_succ]
 rw [this,← h];omega
theorem O0 {n:ByteArray} {l m left:Nat} {ts:List Tok} (h:Da n l m left ts):Da (Ui n l m ts).1.1 (Ui n l m ts).1.2.1 (Ui n l m ts).1.2.2 left (Ui n l m ts).2:=by
 obtain ⟨h1,h2,h3,h4,h5⟩:=h;unfold Ui
 split
 · refine ⟨h1,h2,h3,?_,h5.tail⟩
   show m ||| 1 < _;have h4':m < 2 ^ l*2:=by rw [← Nat.pow_succ];exact h4
   rw [Yk1]
   show _ < 2 ^ (l+1);rw [Nat.pow_succ];omega
 · exact ⟨h1,h2,h3,h4,h5⟩
theorem Em:∀ (left:Nat) (ts:List Tok),Vq ts→∀ n l m ts',Zj left ts=.ok ((n,l,m),ts')→Da n l m left ts':=by
 intro left
 induction left with
 | zero =>
   intro ts hN n l m ts' h
   cases hb:atB 1 oB ts with
   | true=>rw [Es hb] at h;cases h
   | false =>
     rw [Vy hb] at h
     cases hn:Zg ts with
     | none=>rw [hn] at h;cases h
     | some p =>
       obtain ⟨x,ts1⟩:=p;rw [hn] at h;injection h with h
       obtain ⟨g1,g2,g3⟩:=Wq hN hn;have:=O0 (n:=x) (l:=0) (m:=0) (left:=0) (ts:=ts1) ⟨g1,g2,Nat.le_refl _,by decide,g3⟩;rw [h] at this;exact this
 | succ left ih =>
   intro ts hN n l m ts' h
   cases hb:atB 1 oB ts with
   | true =>
     rw [Uy hb] at h
     cases hi:Zj left ts.tail with
     | error e=>rw [hi] at h;cases h
     | ok p =>
       obtain ⟨⟨x,a,b⟩,ts1⟩:=p;rw [hi] at h;obtain ⟨g1,g2,g3,g4,g5⟩:=ih _ hN.tail _ _ _ _ hi;simp only at h
       split at h
       · injection h with h
         have:=O0 (n:=x) (l:=a+1) (m:=2*b) (left:=left+1) (ts:=ts1.tail) ⟨g1,g2,by omega,by rw [Nat.pow_succ];omega,g5.tail⟩;rw [h] at this;exact this
       · cases h
   | false =>
     rw [Vy hb] at h
     cases hn:Zg ts with
     | none=>rw [hn] at h;cases h
     | some p =>
       obtain ⟨x,ts1⟩:=p;rw [hn] at h;injection h with h
       obtain ⟨g1,g2,g3⟩:=Wq hN hn;have:=O0 (n:=x) (l:=0) (m:=0) (left:=left+1) (ts:=ts1) ⟨g1,g2,Nat.zero_le _,by decide,g3⟩;rw [h] at this;exact this
theorem Z0.keep {r b:Nat} {w w':World} {o:Obj} (m:Z0 r w w') (h:w.heap[b]? = some o) (hb:b ≠ r):w'.heap[b]? = some o:=
 (m.block b (Array.getElem?_eq_some_iff.1 h).1 (fun e=>hb (by injection e))).trans h
theorem Rd.set {w:World} {r b i:Nat} {v:Value} {ts:List Tok} {d:Nat} (h:Rd w r ts d) (hb:r < b):Rd (w.setCell ⟨b,i,none⟩ v) r ts d:=by
 have hl:=h.lt;obtain ⟨A,c,h0,h1,h2,h3⟩:=h;refine ⟨A,c,(Below.heap_setCell _ _ _ _ (by show r ≠ b;omega)).trans h0,h1,h2,fun j t ht=>?_⟩;obtain ⟨x,o,e,hx,g0,g1⟩:=h3 j t ht;have hs:(w.setCell ⟨b,i,none⟩ v).heap[x]? = w.heap[x]?:=Below.heap_setCell _ _ _ _ (by show x ≠ b;omega);exact ⟨x,o,e,hx,(World.cell?_of_block (a:=⟨x,o+j*2,none⟩) hs).trans g0,(World.cell?_of_block (a:=⟨x,o+j*2+1,none⟩) hs).trans g1⟩
def Zqr (w:World) (r:Nat) (x y z x' y' z':Value) (W:World):Prop:=W.heap[w.heap.size]? = some (.cells #[x,y,z] 70 (0,0))∧W.heap[w.heap.size+1]? = some (.cells #[x',y',z'] 70 (0,0))∧Z0 r w W∧r < w.heap.size
theorem Zqr.next {w:World} {r:Nat} {x y z x' y' z':Value} {W W':World} (h:Zqr w r x y z x' y' z' W) (m:Z0 r W W'):Zqr w r x y z x' y' z' W':=
 ⟨m.keep h.1 (by have:=h.2.2.2;omega),m.keep h.2.1 (by have:=h.2.2.2;omega),h.2.2.1.trans m,h.2.2.2⟩
theorem Z0.put {r b i:Nat} {w W:World} {v:Value} (h:Z0 r w W) (hb:w.heap.size≤b):Z0 r w (W.setCell ⟨b,i,none⟩ v):=
 ⟨h.os,h.tape,h.output,by simp [World.setCell];exact h.size,fun k hk hn=>(Below.heap_setCell _ _ _ _ (by show k ≠ b;omega)).trans (h.block k hk hn)⟩
theorem Zqr.set2 {w:World} {r:Nat} {x y z x' y' z':Value} {W:World} (h:Zqr w r x y z x' y' z' W) (a b c:Value):Zqr w r x y z a b c (((W.setCell ⟨w.heap.size+1,0,none⟩ a).setCell ⟨w.heap.size+1,1,none⟩ b).setCell ⟨w.heap.size+1,2,none⟩ c):=
 ⟨Xz (Xz (Xz h.1 (by omega)) (by omega)) (by omega),Db h.2.1,((h.2.2.1.put (Nat.le_succ _)).put (Nat.le_succ _)).put (Nat.le_succ _),h.2.2.2⟩
theorem Zqr.set1 {w:World} {r:Nat} {x y z x' y' z':Value} {W:World} (h:Zqr w r x y z x' y' z' W) (a b c:Value):Zqr w r a b c x' y' z' (((W.setCell ⟨w.heap.size,0,none⟩ a).setCell ⟨w.heap.size,1,none⟩ b).setCell ⟨w.heap.size,2,none⟩ c):=
 ⟨Db h.1,Xz (Xz (Xz h.2.1 (by omega)) (by omega)) (by omega),((h.2.2.1.put (Nat.le_refl _)).put (Nat.le_refl _)).put (Nat.le_refl _),h.2.2.2⟩
theorem Zqr.setn {w:World} {r:Nat} {x y z x' y' z':Value} {W:World} (h:Zqr w r x y z x' y' z' W) (a:Value):Zqr w r x y z a y' z' (W.setCell ⟨w.heap.size+1,0,none⟩ a):=
 ⟨Xz h.1 (by omega),heap_setCell_same _ _ 0 _ _ _ h.2.1,h.2.2.1.put (Nat.le_succ _),h.2.2.2⟩
theorem Zqr.start (w:World) (r:Nat) (x y z x' y' z':Value) (hr:r < w.heap.size):Zqr w r x y z x' y' z' ((w.alloc (.cells #[x,y,z] 70)).alloc (.cells #[x',y',z'] 70)):=by
 obtain ⟨h0,h1⟩:=Ye7 w (.cells #[x,y,z] 70) (.cells #[x',y',z'] 70);exact ⟨h0,h1,(Z0.of_below (blw w _)).trans (Z0.of_below (blw _ _)),hr⟩
theorem Zqk {R:Ending→World→Prop} {fn:Func} {a:Act} {W:World} {x y z:Value} {b p:Nat} (hf:fn.results=#[.cell p 70]) (h2:a.tmps.getD p undef=.pointer (some ⟨b,0,none⟩)) (hd:a.defers=[])
  (hc:W.heap[b]? = some (.cells #[x,y,z] 70 (0,0))) (hR:R (.returned (.agg #[x,y,z])) W):bodyPost Tryz.prog fn R .ret a W:=by
 have hl:(loadVar 70 ⟨b,0,none⟩).run Tryz.prog W=.ok (.agg #[x,y,z]) W:=
  run_loadVar_row W b 70 70 #[x,y,z] (0,0) _ hc Tryz.underlying70 rfl (by kernel_rfl)
 refine bodyPost_ret ?_ hd hR;have h2':a.tmps[p]?.getD undef=.pointer (some ⟨b,0,none⟩):=by rw [← h2];simp
 simp [results,hf,h2',asAddr,hl]
theorem Yev {m:Nat} (h:m < 32):bits .or .i64 (m:Int) 1=((m ||| 1:Nat):Int):=by
 have:∀ a:Fin 32,bits .or .i64 ((a.val:Nat):Int) 1=((a.val ||| 1:Nat):Int):=by decide +kernel
 exact this ⟨m,h⟩
theorem Zq6 {n:ByteArray} {l m left:Nat} {ts:List Tok} (h:Da n l m left ts) (hl:left≤4):Yj n.data.toList (l:Int) (m:Int)=true:=Yc5 h.1 (Nat.le_trans h.2.2.1 hl) h.2.2.2.1
theorem Yb6 {n:ByteArray} {l m left:Nat} {ts:List Tok} (h:Da n l m left ts) (hl:left≤4):Zk1 n l m=.agg #[.string n,.int .i64 l,.int .i64 ((m ||| 1:Nat):Int)]:=by
 unfold Zk1;rw [if_pos (Zq6 h hl),Yev];have:=h.2.2.2.1;have hp:2 ^ (l+1)≤2 ^ 5:=Nat.pow_le_pow_right (by decide) (by have:=h.2.2.1;omega);omega
theorem Yn2 {n:ByteArray} {l m left:Nat} {ts:List Tok} (h:Da n l m left ts) (hl:left≤3):Rf n l m=Yq6 n ((l+1:Nat):Int) ((2*m:Nat):Int):=by
 unfold Rf;rw [if_pos ⟨Zq6 h (by omega),by have:=h.2.2.1;omega⟩];have e1:(l:Int)+1=((l+1:Nat):Int):=by omega
 have e2:(m:Int)*2=((2*m:Nat):Int):=by omega
 rw [e1,e2]
def Yoj (left:Nat) (ts:List Tok):Prop:=∀ (r d:Nat) (w:World),Rd w r ts d→Calls Tryz.prog 114 #[.pointer (some ⟨r,0,none⟩),.int .i64 ((4 - left:Nat):Int)] w fun e w'=>match Zj left ts with
    | .ok ((n,l,m),ts')=>e=.returned (.agg #[.string n,.int .i64 (l:Int),.int .i64 (m:Int)])∧Rd w' r ts' d∧Z0 r w w'
    | .error x=>e=Yb x∧Z0 r w w'
theorem Zkl (left:Nat) (hleft:left≤4) (ts:List Tok) (hN:Vq ts) (hb:atB 1 oB ts=false):Yoj left ts:=by
 intro r d w h;have K0:=Hd (Zqr.start w r (.string ⟨#[]⟩) (.int .i64 0) (.int .i64 0) (.string ⟨#[]⟩) (.int .i64 0) (.int .i64 0) h.lt);have R0:=Hd ((h.below (blw w (.cells #[.string ⟨#[]⟩,.int .i64 0,.int .i64 0] 70))).below (blw _ (.cells #[.string ⟨#[]⟩,.int .i64 0,.int .i64 0] 70)));have HA:=Hd (Ir r ts d 1 oB _ R0.out);have HK:=Hd (Yg r ts d 1 oB _ R0.out);have hst:Xs 1 oB ts=ts:=by unfold Xs;rw [hb];rfl
 rw [hb] at HA HK;rw [hst] at HK;rw [Vy hb];have hT:=Em left ts hN;rw [Vy hb] at hT
 cases hn:Zg ts with
 | none =>
   have HP:=fun wx (hx:Rd wx r ts d)=>Hd (by have:=Yr r ts d wx hx;rw [hn] at this;exact this);clear hT hst hb h hN
   show Calls _ _ _ _ fun e w'=>e=Yb 2∧Z0 r w w'
   go_enter Tryz.func114,Tryz.ntmps114
   go_wp2_with fail
   refine HA.out.mono ?_;rintro e w1 ⟨rfl,rfl⟩;go_wp2_with fail
   refine HK.out.mono ?_;rintro e w2 ⟨rfl,r2,m2⟩;have K2:=Hd (K0.out.next m2);have R2:=Hd r2;clear r2 m2;go_wp2_with fail
   refine (HP _ R2.out).out.mono ?_;rintro e w3 ⟨rfl,m3⟩;exact ⟨rfl,rfl,K2.out.2.2.1.trans m3⟩
 | some p =>
   obtain ⟨n,ts1⟩:=p;have HP:=fun wx (hx:Rd wx r ts d)=>Hd (by have:=Yr r ts d wx hx;rw [hn] at this;exact this);obtain ⟨g1,g2,g3⟩:=Wq hN hn;have RN:=Hd (show Da n 0 0 left ts1 from ⟨g1,g2,Nat.zero_le _,by decide,g3⟩);clear hT hst hb h hN hn g1 g2 g3;obtain ⟨RES,hRES⟩:∃ RES,Ui n 0 0 ts1=RES:=⟨_,rfl⟩
   show Calls _ _ _ _ fun e w'=>match (.ok (Ui n 0 0 ts1):Except Int ((ByteArray × Nat × Nat) × List Tok)) with | .ok ((n,l,m),ts')=>e=.returned (.agg #[.string n,.int .i64 (l:Int),.int .i64 (m:Int)])∧Rd w' r ts' d∧Z0 r w w' | .error x=>e=Yb x∧Z0 r w w'
   have hR:Hid (Ui n 0 0 ts1=RES):=Hd hRES;rw [hRES];have hR:=Hd hRES.symm;clear hRES
   go_enter Tryz.func114,Tryz.ntmps114
   go_wp2_with fail
   refine HA.out.mono ?_;rintro e w1 ⟨rfl,rfl⟩;go_wp2_with fail
   refine HK.out.mono ?_;rintro e w2 ⟨rfl,r2,m2⟩;have K2:=Hd (K0.out.next m2);have R2:=Hd r2;clear r2 m2;go_wp2_with fail
   refine (HP _ R2.out).out.mono ?_;rintro e w3 ⟨rfl,r3,m3⟩;have K3:=Hd (K2.out.next m3);have R3:=Hd r3;clear r3 m3 HP HA HK K0 R0 K2 R2;obtain ⟨k0,k1,k2,z0,z1,z2⟩:=Zy K3.out.2.1;go_wp2_with fail
   clear k0 k1 k2 z0 z1 z2;have K4:=Hd (K3.out.setn (.string n));have R4:=Hd (R3.out.set (b:=w.heap.size+1) (i:=0) (v:=.string n) (Nat.lt_succ_of_lt K3.out.2.2.2));clear K3 R3;have HS:=Hd (Yg r ts1 d 1 bB _ R4.out);have hbb:Hid (Ui n 0 0 ts1=if atB 1 bB ts1=true then ((n,0,0 ||| 1),ts1.tail) else ((n,0,0),ts1)):=Hd rfl;have hst:Hid (Xs 1 bB ts1=if atB 1 bB ts1=true then ts1.tail else ts1):=Hd rfl;generalize atB 1 bB ts1=q at *;obtain ⟨k0,k1,k2,z0,z1,z2⟩:=Zy K4.out.2.1;obtain ⟨j0,j1,j2,y0,y1,y2⟩:=Zy K4.out.1;clear k0 k1 k2 z0 z1 z2 j0 j1 j2 y0 y1 y2;go_wp2_with fail
   cases q with
   | false =>
     refine HS.out.mono ?_;rintro e wa ⟨rfl,ra,ma⟩;rw [hst.out] at ra;have KA:=Hd (K4.out.next ma);have RA:=Hd ra;obtain ⟨k0,k1,k2,z0,z1,z2⟩:=Zy KA.out.2.1;obtain ⟨j0,j1,j2,y0,y1,y2⟩:=Zy KA.out.1;clear ra ma HS;go_wp2_with fail
     have KB:=Hd (KA.out.set1 (.string n) (.int .i64 (0:Nat)) (.int .i64 (0:Nat)));refine Zqk rfl rfl rfl KB.out.1 ?_;rw [hR.out,hbb.out];exact ⟨rfl,((RA.out.set (Nat.lt_of_lt_of_le KA.out.2.2.2 (Nat.le_refl _))).set (Nat.lt_of_lt_of_le KA.out.2.2.2 (Nat.le_refl _))).set (Nat.lt_of_lt_of_le KA.out.2.2.2 (Nat.le_refl _)),KB.out.2.2.1⟩
   | true =>
     refine HS.out.mono ?_;rintro e wa ⟨rfl,ra,ma⟩;rw [hst.out] at ra;have KA:=Hd (K4.out.next ma);have RA:=Hd ra;have HM:=fun wx=>Hd (by have h:=Zxr n (0:Nat) (0:Nat) wx RN.out.2.1;rw [Yb6 RN.out hleft] at h;exact h);obtain ⟨k0,k1,k2,z0,z1,z2⟩:=Zy KA.out.2.1;clear ra ma HS;go_wp2_with fail
     refine (HM _).out.mono ?_;rintro e wb ⟨rfl,hb⟩;have KB:=Hd (KA.out.next (Z0.of_below hb));have RB:=Hd (RA.out.below hb);clear hb k0 k1 k2 z0 z1 z2 HM;obtain ⟨k0,k1,k2,z0,z1,z2⟩:=Zy KB.out.2.1;obtain ⟨j0,j1,j2,y0,y1,y2⟩:=Zy KB.out.1;go_wp2_with fail
     have KC:=Hd ((KB.out.set2 (.string n) (.int .i64 (0:Nat)) (.int .i64 ((0 ||| 1:Nat):Int))).set1 (.string n) (.int .i64 (0:Nat)) (.int .i64 ((0 ||| 1:Nat):Int)));refine Zqk rfl rfl rfl KC.out.1 ?_;rw [hR.out,hbb.out];have hlt:=KB.out.2.2.2;exact ⟨rfl,(((((RB.out.set (by omega)).set (by omega)).set (by omega)).set (by omega)).set (by omega)).set (by omega),KC.out.2.2.1⟩
end Go.Proofs.YtkmloefbkgcbkaaGreatDoor
