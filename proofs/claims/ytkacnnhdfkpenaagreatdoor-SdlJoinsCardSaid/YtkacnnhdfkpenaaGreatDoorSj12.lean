/- The texts of types, as plain lists of bytes: which type may be, how it is printed, how the landed reader and the document's own read it. -/
import Derived.Test.YtkacnnhdfkpenaaGreatDoorSj1
import Derived.Shelf.Abstract
import Derived.Deep.WholeRow
import Derived.Laws.BitsAllLaws
import Derived.Laws.BitsLemmas
import Derived.Shelf.Small.Wraps
import Derived.Deep.RegionHeld3
set_option maxRecDepth 100000
set_option maxHeartbeats 2000000
namespace Go.Proofs.YtkacnnhdfkpenaaGreatDoor
def rightT (n:List UInt8) (l m:Int):Bool:=nameB n && (decide (0≤l) && (decide (l≤4) && (decide (0≤m) && decide (m < 2 ^ (l.toNat+1)))))
open Go.RowKit
theorem below_new {w:World} {cs:Array Value} {t:TypeId} : Below w.heap.size w (w.alloc (.cells cs t)):=(Below.refl _ _).alloc (Nat.le_refl _) _
theorem bdraw {B:Nat} {a w:World} (h:Below B a w) (n:Nat):Below B a (w.drewN n):=⟨h.os,h.tape,h.output,h.size,h.block⟩
theorem ret_bb {a b:Bool} (h:a=b):Ending.returned (.bool a)=.returned (.bool b):=by rw [h]
theorem right_true {n:List UInt8} {l m:Int} (h:rightT n l m=true):nameB n=true∧0≤l∧l≤4∧0≤m∧m < 2 ^ (l.toNat+1):=by
 simpa [rightT] using h
theorem right_small {n:List UInt8} {l m:Int} (h:rightT n l m=true):0≤l∧l≤4∧0≤m∧m < 32:=by
 obtain ⟨_,h1,h2,h3,h4⟩:=right_true h
 refine ⟨h1,h2,h3,?_⟩
 have:l=0∨l=1∨l=2∨l=3∨l=4:=by omega
 rcases this with rfl|rfl|rfl|rfl|rfl<;>simp at h4<;>omega
theorem right_of {n:List UInt8} {l m:Int} (hn:nameB n=true) (h1:0≤l) (h2:l≤4) (h3:0≤m) (h4:m < 2 ^ (l.toNat+1)):rightT n l m=true:=by
 simp [rightT,hn,h1,h2,h3,h4]
theorem five {l:Int} (h0:0≤l) (h4:l≤4):l=0∨l=1∨l=2∨l=3∨l=4:=by omega
theorem wright_any (n:ByteArray) (l m:Int) (w:World) (hn:n.size≤9000):Calls Tryz.prog 246 #[.agg #[.string n,.int .i64 l,.int .i64 m]] w fun e w'=>e=.returned (.bool (rightT n.data.toList l m))∧Below w.heap.size w w':=by
 have HN:=fun w=>Hd (name_any n w (by omega))
 have HB:=Hd (below_new (w:=w) (cs:=#[.string n,.int .i64 l,.int .i64 m]) (t:=74))
 cases hb:nameB n.data.toList
 · have hr:Hid (rightT n.data.toList l m=false):=Hd (by simp [rightT,hb])
   rw [hb] at HN
   clear hb
   go_enter Tryz.func246,Tryz.ntmps246
   go_wp2
   go_quiet (exact (HN _).out.mono fun _ _ h=>⟨h.1,_,h.2.symm⟩)
   go_wp2
   go_ret
   exact ⟨ret_bb hr.out.symm,bdraw HB.out _⟩
 · rw [hb] at HN
   have hb':=Hd hb
   clear hb
   by_cases h1:0≤l
   · by_cases h2:l≤4
     · by_cases h3:0≤m
       · have t1:decide ((0:Int)≤m)=true:=by simpa using h3
         rcases five h1 h2 with rfl|rfl|rfl|rfl|rfl
         · by_cases h4:m < 2
           · have hr:Hid (rightT n.data.toList 0 m=true):=Hd (right_of hb'.out (by omega) (by omega) h3 (by simpa using h4))
             have t2:decide (m < 2)=true:=by simpa using h4
             go_enter Tryz.func246,Tryz.ntmps246
             go_wp2
             go_quiet (exact (HN _).out.mono fun _ _ h=>⟨h.1,_,h.2.symm⟩)
             go_wp2
             go_ret
             exact ⟨ret_bb hr.out.symm,bdraw HB.out _⟩
           · have hr:Hid (rightT n.data.toList 0 m=false):=Hd (by simp [rightT];intro _ _;simp at h4;omega)
             have t2:decide (m < 2)=false:=by simpa using h4
             go_enter Tryz.func246,Tryz.ntmps246
             go_wp2
             go_quiet (exact (HN _).out.mono fun _ _ h=>⟨h.1,_,h.2.symm⟩)
             go_wp2
             go_ret
             exact ⟨ret_bb hr.out.symm,bdraw HB.out _⟩
         · by_cases h4:m < 4
           · have hr:Hid (rightT n.data.toList 1 m=true):=Hd (right_of hb'.out (by omega) (by omega) h3 (by simpa using h4))
             have t2:decide (m < 4)=true:=by simpa using h4
             go_enter Tryz.func246,Tryz.ntmps246
             go_wp2
             go_quiet (exact (HN _).out.mono fun _ _ h=>⟨h.1,_,h.2.symm⟩)
             go_wp2
             go_ret
             exact ⟨ret_bb hr.out.symm,bdraw HB.out _⟩
           · have hr:Hid (rightT n.data.toList 1 m=false):=Hd (by simp [rightT];intro _ _;simp at h4;omega)
             have t2:decide (m < 4)=false:=by simpa using h4
             go_enter Tryz.func246,Tryz.ntmps246
             go_wp2
             go_quiet (exact (HN _).out.mono fun _ _ h=>⟨h.1,_,h.2.symm⟩)
             go_wp2
             go_ret
             exact ⟨ret_bb hr.out.symm,bdraw HB.out _⟩
         · by_cases h4:m < 8
           · have hr:Hid (rightT n.data.toList 2 m=true):=Hd (right_of hb'.out (by omega) (by omega) h3 (by simpa using h4))
             have t2:decide (m < 8)=true:=by simpa using h4
             go_enter Tryz.func246,Tryz.ntmps246
             go_wp2
             go_quiet (exact (HN _).out.mono fun _ _ h=>⟨h.1,_,h.2.symm⟩)
             go_wp2
             go_ret
             exact ⟨ret_bb hr.out.symm,bdraw HB.out _⟩
           · have hr:Hid (rightT n.data.toList 2 m=false):=Hd (by simp [rightT];intro _ _;simp at h4;omega)
             have t2:decide (m < 8)=false:=by simpa using h4
             go_enter Tryz.func246,Tryz.ntmps246
             go_wp2
             go_quiet (exact (HN _).out.mono fun _ _ h=>⟨h.1,_,h.2.symm⟩)
             go_wp2
             go_ret
             exact ⟨ret_bb hr.out.symm,bdraw HB.out _⟩
         · by_cases h4:m < 16
           · have hr:Hid (rightT n.data.toList 3 m=true):=Hd (right_of hb'.out (by omega) (by omega) h3 (by simpa using h4))
             have t2:decide (m < 16)=true:=by simpa using h4
             go_enter Tryz.func246,Tryz.ntmps246
             go_wp2
             go_quiet (exact (HN _).out.mono fun _ _ h=>⟨h.1,_,h.2.symm⟩)
             go_wp2
             go_ret
             exact ⟨ret_bb hr.out.symm,bdraw HB.out _⟩
           · have hr:Hid (rightT n.data.toList 3 m=false):=Hd (by simp [rightT];intro _ _;simp at h4;omega)
             have t2:decide (m < 16)=false:=by simpa using h4
             go_enter Tryz.func246,Tryz.ntmps246
             go_wp2
             go_quiet (exact (HN _).out.mono fun _ _ h=>⟨h.1,_,h.2.symm⟩)
             go_wp2
             go_ret
             exact ⟨ret_bb hr.out.symm,bdraw HB.out _⟩
         · by_cases h4:m < 32
           · have hr:Hid (rightT n.data.toList 4 m=true):=Hd (right_of hb'.out (by omega) (by omega) h3 (by simpa using h4))
             have t2:decide (m < 32)=true:=by simpa using h4
             go_enter Tryz.func246,Tryz.ntmps246
             go_wp2
             go_quiet (exact (HN _).out.mono fun _ _ h=>⟨h.1,_,h.2.symm⟩)
             go_wp2
             go_ret
             exact ⟨ret_bb hr.out.symm,bdraw HB.out _⟩
           · have hr:Hid (rightT n.data.toList 4 m=false):=Hd (by simp [rightT];intro _ _;simp at h4;omega)
             have t2:decide (m < 32)=false:=by simpa using h4
             go_enter Tryz.func246,Tryz.ntmps246
             go_wp2
             go_quiet (exact (HN _).out.mono fun _ _ h=>⟨h.1,_,h.2.symm⟩)
             go_wp2
             go_ret
             exact ⟨ret_bb hr.out.symm,bdraw HB.out _⟩
       · have hr:Hid (rightT n.data.toList l m=false):=Hd (by simp [rightT];omega)
         have t1:decide ((0:Int)≤m)=false:=by simpa using h3
         go_enter Tryz.func246,Tryz.ntmps246
         go_wp2
         go_quiet (exact (HN _).out.mono fun _ _ h=>⟨h.1,_,h.2.symm⟩)
         go_wp2
         go_ret
         exact ⟨ret_bb hr.out.symm,bdraw HB.out _⟩
     · have hr:Hid (rightT n.data.toList l m=false):=Hd (by simp [rightT];omega)
       have t1:decide (l≤(4:Int))=false:=by simpa using h2
       go_enter Tryz.func246,Tryz.ntmps246
       go_wp2
       go_quiet (exact (HN _).out.mono fun _ _ h=>⟨h.1,_,h.2.symm⟩)
       go_wp2
       go_ret
       exact ⟨ret_bb hr.out.symm,bdraw HB.out _⟩
   · have hr:Hid (rightT n.data.toList l m=false):=Hd (by simp [rightT];omega)
     have t1:decide ((0:Int)≤l)=false:=by simpa using h1
     go_enter Tryz.func246,Tryz.ntmps246
     go_wp2
     go_quiet (exact (HN _).out.mono fun _ _ h=>⟨h.1,_,h.2.symm⟩)
     go_wp2
     go_ret
     exact ⟨ret_bb hr.out.symm,bdraw HB.out _⟩
theorem blw (w:World) (o:Obj):Below w.heap.size w (w.alloc o):=(Below.refl _ _).alloc (Nat.le_refl _) _
theorem ty_cells {w:World} {b:Nat} {x y z:Value} (h:w.heap[b]? = some (.cells #[x,y,z] 74 (0,0))):w.cell? ⟨b,0,none⟩=some x∧w.cell? ⟨b,1,none⟩=some y∧w.cell? ⟨b,2,none⟩=some z∧w.frozen? ⟨b,0,none⟩=false∧w.frozen? ⟨b,1,none⟩=false∧w.frozen? ⟨b,2,none⟩=false:=by
 simp [World.cell?,World.frozen?,h]
theorem ty_set {w:World} {b:Nat} {x y z x' y' z':Value} (h:w.heap[b]? = some (.cells #[x,y,z] 74 (0,0))):(((w.setCell ⟨b,0,none⟩ x').setCell ⟨b,1,none⟩ y').setCell ⟨b,2,none⟩ z').heap[b]? = some (.cells #[x',y',z'] 74 (0,0)):=by
 simp [World.setCell,Array.getElem?_modify,h]
theorem wset_other {w:World} {b c:Nat} {j:Nat} {v:Value} {o:Obj} (h:w.heap[b]? = some o) (hne:c ≠ b):(w.setCell ⟨c,j,none⟩ v).heap[b]? = some o:=by
 simp [World.setCell,Array.getElem?_modify,h,hne]
theorem ret_ty {R:Ending→World→Prop} {fn:Func} {a:Act} {W:World} {x y z:Value} {b:Nat} (hf:fn.results=#[.cell 2 74,.tmp 3]) (h2:a.tmps.getD 2 undef=.pointer (some ⟨b,0,none⟩)) (hd:a.defers=[])
  (hc:W.heap[b]? = some (.cells #[x,y,z] 74 (0,0))) (hR:R (.returned (.tuple #[.agg #[x,y,z],a.tmps.getD 3 undef])) W):bodyPost Tryz.prog fn R .ret a W:=by
 have hl:(loadVar 74 ⟨b,0,none⟩).run Tryz.prog W=.ok (.agg #[x,y,z]) W:=
  run_loadVar_row W b 74 74 #[x,y,z] (0,0) _ hc Tryz.underlying74 rfl (by kernel_rfl)
 refine bodyPost_ret ?_ hd hR
 have h2':a.tmps[2]?.getD undef=.pointer (some ⟨b,0,none⟩):=by rw [← h2];simp
 simp [results,hf,h2',asAddr,hl]
theorem ret_ty1 {R:Ending→World→Prop} {fn:Func} {a:Act} {W:World} {x y z:Value} {b:Nat} (hf:fn.results=#[.cell 2 74]) (h2:a.tmps.getD 2 undef=.pointer (some ⟨b,0,none⟩)) (hd:a.defers=[])
  (hc:W.heap[b]? = some (.cells #[x,y,z] 74 (0,0))) (hR:R (.returned (.agg #[x,y,z])) W):bodyPost Tryz.prog fn R .ret a W:=by
 have hl:(loadVar 74 ⟨b,0,none⟩).run Tryz.prog W=.ok (.agg #[x,y,z]) W:=
  run_loadVar_row W b 74 74 #[x,y,z] (0,0) _ hc Tryz.underlying74 rfl (by kernel_rfl)
 refine bodyPost_ret ?_ hd hR
 have h2':a.tmps[2]?.getD undef=.pointer (some ⟨b,0,none⟩):=by rw [← h2];simp
 simp [results,hf,h2',asAddr,hl]
def noT:Value:=.tuple #[.agg #[.string ⟨#[]⟩,.int .i64 0,.int .i64 0],.bool false]
def yesT (n:ByteArray) (l m:Int):Value:=.tuple #[.agg #[.string n,.int .i64 l,.int .i64 m],.bool true]
def listV (n:ByteArray) (l m:Int):Value:=if rightT n.data.toList l m=true∧l ≠ 4 then yesT n (l+1) (m*2) else noT
theorem new_two (w:World) (o o':Obj):((w.alloc o).alloc o').heap[w.heap.size]? = some o∧((w.alloc o).alloc o').heap[w.heap.size+1]? = some o':=by
 have h2:=heap_alloc_last (w.alloc o) o'
 have e:(w.alloc o).heap.size=w.heap.size+1:=by simp
 rw [e] at h2
 refine ⟨?_,h2⟩
 exact ((blw (w.alloc o) o').block w.heap.size (by omega)).trans (heap_alloc_last w o)
theorem wtwo_new {w w2:World} {x y z x' y' z':Value} (hb:Below ((w.alloc (.cells #[x,y,z] 74)).alloc (.cells #[x',y',z'] 74)).heap.size ((w.alloc (.cells #[x,y,z] 74)).alloc (.cells #[x',y',z'] 74)) w2) :
  w2.heap[w.heap.size]? = some (.cells #[x,y,z] 74 (0,0))∧w2.heap[w.heap.size+1]? = some (.cells #[x',y',z'] 74 (0,0))∧Below w.heap.size w w2:=by
 obtain ⟨h0,h1⟩:=new_two w (.cells #[x,y,z] 74) (.cells #[x',y',z'] 74)
 have e:((w.alloc (.cells #[x,y,z] 74)).alloc (.cells #[x',y',z'] 74)).heap.size=w.heap.size+1+1:=by simp
 refine ⟨(hb.block w.heap.size (by omega)).trans h0,(hb.block (w.heap.size+1) (by omega)).trans h1,below_new.trans ((below_new.mono (by simp)).trans (hb.mono (by omega)))⟩
theorem set3 {B:Nat} {w w2:World} {b:Nat} (h:Below B w w2) (hb:B≤b) (x y z:Value):Below B w (((w2.setCell ⟨b,0,none⟩ x).setCell ⟨b,1,none⟩ y).setCell ⟨b,2,none⟩ z):=((h.setCell hb _).setCell hb _).setCell hb _
def mustV (n:ByteArray) (l m:Int):Value:=if rightT n.data.toList l m=true then .agg #[.string n,.int .i64 l,.int .i64 (bits .or .i64 m 1)] else .agg #[.string n,.int .i64 l,.int .i64 m]
theorem list_any (n:ByteArray) (l m:Int) (w:World) (hn:n.size≤9000):Calls Tryz.prog 331 #[.agg #[.string n,.int .i64 l,.int .i64 m]] w fun e w'=>e=.returned (listV n l m)∧Below w.heap.size w w':=by
 have HR:=fun w=>Hd (wright_any n l m w hn)
 cases hr:rightT n.data.toList l m
 · have hv:Hid (listV n l m=noT):=Hd (by simp [listV,hr])
   rw [hr] at HR
   clear hr
   go_enter Tryz.func331,Tryz.ntmps331
   go_wp2_with fail
   refine (HR _).out.mono ?_
   rintro e w2 ⟨rfl,hb2⟩
   obtain ⟨b0,b1,HB⟩:=wtwo_new hb2
   obtain ⟨a0,a1,a2,g0,g1,g2⟩:=ty_cells b0
   obtain ⟨c0,c1,c2,f0,f1,f2⟩:=ty_cells b1
   have H0:=Hd b0
   have H1:=Hd b1
   have HB':=Hd HB
   clear b0 b1 HB hb2 HR
   go_wp2_with fail
   refine ret_ty rfl rfl rfl (ty_set H1.out) ⟨?_,set3 HB'.out (Nat.le_succ _) _ _ _⟩
   rw [hv.out]
   rfl
 · by_cases hl:l=4
   · have hv:Hid (listV n l m=noT):=Hd (by simp [listV,hl])
     subst hl
     rw [hr] at HR
     clear hr
     go_enter Tryz.func331,Tryz.ntmps331
     go_wp2_with fail
     refine (HR _).out.mono ?_
     rintro e w2 ⟨rfl,hb2⟩
     obtain ⟨b0,b1,HB⟩:=wtwo_new hb2
     obtain ⟨a0,a1,a2,g0,g1,g2⟩:=ty_cells b0
     obtain ⟨c0,c1,c2,f0,f1,f2⟩:=ty_cells b1
     have H0:=Hd b0
     have H1:=Hd b1
     have HB':=Hd HB
     clear b0 b1 HB hb2 HR
     go_wp2_with fail
     refine ret_ty rfl rfl rfl (ty_set H1.out) ⟨?_,set3 HB'.out (Nat.le_succ _) _ _ _⟩
     rw [hv.out]
     rfl
   · have hv:Hid (listV n l m=yesT n (l+1) (m*2)):=Hd (by simp [listV,hl,hr])
     obtain ⟨s1,s2,s3,s4⟩:=right_small hr
     have e0:(l == 4)=false:=by simpa using hl
     rw [hr] at HR
     clear hr
     go_enter Tryz.func331,Tryz.ntmps331
     go_wp2_with fail
     refine (HR _).out.mono ?_
     rintro e w2 ⟨rfl,hb2⟩
     obtain ⟨b0,b1,HB⟩:=wtwo_new hb2
     obtain ⟨a0,a1,a2,g0,g1,g2⟩:=ty_cells b0
     obtain ⟨c0,c1,c2,f0,f1,f2⟩:=ty_cells b1
     have H0:=Hd b0
     have H1:=Hd b1
     have HB':=Hd HB
     clear b0 b1 HB hb2 HR
     go_wp2_with fail
     refine ret_ty rfl rfl rfl (ty_set (wset_other (wset_other H1.out (by omega)) (by omega))) ⟨?_,set3 ((HB'.out.setCell (Nat.le_refl _) _).setCell (Nat.le_refl _) _) (Nat.le_succ _) _ _ _⟩
     rw [hv.out]
     rfl
theorem must_any (n:ByteArray) (l m:Int) (w:World) (hn:n.size≤9000):Calls Tryz.prog 332 #[.agg #[.string n,.int .i64 l,.int .i64 m]] w fun e w'=>e=.returned (mustV n l m)∧Below w.heap.size w w':=by
 have HR:=fun w=>Hd (wright_any n l m w hn)
 cases hr:rightT n.data.toList l m
 · have hv:Hid (mustV n l m=.agg #[.string n,.int .i64 l,.int .i64 m]):=Hd (by simp [mustV,hr])
   rw [hr] at HR
   clear hr
   go_enter Tryz.func332,Tryz.ntmps332
   go_wp2_with fail
   refine (HR _).out.mono ?_
   rintro e w2 ⟨rfl,hb2⟩
   obtain ⟨b0,b1,HB⟩:=wtwo_new hb2
   obtain ⟨a0,a1,a2,g0,g1,g2⟩:=ty_cells b0
   obtain ⟨c0,c1,c2,f0,f1,f2⟩:=ty_cells b1
   have H0:=Hd b0
   have H1:=Hd b1
   have HB':=Hd HB
   clear b0 b1 HB hb2 HR
   go_wp2_with fail
   refine ret_ty1 rfl rfl rfl (ty_set H1.out) ⟨?_,set3 HB'.out (Nat.le_succ _) _ _ _⟩
   rw [hv.out]
 · have hv:Hid (mustV n l m=.agg #[.string n,.int .i64 l,.int .i64 (bits .or .i64 m 1)]):=Hd (by simp [mustV,hr])
   rw [hr] at HR
   clear hr
   go_enter Tryz.func332,Tryz.ntmps332
   go_wp2_with fail
   refine (HR _).out.mono ?_
   rintro e w2 ⟨rfl,hb2⟩
   obtain ⟨b0,b1,HB⟩:=wtwo_new hb2
   obtain ⟨a0,a1,a2,g0,g1,g2⟩:=ty_cells b0
   obtain ⟨c0,c1,c2,f0,f1,f2⟩:=ty_cells b1
   have H0:=Hd b0
   have H1:=Hd b1
   have HB':=Hd HB
   clear b0 b1 HB hb2 HR
   go_wp2_with fail
   refine ret_ty1 rfl rfl rfl (ty_set (wset_other H1.out (by omega))) ⟨?_,set3 (HB'.out.setCell (Nat.le_refl _) _) (Nat.le_succ _) _ _ _⟩
   rw [hv.out]
theorem lt_of_heap {w:World} {b:Nat} {o:Obj} (h:w.heap[b]? = some o):b < w.heap.size:=(Array.getElem?_eq_some_iff.1 h).1
theorem len_data (s:ByteArray):s.data.toList.length=s.size:=Array.length_toList
theorem mk_of {s:ByteArray} {l:List UInt8} (h:s.data.toList=l):(⟨l.toArray⟩:ByteArray)=s:=by subst h;simp
def KP (w w':World) (n:ByteArray) (l m:Int):Prop:=w'.heap[w.heap.size]? = some (.cells #[.string n,.int .i64 l,.int .i64 m] 74 (0,0))∧Below w.heap.size w w'
theorem KP.next {w w1 w2:World} {n:ByteArray} {l m:Int} (hb:Below w1.heap.size w1 w2) (h:KP w w1 n l m):KP w w2 n l m:=
 ⟨(hb.block w.heap.size (lt_of_heap h.1)).trans h.1,h.2.trans (hb.mono h.2.size)⟩
theorem KP.cells {w w1:World} {n:ByteArray} {l m:Int} (h:KP w w1 n l m):w1.cell? ⟨w.heap.size,0,none⟩=some (.string n)∧w1.cell? ⟨w.heap.size,1,none⟩=some (.int .i64 l)∧KP w w1 n l m:=⟨(ty_cells h.1).1,(ty_cells h.1).2.1,h⟩
theorem right_nat {n:List UInt8} {k q:Nat} (hn:nameB n=true) (hk:k≤4) (hq:q < 2 ^ (k+1)):rightT n k q=true:=by
 refine right_of hn (by omega) (by omega) (by omega) ?_
 have:((2 ^ (k+1):Nat):Int)=(2:Int) ^ (k+1):=by simp
 simp only [Int.toNat_natCast]
 omega
end Go.Proofs.YtkacnnhdfkpenaaGreatDoor
