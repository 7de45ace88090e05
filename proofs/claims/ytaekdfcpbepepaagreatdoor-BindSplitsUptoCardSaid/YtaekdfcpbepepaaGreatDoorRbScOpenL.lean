/- A row of texts that comes in, opened. -/
import Derived.Test.YtaekdfcpbepepaaGreatDoorQb29
set_option maxRecDepth 100000
namespace Go.Proofs.YtaekdfcpbepepaaGreatDoor
open Go.ChangeShapes Go.WideShapes Go.ChangeAt Go.RowKit
theorem openU_texts {H:Type} {enc:TypeId × Value→H} {W:World} {base:Nat} {v:Value} {d:DataW H} {ps:List MemPlace} (hval:Value.okWide Tryz.prog W .any base 32 v) (hd:DataW.Trod enc Tryz.prog W 0 (fun _=>true) true 32 v d ps) :
  ∃ (l:List ByteArray) (A:Option Addr) (c:Nat),v=.slice A l.length c∧RowT W (fun b=>b < W.heap.size) (rowOf encStr l) A∧((∀ m ∈ d.weights Tryz.prog 32,m≤reachBytes)→l.length*16≤140737488355328):=by
 obtain ⟨A,n,c,rfl⟩:=okWide_slice Tryz.underlying32 hval
 obtain ⟨fuel,hf⟩:=hd
 obtain ⟨l,A0,k0,e0,_,r0,w0,_⟩:=slcU_opened (f:=encStr) (R:=fun _ _=>True) (sz:=szN) Tryz.underlying32 ocStr obStr (fun _=>rfl) (by decide) (fun n' _=>(fun n cs x h=>openU_str1 n cs x h) n') hf
 exact ⟨l,A0,k0,e0,r0,fun hm=>(w0 hm).1⟩
theorem open_cap {H:Type} {enc:TypeId × Value→H} {W:World} {fuel:Nat} {st et:TypeId} {A:Option Addr} {n k:Nat} {x:DataW H × List MemPlace} (hu:Tryz.prog.underlying st=some (.slice et)) (h:DataW.trod enc Tryz.prog W 0 (fun _=>true) true fuel st [.slice A n k]=some x):n≤k:=by
 rcases DataW.trod_slice hu h with ⟨hc,rfl⟩|⟨a,len,cap,elems,rest,n',hn',hcv,rfl,_,hlc,hcm,hel,hat,_⟩
 · simp only [List.cons.injEq,Value.slice.injEq,and_true] at hc
   omega
 · simp only [List.cons.injEq,Value.slice.injEq,and_true] at hcv
   omega
theorem openU_capS {H:Type} {enc:TypeId × Value→H} {W:World} {c0 c1 c2:Value} {d:DataW H} {ps:List MemPlace} (hd:DataW.Trod enc Tryz.prog W 0 (fun _=>true) true 24 (.agg #[c0,c1,c2]) d ps):∀ A n k,c0=.slice A n k→n≤k:=by
 obtain ⟨fuel,hf⟩:=hd
 have h:DataW.trod enc Tryz.prog W 0 (fun _=>true) true fuel 24 [c0,c1,c2]=some (d,ps):=hf
 obtain ⟨xs,n,rfl,_,hl,hxl,hf⟩:=DataW.trod_struct Tryz.underlying24 h
 have f0:DataW.trod enc Tryz.prog W 0 (fun _=>true) true n 22 [c0]=xs[0]?:=by have h':DataW.trod enc Tryz.prog W 0 (fun _=>true) true n 22 (([c0,c1,c2].drop 0).take (Tryz.prog.cellsOf 22))=xs[0]?:=hf 0 _ rfl;rw [ocSDf] at h';exact h'
 intro A m k e
 subst e
 match xs,hxl with
 | [y0,y1,y2],_=>exact open_cap Tryz.underlying22 (f0.trans rfl)
end Go.Proofs.YtaekdfcpbepepaaGreatDoor
