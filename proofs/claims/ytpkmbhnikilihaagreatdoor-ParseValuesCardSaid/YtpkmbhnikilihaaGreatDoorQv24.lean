/- The landed reader of documents, as plain functions: each of them is a reader that hangs on what is read. -/
import Derived.Test.YtpkmbhnikilihaaGreatDoorQv23
set_option maxRecDepth 100000
set_option maxHeartbeats 8000000
namespace Go.Proofs.YtpkmbhnikilihaaGreatDoor
theorem read_fuel:∀ f:Nat,
   (∀ fx d ts f',2*ts.length+1≤f→f≤f'→valR f' fx d ts=valR f fx d ts) ∧
   (∀ fx d acc ts f',2*ts.length+2≤f→f≤f'→itemsR f' fx d acc ts=itemsR f fx d acc ts) ∧
   (∀ fx d acc ts f',2*ts.length+2≤f→f≤f'→memsR f' fx d acc ts=memsR f fx d acc ts) ∧
   (∀ fx d ts f',2*ts.length+1≤f→f≤f'→memR f' fx d ts=memR f fx d ts):=by
 intro f
 induction f with
 | zero=>exact ⟨fun _ _ _ _ h _=>by omega,fun _ _ _ _ _ h _=>by omega,fun _ _ _ _ _ h _=>by omega,fun _ _ _ _ h _=>by omega⟩
 | succ f ih =>
   obtain ⟨iv,il,im,ib⟩:=ih
   refine ⟨fun fx d ts f' h hf=>?_,fun fx d acc ts f' h hf=>?_,fun fx d acc ts f' h hf=>?_,fun fx d ts f' h hf=>?_⟩
   · obtain ⟨g,rfl⟩:∃ g,f'=g+1:=⟨f' - 1,by omega⟩
     rw [valR,valR]
     by_cases h1:atB 1 oB ts=true
     · have:=at_len h1
       rw [if_pos h1,if_pos h1,il _ _ _ _ g (by omega) (by omega)]
     · rw [if_neg h1,if_neg h1]
       by_cases h2:atB 1 omB ts=true
       · have:=at_len h2
         rw [if_pos h2,if_pos h2,im _ _ _ _ g (by omega) (by omega)]
       · rw [if_neg h2,if_neg h2]
   · obtain ⟨g,rfl⟩:∃ g,f'=g+1:=⟨f' - 1,by omega⟩
     rw [itemsR,itemsR,iv _ _ _ g (by omega) (by omega)]
     split
     · rfl
     · cases hv:valR f fx d ts with
       | error x=>rfl
       | ok q =>
         obtain ⟨v,r⟩:=q
         have:=(read_less f).1 _ _ _ _ _ hv
         exact il _ _ _ _ g (by omega) (by omega)
   · obtain ⟨g,rfl⟩:∃ g,f'=g+1:=⟨f' - 1,by omega⟩
     rw [memsR,memsR,ib _ _ _ g (by omega) (by omega)]
     split
     · rfl
     · cases hv:memR f fx d ts with
       | error x=>rfl
       | ok q =>
         obtain ⟨⟨nm,v⟩,r⟩:=q
         have:=(read_less f).2.2.2 _ _ _ _ _ hv
         exact im _ _ _ _ g (by omega) (by omega)
   · obtain ⟨g,rfl⟩:∃ g,f'=g+1:=⟨f' - 1,by omega⟩
     rw [memR,memR]
     cases hn:nameR ts with
     | none=>rfl
     | some q =>
       obtain ⟨nm,r⟩:=q
       have:=name_len hn
       simp only
       by_cases h1:atB 1 colB r=true
       · have:=at_len h1
         rw [if_pos h1,if_pos h1,iv _ _ _ g (by omega) (by omega)]
       · rw [if_neg h1,if_neg h1]
def itemsD (fx:Bool) (d:Nat) (acc:VL) (ts:List Tok):Except Int (VL × List Tok):=itemsR (2*ts.length+2) fx d acc ts
def memsD (fx:Bool) (d:Nat) (acc:VM) (ts:List Tok):Except Int (VM × List Tok):=memsR (2*ts.length+2) fx d acc ts
def errR {α:Type} (x:Int):Rdr α:=fun _=>.error x
def retR {α:Type} (a:α):Rdr α:=fun ts=>.ok (a,ts)
def varV:Rdr VT:=ifR 1 dolB (nmR (fun s=>retR (.mk 8 0 s .nil .nil)) (errR 2)) oneR
theorem valD_eq (fx:Bool) (d:Nat):valD fx d=ifR 1 oB (if d=16 then errR 4 else bindR (itemsD fx (d+1) .nil) fun l=>retR (.mk 6 0 ⟨#[]⟩ l .nil)) (ifR 1 omB (if d=16 then errR 4 else bindR (memsD fx (d+1) .nil) fun m=>retR (.mk 7 0 ⟨#[]⟩ .nil m)) (if fx=true then oneR else varV)):=by
 funext ts
 unfold valD ifR
 rw [valR]
 by_cases h1:atB 1 oB ts=true
 · have:=at_len h1
   rw [if_pos h1,if_pos h1]
   by_cases hd:d=16
   · rw [if_pos hd,if_pos hd];rfl
   · rw [if_neg hd,if_neg hd]
     unfold bindR itemsD
     rw [show 2*ts.tail.length+2=2*ts.length by omega]
     cases itemsR (2*ts.length) fx (d+1) .nil ts.tail<;>rfl
 · rw [if_neg h1,if_neg h1]
   by_cases h2:atB 1 omB ts=true
   · have:=at_len h2
     rw [if_pos h2,if_pos h2]
     by_cases hd:d=16
     · rw [if_pos hd,if_pos hd];rfl
     · rw [if_neg hd,if_neg hd]
       unfold bindR memsD
       rw [show 2*ts.tail.length+2=2*ts.length by omega]
       cases memsR (2*ts.length) fx (d+1) .nil ts.tail<;>rfl
   · rw [if_neg h2,if_neg h2]
     cases fx with
     | true=>rfl
     | false =>
       rw [if_neg (by simp : ¬ (false=true))]
       unfold varV ifR nmR
       cases h3:atB 1 dolB ts with
       | true =>
         simp only [Bool.not_false,Bool.and_self,if_true]
         cases nameR ts.tail<;>rfl
       | false=>rfl
theorem itemsD_eq (fx:Bool) (d:Nat) (acc:VL):itemsD fx d acc=ifR 1 cB (retR acc) (bindR (valD fx d) fun v=>itemsD fx d (acc.snoc v)):=by
 funext ts
 unfold itemsD ifR
 rw [itemsR]
 split
 · rfl
 · unfold bindR valD
   cases hv:valR (2*ts.length+1) fx d ts with
   | error x=>rfl
   | ok q =>
     obtain ⟨v,r⟩:=q
     have:=(read_less _).1 _ _ _ _ _ hv
     exact (read_fuel _).2.1 _ _ _ _ _ (Nat.le_refl _) (by omega)
theorem memsD_eq (fx:Bool) (d:Nat) (acc:VM):memsD fx d acc=ifR 1 cmB (retR acc) (bindR (memD fx d) fun p=>memsD fx d (acc.snoc p.1 p.2)):=by
 funext ts
 unfold memsD ifR
 rw [memsR]
 split
 · rfl
 · unfold bindR memD
   cases hv:memR (2*ts.length+1) fx d ts with
   | error x=>rfl
   | ok q =>
     obtain ⟨⟨nm,v⟩,r⟩:=q
     have:=(read_less _).2.2.2 _ _ _ _ _ hv
     exact (read_fuel _).2.2.1 _ _ _ _ _ (Nat.le_refl _) (by omega)
theorem memD_eq (fx:Bool) (d:Nat):memD fx d=nmR (fun nm=>ifR 1 colB (bindR (valD fx d) fun v=>retR (nm,v)) (errR 2)) (errR 2):=by
 funext ts
 unfold memD nmR ifR
 rw [memR]
 cases hn:nameR ts with
 | none=>rfl
 | some q =>
   obtain ⟨nm,r⟩:=q
   have:=name_len hn
   simp only
   by_cases h1:atB 1 colB r=true
   · have:=at_len h1
     rw [if_pos h1,if_pos h1]
     unfold bindR valD
     rw [(read_fuel (2*r.tail.length+1)).1 _ _ _ (2*ts.length) (Nat.le_refl _) (by omega)]
     cases valR (2*r.tail.length+1) fx d r.tail<;>rfl
   · rw [if_neg h1,if_neg h1];rfl
theorem str_val (fx:Bool) (d:Nat):Str (valD fx d):=fun _ _ _ h=>val_sfx h
theorem str_mem (fx:Bool) (d:Nat):Str (memD fx d):=fun _ _ _ h=>mem_sfx h
theorem serR_fuel {α ρ:Type} {one:Rdr α} {add:ρ→α→ρ} {e:ByteArray} (H:Str one):∀ (f f':Nat) (acc:ρ) (ts:List Tok),ts.length < f→ts.length < f'→serR one add e f acc ts=serR one add e f' acc ts
 | 0,_,_,_,h,_=>absurd h (Nat.not_lt_zero _)
 | _+1,0,_,_,_,h=>absurd h (Nat.not_lt_zero _)
 | f + 1,f'+1,acc,ts,h,h'=>by
   rw [serR,serR]
   cases ho:one ts with
   | error x=>rfl
   | ok p =>
     obtain ⟨a,r⟩:=p
     simp only
     split
     · rfl
     · have:=(H _ _ _ ho).2
       exact serR_fuel H f f' _ _ (by omega) (by omega)
def serD {α ρ:Type} (one:Rdr α) (add:ρ→α→ρ) (e:ByteArray) (acc:ρ):Rdr ρ:=fun ts=>serR one add e (ts.length+1) acc ts
theorem serD_eq {α ρ:Type} {one:Rdr α} {add:ρ→α→ρ} {e:ByteArray} (H:Str one) (acc:ρ):serD one add e acc=bindR one fun a=>ifR 1 e (retR (add acc a)) (serD one add e (add acc a)):=by
 funext ts
 unfold serD bindR ifR
 rw [serR]
 cases ho:one ts with
 | error x=>rfl
 | ok p =>
   obtain ⟨a,r⟩:=p
   simp only
   have:=(H _ _ _ ho).2
   rw [serR_fuel H ts.length (r.length+1) _ _ this (by omega)]
   rfl
theorem argsR_eq (fx:Bool) (d:Nat):argsR fx d=ifR 1 opB (serD (memD fx d) addM cpB .nil) (retR .nil):=by funext ts;rfl
theorem dirsF_fuel {fx:Bool} {d:Nat} : ∀ (f f':Nat) (acc:List DirT) (ts:List Tok),ts.length < f→ts.length < f'→dirsF fx d f acc ts=dirsF fx d f' acc ts
 | 0,_,_,_,h,_=>absurd h (Nat.not_lt_zero _)
 | _+1,0,_,_,_,h=>absurd h (Nat.not_lt_zero _)
 | f + 1,f'+1,acc,ts,h,h'=>by
   rw [dirsF,dirsF]
   split
   · rename_i ha
     have h1:=(at_sfx ha).2
     cases hn:nameR ts.tail with
     | none=>rfl
     | some q =>
       obtain ⟨n,r⟩:=q
       have h2:=(name_sfx hn).2
       simp only
       cases hg:argsR fx d r with
       | error x=>rfl
       | ok q =>
         obtain ⟨m,r2⟩:=q
         have h3:=(args_sfx hg).length_le
         exact dirsF_fuel f f' _ _ (by omega) (by omega)
   · rfl
def dirsD (fx:Bool) (d:Nat) (acc:List DirT):Rdr (List DirT):=fun ts=>dirsF fx d (ts.length+1) acc ts
theorem dirsD_eq (fx:Bool) (d:Nat) (acc:List DirT):dirsD fx d acc=ifR 1 atmB (nmR (fun n=>bindR (argsR fx d) fun m=>dirsD fx d (acc++[(n,m)])) (errR 2)) (retR acc):=by
 funext ts
 unfold dirsD ifR nmR bindR
 rw [dirsF]
 split
 · rename_i ha
   have h1:=(at_sfx ha).2
   cases hn:nameR ts.tail with
   | none=>rfl
   | some q =>
     obtain ⟨n,r⟩:=q
     have h2:=(name_sfx hn).2
     simp only
     cases hg:argsR fx d r with
     | error x=>rfl
     | ok q =>
       obtain ⟨m,r2⟩:=q
       have h3:=(args_sfx hg).length_le
       exact dirsF_fuel _ _ _ _ (by omega) (by omega)
 · rfl
def bangD (n:ByteArray) (l m:Nat):Rdr (ByteArray × Nat × Nat):=ifR 1 bB (retR (n,l,m ||| 1)) (retR (n,l,m))
theorem bangD_eq (n:ByteArray) (l m:Nat) (ts:List Tok):bangD n l m ts=.ok (bangR n l m ts):=by
 unfold bangD ifR bangR
 split
 · rfl
 · rfl
theorem typeR_eq0:typeR 0=ifR 1 oB (errR 4) (nmR (fun n=>bangD n 0 0) (errR 2)):=by
 funext ts
 unfold ifR nmR
 by_cases h:atB 1 oB ts=true
 · rw [typeR_deep h,if_pos h];rfl
 · have h':atB 1 oB ts=false:=by simpa using h
   rw [typeR_name h',if_neg h]
   cases nameR ts with
   | none=>rfl
   | some q=>obtain ⟨n,r⟩:=q;exact (bangD_eq n 0 0 r).symm
theorem typeR_eq (left:Nat):typeR (left+1)=ifR 1 oB (bindR (typeR left) fun t=>ifR 1 cB (bangD t.1 (t.2.1+1) (2*t.2.2)) (errR 2)) (nmR (fun n=>bangD n 0 0) (errR 2)):=by
 funext ts
 unfold ifR nmR bindR
 by_cases h:atB 1 oB ts=true
 · rw [typeR_list h,if_pos h]
   cases typeR left ts.tail with
   | error x=>rfl
   | ok q =>
     obtain ⟨⟨n,l,m⟩,r⟩:=q
     simp only
     split
     · exact (bangD_eq _ _ _ _).symm
     · rfl
 · have h':atB 1 oB ts=false:=by simpa using h
   rw [typeR_name h',if_neg h]
   cases nameR ts with
   | none=>rfl
   | some q=>obtain ⟨n,r⟩:=q;exact (bangD_eq n 0 0 r).symm
theorem inlineR_eq (S:SelsF) (d:Nat) (o:ByteArray):inlineR S d o=bindR (dirsR false d) fun ds=>bindR S fun s=>retR (.mk 2 eB eB .nil ds o s):=by
 funext ts
 unfold inlineR bindR
 cases dirsR false d ts with
 | error x=>rfl
 | ok q =>
   obtain ⟨ds,r⟩:=q
   simp only
   cases S r<;>rfl
theorem spreadR_eq (S:SelsF) (d:Nat):spreadR S d=ifR 2 onB (nmR (fun o=>inlineR S d o) (errR 2)) (nmR (fun n=>bindR (dirsR false d) fun ds=>retR (.mk 1 eB n .nil ds eB .nil)) (inlineR S d eB)):=by
 funext ts
 unfold spreadR ifR nmR bindR
 split
 · cases nameR ts.tail<;>rfl
 · cases nameR ts with
   | none=>rfl
   | some q =>
     obtain ⟨n,r⟩:=q
     simp only
     cases dirsR false d r<;>rfl
theorem restR_eq (S:SelsF) (d:Nat) (al nm:ByteArray):restR S d al nm=bindR (argsR false d) fun g=>bindR (dirsR false d) fun ds=>seeR (atB 1 omB) (bindR S fun s=>retR (.mk 0 al nm g ds eB s)) (retR (.mk 0 al nm g ds eB .nil)):=by
 funext ts
 unfold restR bindR seeR
 cases argsR false d ts with
 | error x=>rfl
 | ok q =>
   obtain ⟨g,r⟩:=q
   simp only
   cases dirsR false d r with
   | error x=>rfl
   | ok q =>
     obtain ⟨ds,r2⟩:=q
     simp only
     split
     · cases S r2<;>rfl
     · rfl
theorem fieldR_eq (S:SelsF) (d:Nat):fieldR S d=nmR (fun n=>ifR 1 colB (nmR (fun n2=>restR S d n n2) (errR 2)) (restR S d eB n)) (errR 2):=by
 funext ts
 unfold fieldR nmR ifR
 cases nameR ts with
 | none=>rfl
 | some q =>
   obtain ⟨n,r⟩:=q
   simp only
   split
   · cases nameR r.tail<;>rfl
   · rfl
theorem selOne_eq (S:SelsF) (d:Nat):selOne S d=ifR 1 dotB (spreadR S d) (fieldR S d):=by funext ts;rfl
theorem str_sel {S:SelsF} (sS:Str S) (d:Nat):Str (selOne S d):=fun _ _ _ h=>selOne_sfx (fun _ _ _ h=>sS _ _ _ h) h
theorem sel_less {S S':SelsF} {d:Nat} {ts:List Tok} (h:∀ tq,tq.length < ts.length→S tq=S' tq):selOne S d ts=selOne S' d ts:=by
 have hin:∀ o tq,tq.length < ts.length→inlineR S d o tq=inlineR S' d o tq:=by
   intro o tq hq
   unfold inlineR
   cases hd:dirsR false d tq with
   | error x=>rfl
   | ok q =>
     obtain ⟨ds,r⟩:=q
     have:=(dirs_sfx hd).length_le
     simp only
     rw [h r (by omega)]
 have hre:∀ al nm tq,tq.length < ts.length→restR S d al nm tq=restR S' d al nm tq:=by
   intro al nm tq hq
   unfold restR
   cases hg:argsR false d tq with
   | error x=>rfl
   | ok q =>
     obtain ⟨g,r0⟩:=q
     have h0:=(args_sfx hg).length_le
     simp only
     cases hd:dirsR false d r0 with
     | error x=>rfl
     | ok q =>
       obtain ⟨ds,r⟩:=q
       have:=(dirs_sfx hd).length_le
       simp only
       rw [h r (by omega)]
 unfold selOne
 split
 · rename_i ha
   have h1:=(at_sfx ha).2
   unfold spreadR
   split
   · rename_i hb
     have h2:=(at_sfx hb).2
     cases hn:nameR ts.tail.tail with
     | none=>rfl
     | some q =>
       obtain ⟨o,r⟩:=q
       have:=(name_sfx hn).2
       exact hin _ _ (by omega)
   · cases hn:nameR ts.tail with
     | none=>exact hin _ _ h1
     | some q=>rfl
 · unfold fieldR
   cases hn:nameR ts with
   | none=>rfl
   | some q =>
     obtain ⟨n,r⟩:=q
     have h1:=(name_sfx hn).2
     simp only
     split
     · rename_i hb
       have h2:=(at_sfx hb).2
       cases hm:nameR r.tail with
       | none=>rfl
       | some q =>
         obtain ⟨n2,r2⟩:=q
         have:=(name_sfx hm).2
         exact hre _ _ _ (by omega)
     · exact hre _ _ _ h1
theorem serR_same {α ρ:Type} {one one':Rdr α} {add:ρ→α→ρ} {e:ByteArray} (H:Str one):∀ (f:Nat) (acc:ρ) (ts:List Tok),(∀ tq,tq.length≤ts.length→one tq=one' tq)→serR one add e f acc ts=serR one' add e f acc ts
 | 0,_,_,_=>rfl
 | f + 1,acc,ts,h=>by
   rw [serR,serR,← h ts (Nat.le_refl _)]
   cases ho:one ts with
   | error x=>rfl
   | ok p =>
     obtain ⟨a,r⟩:=p
     have:=(H _ _ _ ho).2
     simp only
     rw [serR_same H f _ r fun tq hq=>h tq (by omega)]
theorem sels_fuel:∀ f:Nat,(∀ d ts f',ts.length < f→f≤f'→selsR f d ts=selsR f' d ts)∧(∀ d ts f',ts.length < f→f≤f'→selR f d ts=selR f' d ts):=by
 intro f
 induction f with
 | zero=>exact ⟨fun _ _ _ h _=>absurd h (Nat.not_lt_zero _),fun _ _ _ h _=>absurd h (Nat.not_lt_zero _)⟩
 | succ f ih =>
   obtain ⟨i1,i2⟩:=ih
   refine ⟨fun d ts f' h hf=>?_,fun d ts f' h hf=>?_⟩
   · obtain ⟨g,rfl⟩:∃ g,f'=g+1:=⟨f' - 1,by omega⟩
     rw [selsR,selsR]
     split
     · rename_i ha
       have h1:=(at_sfx ha).2
       split
       · rfl
       · exact serR_same (fun _ _ _ h=>(sels_all f).2 _ _ _ _ h) _ _ _ fun tq hq=>i2 _ _ g (by omega) (by omega)
     · rfl
   · obtain ⟨g,rfl⟩:∃ g,f'=g+1:=⟨f' - 1,by omega⟩
     rw [selR,selR]
     exact sel_less fun tq hq=>i1 _ _ g (by omega) (by omega)
def selD (d:Nat):Rdr SelT:=fun ts=>selR (ts.length+1) d ts
theorem selD_eq (d:Nat):selD d=selOne (selsD d) d:=by
 funext ts
 unfold selD
 rw [selR]
 exact sel_less fun tq hq=>((sels_fuel _).1 _ _ _ (Nat.lt_succ_self _) (by omega)).symm
theorem selsD_eq (d:Nat):selsD d=ifR 1 omB (if d=16 then errR 4 else serD (selD (d+1)) addS cmB .nil) (errR 2):=by
 funext ts
 unfold selsD ifR
 rw [selsR]
 split
 · rename_i ha
   have h1:=(at_sfx ha).2
   split
   · rfl
   · exact serR_same (fun _ _ _ h=>(sels_all _).2 _ _ _ _ h) _ _ _ fun tq hq=>((sels_fuel _).2 _ _ _ (Nat.lt_succ_self _) (by omega)).symm
 · rfl
theorem str_sels (d:Nat):Str (selsD d):=fun _ _ _ h=>sels_sfx h
theorem str_selD (d:Nat):Str (selD d):=by rw [selD_eq];exact str_sel (str_sels d) d
def varA (d:Nat) (n:ByteArray) (t:ByteArray × Nat × Nat):Rdr VarT:=ifR 1 eqB (bindR (valD true d) fun v=>retR ⟨n,t.1,t.2.1,t.2.2,true,v⟩) (retR ⟨n,t.1,t.2.1,t.2.2,false,zeroT⟩)
theorem varR_eq (d:Nat):varR d=ifR 1 dolB (nmR (fun n=>ifR 1 colB (bindR (typeR 4) fun t=>varA d n t) (errR 2)) (errR 2)) (errR 2):=by
 funext ts
 unfold varR ifR nmR bindR varA ifR bindR
 split
 · cases nameR ts.tail with
   | none=>rfl
   | some q =>
     obtain ⟨n,r⟩:=q
     simp only
     split
     · cases typeR 4 r.tail with
       | error x=>rfl
       | ok q =>
         obtain ⟨t,r2⟩:=q
         simp only
         split
         · cases valD true d r2.tail<;>rfl
         · rfl
     · rfl
 · rfl
theorem str_var (d:Nat):Str (varR d):=fun _ _ _ h=>var_sfx h
theorem varsR_eq (d:Nat):varsR d=ifR 1 opB (serD (varR d) addL cpB []) (retR []):=by funext ts;rfl
theorem opRest_eq (kind:Int) (d:Nat) (nm:ByteArray):opRest kind d nm=bindR (varsR d) fun vs=>bindR (dirsR true d) fun ds=>bindR (selsD d) fun s=>retR ⟨kind,nm,vs,ds,s⟩:=by
 funext ts
 unfold opRest bindR
 cases varsR d ts with
 | error x=>rfl
 | ok q =>
   obtain ⟨vs,r⟩:=q
   simp only
   cases dirsR true d r with
   | error x=>rfl
   | ok q =>
     obtain ⟨ds,r2⟩:=q
     simp only
     cases selsD d r2<;>rfl
theorem opR_eq (kind:Int) (d:Nat):opR kind d=nmR (fun n=>opRest kind d n) (opRest kind d eB):=by
 funext ts
 unfold opR nmR
 cases nameR ts<;>rfl
theorem fragR_eq (d:Nat):fragR d=seeR (atB 2 onB) (errR 2) (nmR (fun n=>ifR 2 onB (nmR (fun o=>bindR (dirsR true d) fun ds=>bindR (selsD d) fun s=>retR ⟨n,o,ds,s⟩) (errR 2)) (errR 2)) (errR 2)):=by
 funext ts
 unfold fragR seeR nmR ifR bindR
 split
 · rfl
 · cases nameR ts with
   | none=>rfl
   | some q =>
     obtain ⟨n,r⟩:=q
     simp only
     split
     · cases nameR r.tail with
       | none=>rfl
       | some q =>
         obtain ⟨o,r2⟩:=q
         simp only
         cases dirsR true d r2 with
         | error x=>rfl
         | ok q =>
           obtain ⟨ds,r3⟩:=q
           simp only
           cases selsD d r3<;>rfl
     · rfl
inductive DefT where
 | op (x:OpT)
 | frag (x:FragT)
def oneD:Rdr DefT:=
 seeR (atB 1 omB) (bindR (selsD 0) fun s=>retR (.op ⟨0,eB,[],[],s⟩)) (ifR 2 queryB (bindR (opR 0 0) fun o=>retR (.op o)) (ifR 2 mutB (bindR (opR 1 0) fun o=>retR (.op o)) (ifR 2 fragB (bindR (fragR 0) fun o=>retR (.frag o)) (errR 2))))
def addD (D:DocT):DefT→DocT
 | .op x=>⟨D.ops++[x],D.frags⟩
 | .frag x=>⟨D.ops,D.frags++[x]⟩
theorem defR_eq (D:DocT):defR D=bindR oneD fun x=>retR (addD D x):=by
 funext ts
 unfold defR bindR oneD seeR ifR bindR
 split
 · cases selsD 0 ts<;>rfl
 · split
   · cases opR 0 0 ts.tail<;>rfl
   · split
     · cases opR 1 0 ts.tail<;>rfl
     · split
       · cases fragR 0 ts.tail<;>rfl
       · rfl
def defsF:Nat→List Tok→Except Int (List DefT)
 | 0,_=>.error 2
 | f+1,ts =>
   match oneD ts with
   | .error x=>.error x
   | .ok (x,r)=>if r.isEmpty=true then .ok [x] else match defsF f r with | .error e=>.error e | .ok l=>.ok (x :: l)
theorem docF_eq:∀ (f:Nat) (D:DocT) (ts:List Tok),docF f D ts=(match defsF f ts with | .error e=>.error e | .ok l=>.ok (l.foldl addD D))
 | 0,_,_=>rfl
 | f + 1,D,ts=>by
   rw [docF,defsF,defR_eq]
   unfold bindR
   cases oneD ts with
   | error x=>rfl
   | ok q =>
     obtain ⟨x,r⟩:=q
     show (if r.isEmpty=true then .ok (addD D x) else docF f (addD D x) r)=_
     simp only
     split
     · rfl
     · rw [docF_eq f]
       cases defsF f r<;>rfl
def defsD (ts:List Tok):Except Int (List DefT):=defsF (ts.length+1) ts
theorem docR_eq (ts:List Tok):docR ts=(match defsD ts with | .error e=>.error e | .ok l=>.ok (l.foldl addD ⟨[],[]⟩)):=docF_eq _ _ _
open Go.RowKit
theorem S1.make1 {w:World} {r:Nat} {cs0:Array Value} {t0:TypeId} {o:Obj} {ts:List Tok} {d:Nat} (h:S0 w r (w.alloc (.cells cs0 t0)) o ts d) (cs:Array Value) (t:TypeId):S1 w r ((w.alloc (.cells cs0 t0)).alloc (.cells cs t)) o (w.heap.size+1) (.cells cs t (0,0)) ts d:=by
 have:=S1.make h cs t
 rwa [show (w.alloc (.cells cs0 t0)).heap.size=w.heap.size+1 by simp] at this
theorem word_some {ts:List Tok} (h:wordB ts=true):∃ n r,nameR ts=some (n,r):=by
 cases ts with
 | nil=>cases h
 | cons t ts =>
   have:t.1=2:=by simpa [wordB] using h
   exact ⟨t.2,ts,by rw [name_cons,if_pos this]⟩
theorem word_none {ts:List Tok} (h:wordB ts=false):nameR ts=none:=by
 cases ts with
 | nil=>rfl
 | cons t ts =>
   have:t.1 ≠ 2:=by simpa [wordB] using h
   rw [name_cons,if_neg this]
theorem spread_any (S:SelsF) (HF:∀ ts l r,S ts=.ok (l,r)→Sfx r ts) (d:Nat) (ts:List Tok) (r:Nat) (w:World) (HS:∀ tq wx,GoodD tq→tq.length≤ts.length→Rd wx r tq d→KRd r wx→Calls Tryz.prog 96 #[.pointer (some ⟨r,0,none⟩)] wx (Post r d wx (layR encSL) (S tq))) (hG:GoodD ts) (hd:d≤16) (hR:Rd w r ts d) (hK:KRd r w):Calls Tryz.prog 232 #[.pointer (some ⟨r,0,none⟩)] w (Post r d w (layS encS) (spreadR S d ts)):=by
 suffices H:∀ Q:Ending→World→Prop,(∀ e w',Post r d w (layS encS) (spreadR S d ts) e w'→Q e w')→Calls Tryz.prog 232 #[.pointer (some ⟨r,0,none⟩)] w Q from H _ (fun _ _ h=>h)
 intro Q hQ
 have HQ:=Hd hQ
 have L0:=Hd (List.suffix_refl ts)
 have HSS:=Hd HS
 have HFF:=Hd HF
 have K0:=Hd (S0.start hR hK #[.int .i64 0,.string ⟨#[]⟩,.string ⟨#[]⟩,.slice none 0 0,.slice none 0 0,.string ⟨#[]⟩,.slice none 0 0] 72)
 have G0:=Hd hG
 clear hQ hR hK hG HS HF
 go_enter Tryz.func232,Tryz.ntmps232
 go_wp2_with fail
 have K1:=Hd (S1.make1 K0.out #[.int .i64 2,.string ⟨#[]⟩,.string ⟨#[]⟩,.slice none 0 0,.slice none 0 0,.string ⟨#[]⟩,.slice none 0 0] 72)
 refine (skip_any r ts d 2 onB _ K1.out.rd).mono ?_
 intro e w2 h
 cases hb:atB 2 onB ts with
 | true =>
   rw [hb] at h
   obtain ⟨rfl,rr,mm⟩:=h
   rw [skip_yes hb] at rr
   have G3:=Hd (G0.out.sub (at_sfx hb).1)
   have L4:=Hd (((at_sfx hb).1).trans L0.out)
   have E5:=Hd hb
   have K6:=Hd (K1.out.next rr mm)
   clear rr mm hb
   go_wp2_with fail
   refine (pname_any r (ts.tail) d _ K6.out.rd).mono ?_
   intro e w7 h
   cases hn:nameR (ts.tail) with
   | none =>
     rw [hn] at h
     obtain ⟨rfl,m⟩:=h
     exact ⟨rfl,HQ.out _ _ (per (by simp only [spreadR,inlineR,E5.out,hn,if_true]) (K6.out.mv.trans m))⟩
   | some p =>
     obtain ⟨o,tn7⟩:=p
     rw [hn] at h
     obtain ⟨rfl,rr,mm⟩:=h
     have No:=Hd (G3.out.name hn)
     have G8:=Hd (G3.out.sub (name_sfx hn).1)
     have L9:=Hd (((name_sfx hn).1).trans L4.out)
     have E10:=Hd hn
     have K11:=Hd (K6.out.next rr mm)
     clear rr mm hn
     obtain ⟨y0,y1,y2,y3,y4,y5,y6,yz⟩:=svc K11.out.loc
     have yf0:=yz 0
     have yf1:=yz 1
     have yf2:=yz 2
     have yf3:=yz 3
     have yf4:=yz 4
     have yf5:=yz 5
     have yf6:=yz 6
     clear yz
     go_wp2_with fail
     clear y0 y1 y2 y3 y4 y5 y6 yf0 yf1 yf2 yf3 yf4 yf5 yf6
     have K12:Hid (S1 w r (w7.setCell ⟨w.heap.size+1,5,none⟩ (.string o)) _ (w.heap.size+1) (.cells #[.int .i64 2,.string ⟨#[]⟩,.string ⟨#[]⟩,.slice none 0 0,.slice none 0 0,.string o,.slice none 0 0] 72 (0,0)) _ d):=Hd (K11.out.put 5 (.string o))
     refine (dirs_any false d (tn7) r _ G8.out hd K12.out.rd K12.out.k).mono ?_
     intro e w13 h
     cases hv:dirsR false d (tn7) with
     | error x =>
       rw [hv] at h
       obtain ⟨rfl,m⟩:=of_err h
       exact ⟨rfl,HQ.out _ _ (per (by simp only [spreadR,inlineR,E5.out,E10.out,hv,if_true]) (K12.out.mv.trans m))⟩
     | ok p =>
       obtain ⟨ds,tp13⟩:=p
       rw [hv] at h
       obtain ⟨⟨v,rfl,hl⟩,rr,mm⟩:=of_ok h
       obtain ⟨A4,kA4,rfl,hts⟩:=row_open hl
       have G14:=Hd (G8.out.sub (dirs_sfx hv))
       have L15:=Hd (((dirs_sfx hv)).trans L9.out)
       have K16:=Hd (K12.out.next rr mm)
       have O17:=Hd (Ov.of hts K12.out.blt)
       have E18:=Hd hv
       clear rr mm hv hl hts h
       obtain ⟨y0,y1,y2,y3,y4,y5,y6,yz⟩:=svc K16.out.loc
       have yf0:=yz 0
       have yf1:=yz 1
       have yf2:=yz 2
       have yf3:=yz 3
       have yf4:=yz 4
       have yf5:=yz 5
       have yf6:=yz 6
       clear yz
       go_wp2_with fail
       clear y0 y1 y2 y3 y4 y5 y6 yf0 yf1 yf2 yf3 yf4 yf5 yf6
       have K19:Hid (S1 w r (w13.setCell ⟨w.heap.size+1,4,none⟩ (.slice A4 (rowOf encD ds).len kA4)) _ (w.heap.size+1) (.cells #[.int .i64 2,.string ⟨#[]⟩,.string ⟨#[]⟩,.slice none 0 0,.slice A4 (rowOf encD ds).len kA4,.string o,.slice none 0 0] 72 (0,0)) _ d):=Hd (K16.out.put 4 (.slice A4 (rowOf encD ds).len kA4))
       have O20:Hid (Ov (w.heap.size+1) (w13.setCell ⟨w.heap.size+1,4,none⟩ (.slice A4 (rowOf encD ds).len kA4)) _ _):=Hd (O17.out.put (i:=4) (v:=.slice A4 (rowOf encD ds).len kA4) (Nat.le_refl _))
       refine (HSS.out (tp13) _ G14.out (L15.out.length_le) K19.out.rd K19.out.k).mono ?_
       intro e w21 h
       cases hv:S (tp13) with
       | error x =>
         rw [hv] at h
         obtain ⟨rfl,m⟩:=of_err h
         exact ⟨rfl,HQ.out _ _ (per (by simp only [spreadR,inlineR,E5.out,E10.out,E18.out,hv,if_true]) (K19.out.mv.trans m))⟩
       | ok p =>
         obtain ⟨sq,tp21⟩:=p
         rw [hv] at h
         obtain ⟨⟨v,rfl,hl⟩,rr,mm⟩:=of_ok h
         obtain ⟨A6,kA6,rfl,hts⟩:=row_open hl
         have G22:=Hd (G14.out.sub (HFF.out _ _ _ hv).1)
         have L23:=Hd (((HFF.out _ _ _ hv).1).trans L15.out)
         have K24:=Hd (K19.out.next rr mm)
         have O25:=Hd (O20.out.next mm K19.out.rb)
         have O26:=Hd (Ov.of hts K19.out.blt)
         have E27:=Hd hv
         clear rr mm hv hl hts h
         obtain ⟨y0,y1,y2,y3,y4,y5,y6,yz⟩:=svc K24.out.loc
         have yf0:=yz 0
         have yf1:=yz 1
         have yf2:=yz 2
         have yf3:=yz 3
         have yf4:=yz 4
         have yf5:=yz 5
         have yf6:=yz 6
         clear yz
         obtain ⟨x0,x1,x2,x3,x4,x5,x6,xz⟩:=svc K24.out.res
         have xf0:=xz 0
         have xf1:=xz 1
         have xf2:=xz 2
         have xf3:=xz 3
         have xf4:=xz 4
         have xf5:=xz 5
         have xf6:=xz 6
         clear xz
         go_wp2_with fail
         clear y0 y1 y2 y3 y4 y5 y6 yf0 yf1 yf2 yf3 yf4 yf5 yf6 x0 x1 x2 x3 x4 x5 x6 xf0 xf1 xf2 xf3 xf4 xf5 xf6
         have K28:Hid (S1 w r (w21.setCell ⟨w.heap.size+1,6,none⟩ (.slice A6 (encSL sq).len kA6)) _ (w.heap.size+1) (.cells #[.int .i64 2,.string ⟨#[]⟩,.string ⟨#[]⟩,.slice none 0 0,.slice A4 (rowOf encD ds).len kA4,.string o,.slice A6 (encSL sq).len kA6] 72 (0,0)) _ d):=Hd (K24.out.put 6 (.slice A6 (encSL sq).len kA6))
         have O29:Hid (Ov (w.heap.size+1) (w21.setCell ⟨w.heap.size+1,6,none⟩ (.slice A6 (encSL sq).len kA6)) _ _):=Hd (O25.out.put (i:=6) (v:=.slice A6 (encSL sq).len kA6) (Nat.le_refl _))
         have O30:Hid (Ov (w.heap.size+1) (w21.setCell ⟨w.heap.size+1,6,none⟩ (.slice A6 (encSL sq).len kA6)) _ _):=Hd (O26.out.put (i:=6) (v:=.slice A6 (encSL sq).len kA6) (Nat.le_refl _))
         obtain ⟨f1,f2,f3⟩:=S1.fin (ys:=[.int .i64 0,.string ⟨#[]⟩,.string ⟨#[]⟩,.slice none 0 0,.slice none 0 0,.string ⟨#[]⟩,.slice none 0 0]) K28.out [.int .i64 2,.string ⟨#[]⟩,.string ⟨#[]⟩,.slice none 0 0,.slice A4 (rowOf encD ds).len kA4,.string o,.slice A6 (encSL sq).len kA6] rfl
         have Fd:=O29.out.fin (w:=w) (Nat.le_of_lt K28.out.bl) [.int .i64 2,.string ⟨#[]⟩,.string ⟨#[]⟩,.slice none 0 0,.slice A4 (rowOf encD ds).len kA4,.string o,.slice A6 (encSL sq).len kA6]
         have Fs:=O30.out.fin (w:=w) (Nat.le_of_lt K28.out.bl) [.int .i64 2,.string ⟨#[]⟩,.string ⟨#[]⟩,.slice none 0 0,.slice A4 (rowOf encD ds).len kA4,.string o,.slice A6 (encSL sq).len kA6]
         have FP:=HQ.out _ _ (post_ok (a:=.mk 2 eB eB .nil ds o sq) (by simp only [spreadR,inlineR,E5.out,E10.out,E18.out,E27.out,if_true]) ⟨[.int .i64 2,.string ⟨#[]⟩,.string ⟨#[]⟩,.slice none 0 0,.slice A4 (rowOf encD ds).len kA4,.string o,.slice A6 (encSL sq).len kA6],rfl,(by rw [encS];exact TS.int (TS.str (Nat.zero_le _) (TS.str (Nat.zero_le _) (TS.row (show TP _ _ (.row (encM .nil)) _ by rw [encM];exact TP.none _ _) (TS.row Fd (TS.str No.out (TS.row Fs (TS.nil _ _))))))))⟩ f2 f3)
         exact ret_st rfl rfl rfl f1 Tryz.underlying72 ⟨_,rfl⟩ (by kernel_rfl) FP
 | false =>
   rw [hb] at h
   obtain ⟨rfl,rr,mm⟩:=h
   rw [skip_no hb] at rr
   have E31:=Hd hb
   have K32:=Hd (K1.out.next rr mm)
   clear rr mm hb
   go_wp2_with fail
   refine (atWord_any r ts d _ K32.out.rd).mono ?_
   intro e w33 h
   cases hb:wordB ts with
   | true =>
     rw [hb] at h
     obtain ⟨rfl,rfl⟩:=h
     obtain ⟨nm34,nt34,hn34⟩:=word_some hb
     have E35:=Hd hn34
     clear hb hn34
     obtain ⟨y0,y1,y2,y3,y4,y5,y6,yz⟩:=svc K32.out.loc
     have yf0:=yz 0
     have yf1:=yz 1
     have yf2:=yz 2
     have yf3:=yz 3
     have yf4:=yz 4
     have yf5:=yz 5
     have yf6:=yz 6
     clear yz
     go_wp2_with fail
     clear y0 y1 y2 y3 y4 y5 y6 yf0 yf1 yf2 yf3 yf4 yf5 yf6
     have K36:Hid (S1 w r (w2.setCell ⟨w.heap.size+1,0,none⟩ (.int .i64 1)) _ (w.heap.size+1) (.cells #[.int .i64 1,.string ⟨#[]⟩,.string ⟨#[]⟩,.slice none 0 0,.slice none 0 0,.string ⟨#[]⟩,.slice none 0 0] 72 (0,0)) _ d):=Hd (K32.out.put 0 (.int .i64 1))
     refine (pname_any r (ts) d _ K36.out.rd).mono ?_
     intro e w37 h
     rw [E35.out] at h
     obtain ⟨rfl,rr,mm⟩:=h
     have Nnm34:=Hd (G0.out.name E35.out)
     have G38:=Hd (G0.out.sub (name_sfx E35.out).1)
     have L39:=Hd (((name_sfx E35.out).1).trans L0.out)
     have K40:=Hd (K36.out.next rr mm)
     clear rr mm
     obtain ⟨y0,y1,y2,y3,y4,y5,y6,yz⟩:=svc K40.out.loc
     have yf0:=yz 0
     have yf1:=yz 1
     have yf2:=yz 2
     have yf3:=yz 3
     have yf4:=yz 4
     have yf5:=yz 5
     have yf6:=yz 6
     clear yz
     go_wp2_with fail
     clear y0 y1 y2 y3 y4 y5 y6 yf0 yf1 yf2 yf3 yf4 yf5 yf6
     have K41:Hid (S1 w r (w37.setCell ⟨w.heap.size+1,2,none⟩ (.string nm34)) _ (w.heap.size+1) (.cells #[.int .i64 1,.string ⟨#[]⟩,.string nm34,.slice none 0 0,.slice none 0 0,.string ⟨#[]⟩,.slice none 0 0] 72 (0,0)) _ d):=Hd (K40.out.put 2 (.string nm34))
     refine (dirs_any false d (nt34) r _ G38.out hd K41.out.rd K41.out.k).mono ?_
     intro e w42 h
     cases hv:dirsR false d (nt34) with
     | error x =>
       rw [hv] at h
       obtain ⟨rfl,m⟩:=of_err h
       exact ⟨rfl,HQ.out _ _ (per (by simp only [spreadR,inlineR,E31.out,E35.out,hv,if_false,Bool.false_eq_true]) (K41.out.mv.trans m))⟩
     | ok p =>
       obtain ⟨ds,tp42⟩:=p
       rw [hv] at h
       obtain ⟨⟨v,rfl,hl⟩,rr,mm⟩:=of_ok h
       obtain ⟨A4,kA4,rfl,hts⟩:=row_open hl
       have G43:=Hd (G38.out.sub (dirs_sfx hv))
       have L44:=Hd (((dirs_sfx hv)).trans L39.out)
       have K45:=Hd (K41.out.next rr mm)
       have O46:=Hd (Ov.of hts K41.out.blt)
       have E47:=Hd hv
       clear rr mm hv hl hts h
       obtain ⟨y0,y1,y2,y3,y4,y5,y6,yz⟩:=svc K45.out.loc
       have yf0:=yz 0
       have yf1:=yz 1
       have yf2:=yz 2
       have yf3:=yz 3
       have yf4:=yz 4
       have yf5:=yz 5
       have yf6:=yz 6
       clear yz
       obtain ⟨x0,x1,x2,x3,x4,x5,x6,xz⟩:=svc K45.out.res
       have xf0:=xz 0
       have xf1:=xz 1
       have xf2:=xz 2
       have xf3:=xz 3
       have xf4:=xz 4
       have xf5:=xz 5
       have xf6:=xz 6
       clear xz
       go_wp2_with fail
       clear y0 y1 y2 y3 y4 y5 y6 yf0 yf1 yf2 yf3 yf4 yf5 yf6 x0 x1 x2 x3 x4 x5 x6 xf0 xf1 xf2 xf3 xf4 xf5 xf6
       have K48:Hid (S1 w r (w42.setCell ⟨w.heap.size+1,4,none⟩ (.slice A4 (rowOf encD ds).len kA4)) _ (w.heap.size+1) (.cells #[.int .i64 1,.string ⟨#[]⟩,.string nm34,.slice none 0 0,.slice A4 (rowOf encD ds).len kA4,.string ⟨#[]⟩,.slice none 0 0] 72 (0,0)) _ d):=Hd (K45.out.put 4 (.slice A4 (rowOf encD ds).len kA4))
       have O49:Hid (Ov (w.heap.size+1) (w42.setCell ⟨w.heap.size+1,4,none⟩ (.slice A4 (rowOf encD ds).len kA4)) _ _):=Hd (O46.out.put (i:=4) (v:=.slice A4 (rowOf encD ds).len kA4) (Nat.le_refl _))
       obtain ⟨f1,f2,f3⟩:=S1.fin (ys:=[.int .i64 0,.string ⟨#[]⟩,.string ⟨#[]⟩,.slice none 0 0,.slice none 0 0,.string ⟨#[]⟩,.slice none 0 0]) K48.out [.int .i64 1,.string ⟨#[]⟩,.string nm34,.slice none 0 0,.slice A4 (rowOf encD ds).len kA4,.string ⟨#[]⟩,.slice none 0 0] rfl
       have Fd:=O49.out.fin (w:=w) (Nat.le_of_lt K48.out.bl) [.int .i64 1,.string ⟨#[]⟩,.string nm34,.slice none 0 0,.slice A4 (rowOf encD ds).len kA4,.string ⟨#[]⟩,.slice none 0 0]
       have FP:=HQ.out _ _ (post_ok (a:=.mk 1 eB nm34 .nil ds eB .nil) (by simp only [spreadR,inlineR,E31.out,E35.out,E47.out,if_false,Bool.false_eq_true]) ⟨[.int .i64 1,.string ⟨#[]⟩,.string nm34,.slice none 0 0,.slice A4 (rowOf encD ds).len kA4,.string ⟨#[]⟩,.slice none 0 0],rfl,(by rw [encS];exact TS.int (TS.str (Nat.zero_le _) (TS.str Nnm34.out (TS.row (show TP _ _ (.row (encM .nil)) _ by rw [encM];exact TP.none _ _) (TS.row Fd (TS.str (Nat.zero_le _) (TS.row (show TP _ _ (.row (encSL .nil)) _ by rw [encSL];exact TP.none _ _) (TS.nil _ _))))))))⟩ f2 f3)
       exact ret_st rfl rfl rfl f1 Tryz.underlying72 ⟨_,rfl⟩ (by kernel_rfl) FP
   | false =>
     rw [hb] at h
     obtain ⟨rfl,rfl⟩:=h
     have hn50:=word_none hb
     have E51:=Hd hn50
     clear hb hn50
     go_wp2_with fail
     refine (dirs_any false d (ts) r _ G0.out hd K32.out.rd K32.out.k).mono ?_
     intro e w52 h
     cases hv:dirsR false d (ts) with
     | error x =>
       rw [hv] at h
       obtain ⟨rfl,m⟩:=of_err h
       exact ⟨rfl,HQ.out _ _ (per (by simp only [spreadR,inlineR,E31.out,E51.out,hv,if_false,Bool.false_eq_true]) (K32.out.mv.trans m))⟩
     | ok p =>
       obtain ⟨ds,tp52⟩:=p
       rw [hv] at h
       obtain ⟨⟨v,rfl,hl⟩,rr,mm⟩:=of_ok h
       obtain ⟨A4,kA4,rfl,hts⟩:=row_open hl
       have G53:=Hd (G0.out.sub (dirs_sfx hv))
       have L54:=Hd (((dirs_sfx hv)).trans L0.out)
       have K55:=Hd (K32.out.next rr mm)
       have O56:=Hd (Ov.of hts K32.out.blt)
       have E57:=Hd hv
       clear rr mm hv hl hts h
       obtain ⟨y0,y1,y2,y3,y4,y5,y6,yz⟩:=svc K55.out.loc
       have yf0:=yz 0
       have yf1:=yz 1
       have yf2:=yz 2
       have yf3:=yz 3
       have yf4:=yz 4
       have yf5:=yz 5
       have yf6:=yz 6
       clear yz
       go_wp2_with fail
       clear y0 y1 y2 y3 y4 y5 y6 yf0 yf1 yf2 yf3 yf4 yf5 yf6
       have K58:Hid (S1 w r (w52.setCell ⟨w.heap.size+1,4,none⟩ (.slice A4 (rowOf encD ds).len kA4)) _ (w.heap.size+1) (.cells #[.int .i64 2,.string ⟨#[]⟩,.string ⟨#[]⟩,.slice none 0 0,.slice A4 (rowOf encD ds).len kA4,.string ⟨#[]⟩,.slice none 0 0] 72 (0,0)) _ d):=Hd (K55.out.put 4 (.slice A4 (rowOf encD ds).len kA4))
       have O59:Hid (Ov (w.heap.size+1) (w52.setCell ⟨w.heap.size+1,4,none⟩ (.slice A4 (rowOf encD ds).len kA4)) _ _):=Hd (O56.out.put (i:=4) (v:=.slice A4 (rowOf encD ds).len kA4) (Nat.le_refl _))
       refine (HSS.out (tp52) _ G53.out (L54.out.length_le) K58.out.rd K58.out.k).mono ?_
       intro e w60 h
       cases hv:S (tp52) with
       | error x =>
         rw [hv] at h
         obtain ⟨rfl,m⟩:=of_err h
         exact ⟨rfl,HQ.out _ _ (per (by simp only [spreadR,inlineR,E31.out,E51.out,E57.out,hv,if_false,Bool.false_eq_true]) (K58.out.mv.trans m))⟩
       | ok p =>
         obtain ⟨sq,tp60⟩:=p
         rw [hv] at h
         obtain ⟨⟨v,rfl,hl⟩,rr,mm⟩:=of_ok h
         obtain ⟨A6,kA6,rfl,hts⟩:=row_open hl
         have G61:=Hd (G53.out.sub (HFF.out _ _ _ hv).1)
         have L62:=Hd (((HFF.out _ _ _ hv).1).trans L54.out)
         have K63:=Hd (K58.out.next rr mm)
         have O64:=Hd (O59.out.next mm K58.out.rb)
         have O65:=Hd (Ov.of hts K58.out.blt)
         have E66:=Hd hv
         clear rr mm hv hl hts h
         obtain ⟨y0,y1,y2,y3,y4,y5,y6,yz⟩:=svc K63.out.loc
         have yf0:=yz 0
         have yf1:=yz 1
         have yf2:=yz 2
         have yf3:=yz 3
         have yf4:=yz 4
         have yf5:=yz 5
         have yf6:=yz 6
         clear yz
         obtain ⟨x0,x1,x2,x3,x4,x5,x6,xz⟩:=svc K63.out.res
         have xf0:=xz 0
         have xf1:=xz 1
         have xf2:=xz 2
         have xf3:=xz 3
         have xf4:=xz 4
         have xf5:=xz 5
         have xf6:=xz 6
         clear xz
         go_wp2_with fail
         clear y0 y1 y2 y3 y4 y5 y6 yf0 yf1 yf2 yf3 yf4 yf5 yf6 x0 x1 x2 x3 x4 x5 x6 xf0 xf1 xf2 xf3 xf4 xf5 xf6
         have K67:Hid (S1 w r (w60.setCell ⟨w.heap.size+1,6,none⟩ (.slice A6 (encSL sq).len kA6)) _ (w.heap.size+1) (.cells #[.int .i64 2,.string ⟨#[]⟩,.string ⟨#[]⟩,.slice none 0 0,.slice A4 (rowOf encD ds).len kA4,.string ⟨#[]⟩,.slice A6 (encSL sq).len kA6] 72 (0,0)) _ d):=Hd (K63.out.put 6 (.slice A6 (encSL sq).len kA6))
         have O68:Hid (Ov (w.heap.size+1) (w60.setCell ⟨w.heap.size+1,6,none⟩ (.slice A6 (encSL sq).len kA6)) _ _):=Hd (O64.out.put (i:=6) (v:=.slice A6 (encSL sq).len kA6) (Nat.le_refl _))
         have O69:Hid (Ov (w.heap.size+1) (w60.setCell ⟨w.heap.size+1,6,none⟩ (.slice A6 (encSL sq).len kA6)) _ _):=Hd (O65.out.put (i:=6) (v:=.slice A6 (encSL sq).len kA6) (Nat.le_refl _))
         obtain ⟨f1,f2,f3⟩:=S1.fin (ys:=[.int .i64 0,.string ⟨#[]⟩,.string ⟨#[]⟩,.slice none 0 0,.slice none 0 0,.string ⟨#[]⟩,.slice none 0 0]) K67.out [.int .i64 2,.string ⟨#[]⟩,.string ⟨#[]⟩,.slice none 0 0,.slice A4 (rowOf encD ds).len kA4,.string ⟨#[]⟩,.slice A6 (encSL sq).len kA6] rfl
         have Fd:=O68.out.fin (w:=w) (Nat.le_of_lt K67.out.bl) [.int .i64 2,.string ⟨#[]⟩,.string ⟨#[]⟩,.slice none 0 0,.slice A4 (rowOf encD ds).len kA4,.string ⟨#[]⟩,.slice A6 (encSL sq).len kA6]
         have Fs:=O69.out.fin (w:=w) (Nat.le_of_lt K67.out.bl) [.int .i64 2,.string ⟨#[]⟩,.string ⟨#[]⟩,.slice none 0 0,.slice A4 (rowOf encD ds).len kA4,.string ⟨#[]⟩,.slice A6 (encSL sq).len kA6]
         have FP:=HQ.out _ _ (post_ok (a:=.mk 2 eB eB .nil ds eB sq) (by simp only [spreadR,inlineR,E31.out,E51.out,E57.out,E66.out,if_false,Bool.false_eq_true]) ⟨[.int .i64 2,.string ⟨#[]⟩,.string ⟨#[]⟩,.slice none 0 0,.slice A4 (rowOf encD ds).len kA4,.string ⟨#[]⟩,.slice A6 (encSL sq).len kA6],rfl,(by rw [encS];exact TS.int (TS.str (Nat.zero_le _) (TS.str (Nat.zero_le _) (TS.row (show TP _ _ (.row (encM .nil)) _ by rw [encM];exact TP.none _ _) (TS.row Fd (TS.str (Nat.zero_le _) (TS.row Fs (TS.nil _ _))))))))⟩ f2 f3)
         exact ret_st rfl rfl rfl f1 Tryz.underlying72 ⟨_,rfl⟩ (by kernel_rfl) FP
end Go.Proofs.YtpkmbhnikilihaaGreatDoor
