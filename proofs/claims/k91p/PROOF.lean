import PyProof.Rows.All
import Wide.All
import OpenK.AllK
import Wide.FinOn
import PySem.Challenge.RW_linegate_k91_whole_nobody_lost
set_option Elab.async false
set_option linter.all false
set_option maxRecDepth 100000
set_option hygiene false
local macro_rules|`(tactic|exists 20,$p)=>`(tactic|refine ⟨_,$p,@fun H0 S z aq ρ σ H Q d tg ok e q=>?_⟩)
local macro_rules|`(tactic|exists 21,$p)=>`(tactic|refine ⟨_,$p,@fun H0 S z aq ρ σ H Q d tg ok e k=>?_⟩)
local macro_rules|`(tactic|exists 22,$p)=>`(tactic|refine ⟨_,$p,@fun H0 S z aq ρ σ H Q c ok e k=>?_⟩)
local macro_rules|`(tactic|exists 23,$p)=>`(tactic|refine ⟨_,$p,@fun H0 S z aq ρ σ H E o ok e k=>?_⟩)
local macro_rules|`(tactic|exists 24,$p)=>`(tactic|refine ⟨_,$p,@fun H0 S z aq ρ σ H R ds tg ok e k=>?_⟩)
local macro_rules|`(tactic|exists 25,$p)=>`(tactic|refine ⟨_,$p,@fun H0 S z aq ρ σ H E o ok e q=>?_⟩)
local macro_rules|`(tactic|exists 40)=>`(tactic|intro X hP hw hK hc i ah s σ H E I hf st hg)
local macro_rules|`(tactic|exists 41)=>`(tactic|intro H x y d1 d2 f1 f2 d Q r1 r2 e k)
local macro_rules|`(tactic|exists 42)=>`(tactic|intro ah s σ H x y v u Q I rx ry h)
local macro_rules|`(tactic|exists 43)=>`(tactic|intro ah s σ H xs us Q I r h)
local macro_rules|`(tactic|exists 44)=>`(tactic|intro ah s σ H Q I h)
local macro_rules|`(tactic|exists 45)=>`(tactic|intro ah s σ H D I h)
local macro_rules|`(tactic|exists 46)=>`(tactic|(obtain ⟨ta,pa,sa⟩:=ha;obtain ⟨tb,pb,sb⟩:=hb))
local macro_rules|`(tactic|exists 47)=>`(tactic|refine sb (ok.same s1) h_ λH2 y f2 s2 r2 _=>?_)
local macro_rules|`(tactic|exists 48)=>`(tactic|refine A _ _ _ (bg.lt P (by lia)) (bg.lt P (by lia)) (bg.ne P (by lia) (by lia) (by lia)) ?_)
local macro_rules|`(tactic|exists 49)=>`(tactic|exact k H _ (aJ.refl H) (.bl _))
local macro_rules|`(tactic|exists 50)=>`(tactic|refine wpAny_Call_method m.base m.few m.line PySem.F.plainAttrs_dict PySem.F.slot_dict_get PySem.F.type_dict_get (ho.n I h λu s1 x H1 I1 rx q=>?_))
local macro_rules|`(tactic|exists 51)=>`(tactic|obtain⟨z',aW⟩:=ok.put g2 bR zz ((aV.of s1).trans im) (λc o n e=>by rw[aP λq=>n (by rw[q];exact h5 l aad)];exact s1 c o e) k1 k2 k3)
local macro_rules|`(tactic|exists 52)=>`(tactic|obtain⟨x,mx,rfl⟩:=abY.mp m)
local macro_rules|`(tactic|exists 53)=>`(tactic|obtain⟨f0,f1,f2,f3,f4,f5⟩:=hf it (by simp))
local macro_rules|`(tactic|exists 54)=>`(tactic|rcases g with⟨ak,k,e,ey,l⟩|⟨ak,k,b,e,ey,eb,l⟩)
local macro_rules|`(tactic|exists 55)=>`(tactic|refine q ok h λH1 v fp s1 r1 g1=>?_)
local macro_rules|`(tactic|exists 56)=>`(tactic|rw[show ay.toArray.any (iT x)=ay.any (iT x) by simp,yr r fs])
local macro_rules|`(tactic|exists 57)=>`(tactic|rw[show fH f v ((k,x)::r)=(if k=f then(k,v)::r else(k,x)::fH f v r) from rfl])
local macro_rules|`(tactic|exists 58)=>`(tactic|obtain⟨z,hd,vs,rel,dd⟩:=m8 I.aK e)
local macro_rules|`(tactic|exists 59)=>`(tactic|obtain rfl:u=Value.ref a:=rx)
local macro_rules|`(tactic|exists 60)=>`(tactic|obtain⟨b0,dx,fs,u,gf,rfl,h1,h2,h3,h4,h5,h6⟩:=r.place hC.ns zz.1 hl)
local macro_rules|`(tactic|exists 61)=>`(tactic|obtain⟨t,p,q⟩:=ha)
local macro_rules|`(tactic|exists 62)=>`(tactic|refine⟨λd hd=>?_,λhl=>⟨xs,hq,by rw[<- rs.length];exact hl⟩⟩)
local macro_rules|`(tactic|exists 63)=>`(tactic|simp only[PyData.hasDict])
local macro_rules|`(tactic|exists 64)=>`(tactic|rw[List.length_map,List.length_map] at this)
local macro_rules|`(tactic|exists 65)=>`(tactic|obtain⟨t,rfl⟩:=rx)
local macro_rules|`(tactic|exists 66)=>`(tactic|refine sa ok e1 λH1 x f1 s1 r1 _=>?_)
local macro_rules|`(tactic|exists 67)=>`(tactic|obtain⟨a,xs,f,rfl,hq,rs,_⟩:=r.dD)
local macro_rules|`(tactic|exists 68)=>`(tactic|dsimp only at e)
local macro_rules|`(tactic|exists 69)=>`(tactic|exact absurd hm (by decide +kernel))
local macro_rules|`(tactic|exists 70)=>`(tactic|refine⟨.inl ⟨rfl,_,hq⟩,?_⟩)
local macro_rules|`(tactic|exists 71)=>`(tactic|cases(show u=Value.ref b from ry))
local macro_rules|`(tactic|exists 72)=>`(tactic|cases(show u=Value.ref a from rx))
local macro_rules|`(tactic|exists 73)=>`(tactic|obtain⟨hi,e⟩:=ci e)
set_option hygiene true
noncomputable section
abbrev aab:=@List.mem_cons_of_mem
abbrev aad:=@List.mem_cons_self
abbrev aao:=@List.map_cons
abbrev aaq:=@decide_eq_true
abbrev aas:=@List.mem_append_right
abbrev aax:=@PySem.Heap.get?_push_of_some
abbrev aaA:=@List.mem_cons
abbrev aaC:=@of_decide_eq_true
abbrev aaU:=@List.mem_singleton
abbrev aaV:=@Bool.and_eq_true
abbrev aa9:=@List.getElem?_eq_getElem
abbrev abb:=@PySem.wpAny_bind
abbrev abj:=@List.mem_append_left
abbrev abk:=@Bool.false_ne_true
abbrev abl:=@List.mem_append
abbrev abD:=@List.length_append
abbrev abL:=@Nat.le_refl
abbrev abP:=@List.getElem?_eq_some_iff
abbrev abY:=@List.mem_map
abbrev ab2:=@PySem.Heap.lt_size
abbrev ab4:=@List.nodup_cons
abbrev ab5:=@List.size_toArray
abbrev ab8:=@decide_eq_false
abbrev acf:=@Option.some.inj
abbrev ach:=@Option.map_eq_some_iff
abbrev acj:=@List.length_cons
abbrev acn:=@List.getElem?_map
abbrev acC:=@PySem.Heap.get?_push_size
abbrev acG:=@List.append_nil
abbrev acO:=@List.mem_filter
abbrev acR:=@List.nodup_append
abbrev acS:=@List.getElem?_set_ne
abbrev acW:=@List.nodup_nil
abbrev acX:=@Nat.ne_of_lt
abbrev ac0:=@Option.bind_some
abbrev ac1:=@PySem.wpAny_pure
abbrev ac3:=@Nat.lt_of_lt_of_le
abbrev adb:=@List.getD_eq_getElem?_getD
abbrev ade:=@List.map_map
abbrev adk:=@Nat.le_trans
abbrev adp:=@List.map_append
abbrev adt:=@List.all_eq_true
abbrev adz:=@beq_eq_false_iff_ne
abbrev adA:=@List.find?_cons
abbrev adB:=@List.not_mem_nil
abbrev adR:=@List.length_singleton
abbrev adS:=@List.pairwise_cons
abbrev adU:=@List.mem_of_getElem?
abbrev adY:=@List.any_eq_true
abbrev ad0:=@List.getElem?_append_left
abbrev ad9:=@PySem.Heap.get?_update_other
abbrev aea:=@List.getElem?_set_self
abbrev aeb:=@List.getElem?_append_right
abbrev aeg:=@List.lookup_cons
abbrev aen:=@beq_self_eq_true
abbrev aeD:=@List.filterMap_cons
abbrev aeK:=@Nat.zero_le
abbrev aeR:=@List.prefix_refl
abbrev ae0:=@PySem.wpAny_mono
abbrev ae6:=@PySem.sizeLine_eq
abbrev afa:=@List.foldl_cons
abbrev afc:=@List.filterMap_map
abbrev afd:=@List.contains_iff_mem
abbrev afe:=@Nat.lt_irrefl
abbrev afh:=@Option.bind_eq_some_iff
abbrev afq:=@List.filter_sublist
abbrev afB:=@List.append_assoc
abbrev afI:=@Array.length_toList
abbrev afN:=@Array.getD_eq_getD_getElem?
abbrev afO:=@List.length_filter_le
abbrev afR:=@PySem.wpAny_truthy_bool
abbrev afS:=@PySem.wpAny_Call_Name_kw
abbrev afT:=@List.length_set
abbrev afU:=@List.mem_of_find?_eq_some
abbrev afV:=@List.any_cons
abbrev afX:=@List.map_congr_left
abbrev afY:=@Nat.le_of_lt
abbrev afZ:=@Ne.symm
abbrev af0:=@PyProof.Rows.callWith_type1
abbrev af1:=@PySem.tupleKind_room_in1
abbrev af2:=@List.cons.injEq
abbrev af3:=@List.find?_eq_none
abbrev af4:=@PySem.Around.under_plainId
abbrev af5:=@Nat.ne_of_gt
abbrev af7:=@List.exists_cons_of_ne_nil
abbrev af8:=@List.find?_cons_of_neg
abbrev af9:=@Bool.eq_false_iff
abbrev agb:=@List.pairwise_map
abbrev agc:=@Classical.byContradiction
abbrev agd:=@Option.isSome_iff_exists
abbrev agf:=@Bool.and_self
abbrev agg:=@Option.isSome_map
abbrev agh:=@PySem.codeAny_builtin
abbrev agi:=@PySem.Heap.get?_update_ne
abbrev agj:=@List.filter_eq_nil_iff
abbrev agk:=@Array.perm_iff_toList_perm
abbrev agl:=@Nat.lt_succ_self
abbrev agm:=@PySem.F.plain_min_loop
abbrev agn:=@PySem.wpAny_holding
abbrev ago:=@PySem.Heap.get?_update_self
abbrev agp:=@Nat.lt_of_le_of_lt
abbrev agq:=@Bool.false_eq_true
abbrev agr:=@or_false
abbrev ags:=@List.prefix_append
abbrev agt:=@PySem.wpAny_passesOwn
abbrev agu:=@List.length_range
abbrev agv:=@Nat.zero_add
abbrev agw:=@List.any_map
abbrev agx:=@Sum.inl.inj
abbrev agy:=@List.getElem?_replicate
abbrev agz:=@PySem.plainId_quiet
abbrev agA:=@List.filter_cons
abbrev agB:=@Option.getD_some
abbrev agC:=@List.eq_nil_of_length_eq_zero
abbrev agD:=@decide_eq_decide
abbrev agE:=@Option.ite_none_right_eq_some
abbrev agF:=@beq_iff_eq
abbrev agG:=@PySem.Heap.size_push
abbrev agH:=@PySem.Calls.callWith_builtin
abbrev agI:=@List.append_eq_nil_iff
abbrev agJ:=@PySem.Calls.spliced_cons
abbrev agK:=@List.find?_some
abbrev agL:=@PySem.wpAny_newObj_type
abbrev agM:=@decide_eq_true_eq
abbrev agN:=@Bool.and_eq_true_iff
abbrev agO:=@PySem.Heap.get?_none_of_le
abbrev agP:=@PySem.Calls.evalArgs_plain
abbrev agQ:=@List.getElem?_of_mem
abbrev agR:=@Classical.not_forall
abbrev agS:=@List.mem_range
abbrev agT:=@PySem.wpAny_tryCatch
abbrev agU:=@List.drop_eq_getElem_cons
abbrev agV:=@List.pairwise_iff_getElem
abbrev agW:=@List.length_take
abbrev agX:=@List.map_nil
abbrev agY:=@List.all_map
abbrev agZ:=@Prod.mk.injEq
abbrev ag0:=@List.mem_filterMap
abbrev ag1:=@Bool.eq_iff_iff
abbrev ag2:=@List.all_cons
abbrev ag3:=@PySem.wpAny_updateSeq
abbrev ag4:=@Bool.or_eq_true
abbrev ag5:=@Nat.lt_succ_of_lt
abbrev ag6:=@List.find?_append
namespace L2
open PySem PySem.Spec
open PySem PySem.Spec PyProof.Rows
noncomputable def vY(o:Obj):Option (Value×Str×Pos):=match o.data with
 |.func fd=>match fd.body with
  |.stmts [.Return (some (.Call _ _ [⟨_,.Lambda _ _ _ pos,_⟩] _)) _]=>some (fd.code,fd.qualname++".<locals>."++"<lambda>",pos)
  |_=>none
 |_=>none
def Cg(K:PySem.W.Frag)(p:Addr×Obj):Option (Addr×Addr×Str×Pos):=match vY p.2 with
 |some (.ref c,q,pos)=>match K.lookup c with
  |some ⟨_,_,.fields vs,_⟩=>match(vs[11]? : Option Value) with
   |some (.ref P)=>some (c,P,q,pos)
   |_=>none
  |_=>none
 |_=>none
def i_(K:PySem.W.Frag):List (Addr×Addr×Str×Pos):=K.filterMap (Cg K)
noncomputable def m_(K:PySem.W.Frag):Bool:=K.all λp=>match p.2.data with
 |.seq ay _=>ay.size==0||ay.toList.any λv=>match v with|.int _ _=>false|_=>true
 |_=>true
def zc(K:PySem.W.Frag):Bool:=(m_ K&&K.all λp=>(vY p.2).isNone||(Cg K p).isSome)&&match i_ K with
 |[]=>true
 |[r]=>PySem.W.codeHdIn K r.1 r.2.1&&(K.lookup r.2.1).isNone
 |_=>false
end L2
namespace L2
open PySem PySem.Spec PyProof.Rows
noncomputable def inClass(s:Stmt)(j:Nat):Stmt:=match s with
 |.ClassDef _ _ _ body _ _ _ _ _ _ _=>body.getD j (.Pass ⟨0,0,0,0⟩)
 |_=>.Pass ⟨0,0,0,0⟩
noncomputable def mD(s:Stmt):Arguments:=match s with
 |.FunctionDef _ a _ _ _ _ _ _ _ _=>a
 |_=>{ posonlyargs:=[],args:=[],vararg:=none,kwonlyargs:=[],kw_defaults:=[],kwarg:=none,defaults:=[] }
noncomputable def ie(s:Stmt):List Stmt:=match s with
 |.FunctionDef _ _ b _ _ _ _ _ _ _=>b
 |_=>[]
noncomputable def cT(s:Stmt):Scope:=match s with
 |.FunctionDef _ _ _ _ _ _ sc _ _ _=>sc
 |_=>{ kind:=.function,names:=[],isGenerator:=false,isCoroutine:=false }
theorem tabs_ok{K:Params->PySem.W.Frag}{e:∀P,as=(K P).map (·.1)}(h:∀w:World,(i_ (K w.params)).map (·.2.1)=ts)(w:World)(hp:Heap)(Y:(PySem.W.kmHook K as e ts).says w hp):∀r∈i_ (K w.params),hp.get? r.2.1=some (PySem.W.tabObj #[]):=
 λr m=>PySem.W.km_tabs_of Y _ (by rw[<- h w];exact List.mem_map_of_mem m)
end L2
namespace L2.Ev
open PySem PySem.Spec PySem.W PyProof.Rows
structure Ls where
 bt:List Str
 gi:List (Str×Int)
 tp:List (Str×List Str)
 cl:List Str
 na:List (Str×Str)
 ni:Bool
noncomputable def cA(K:Frag)(c:Str):Addr:=match nsIn K mainGlobals c with
 |some (some (.ref a))=>a
 |_=>0
noncomputable def ju:Stmt->Str
 |.FunctionDef x ..=>x
 |_=>Str.empty
def jU(c:Str)(s:Stmt):Str:=if c==Str.empty then ju s else c++"."++ju s
noncomputable def strOf:Value->Option Str
 |.str s _=>some s
 |_=>none
def DE(K:Frag)(x:Str)(l:List Str):Bool:=match nsIn K mainGlobals x with
 | some (some (.ref a))=>(match K.lookup a with
  |some ⟨c,none,.seq ay _,_⟩=>c == .type "tuple"&&decide (ay.size<=sizeLine)&&ay.toList.map strOf==l.map some
  |_=>false)
 |_=>false
noncomputable def QB(K:Frag)(x:Str)(n:Int):Bool:=match nsIn K mainGlobals x with
 |some (some (.int m _))=>m==n
 |_=>false
def xw(K:Frag)(c:Str):Bool:=nsIn K mainGlobals c==some (some (.ref (cA K c)))&&plainGet K (cA K c) Str.empty&&hasDictIn K (cA K c)&&plainOver K (cA K c)&&findIn K (.ref (cA K c)) "__setattr__" == some (some (.builtin "object.__setattr__"))&&makesIn K (cA K c)&&keepIn K (.ref (cA K c))
def ug(L:Ls)(K:Frag):Bool:=(!L.ni||m_ K)&&L.bt.all (λx=>nsIn K mainGlobals x==some none)&&L.gi.all (λp=>QB K p.1 p.2)&&L.tp.all (λp=>DE K p.1 p.2)&&L.cl.all (xw K)&&L.na.all (λp=>findIn K (.ref (cA K p.1)) p.2==some none)
noncomputable def Lu(fd:FuncData):FuncData:={ fd with kwdefaults:=.none,doc:=.none,pyModule:=.none,annotations:=none,code:=.none,closureTuple:=.none }
def IQ(K:Frag)(q:Str):Option (Option Value)->Option FuncData
 | some (some (.ref a))=>(match K.lookup a with
  |some ⟨_,_,.func fd,_⟩=>if(codeIn K fd.code q&&keepIn K (.ref a)&&isFn K (.ref a))=true then some (Lu fd) else none
  |_=>none)
 |_=>none
def look(K:Frag)(p:Str×Stmt):Option FuncData:=IQ K (jU p.1 p.2) (if p.1==Str.empty then nsIn K mainGlobals (ju p.2) else findIn K (.ref (cA K p.1)) (ju p.2))
def want(p:Str×Stmt):Option FuncData:=some (fnOf (ju p.2) (jU p.1 p.2) (mD p.2) (ie p.2) (cT p.2) .none .none .none .none none .none .none)
end L2.Ev
namespace K91
open PySem L2 L2.Ev
noncomputable def top(i:Nat):Stmt:=PySem.Challenge.pw_linegate_k91_whole_nobody_lost.main.body.getD i (.Pass ⟨0,0,0,0⟩)
noncomputable def L:Ls:=⟨["all","bool","dict","enumerate","int","isinstance","len","list","min","range","repr","sorted","tuple","zip"],[("GREATEST_RANK",9),("GREATEST_SLOT",999),("GREATEST_VALUE",1000000000),("MOST_CHANGES",60),("MOST_EDITS",20),("MOST_HANDS",8),("MOST_TRIES",20),("MOST_WIDTH",16)],[("BAD_WORDS",["no","unsure"]),("WORDS",["yes","no","unsure"])],["Changes","Gate","Tally"],[("Changes","entries"),("Gate","answers"),("Gate","breaks"),("Gate","ended"),("Gate","grounds"),("Gate","grown"),("Gate","halted"),("Gate","known"),("Gate","laid_ones"),("Gate","looks"),("Gate","numbers"),("Gate","on_line"),("Gate","tallies"),("Tally","heard"),("Tally","need"),("Tally","tries")],true⟩
end K91
namespace HT
open PySem PySem.W PyProof.Rows
noncomputable def JY:List Obj->List Obj
 |[]=>[]
 |[a]=>[a]
 |a::_::l=>a::JY l
def DN:Nat->List Obj->BT
 |0,_=>.nil
 |_+1,[]=>.nil
 |k+1,o::l=>.node o (DN k (JY l)) (DN k (JY l.tail))
noncomputable def pV(tb:String->Option Builtin)(p:Program)(w:World)(zK:Nat)(ann:Option Value):Nat->SharedT->Thread->Option SharedT
 |0,_,_=>none
 |k+1,s,t=>match through t with
  |true=>some s
  |false=>match stepOk zK ann t with
   |false=>none
   |true=>match stepT (denote tb) p w s t with
    |none=>none
    |some (s',t')=>pV tb p w zK ann k s' t'
theorem RT:∀{k} {s s'} {t},pV tb p w zK ann k s t=some s'->topRun tb p w zK ann k s.abs t=some s'.abs
 |0,_,_,_,h=>by cases h
 |k+1,s,s',t,h=>by
  unfold pV at h;unfold topRun;cases e:through t with
  |true=>rw[e] at h;cases h;rfl
  |false=>
   rw[e] at h;cases o:stepOk zK ann t with
   |false=>rw[o] at h;cases h
   |true=>
    rw[o] at h;cases g:stepT (denote tb) p w s t with
    |none=>rw[g] at h;cases h
    |some r=>obtain⟨s2,t2⟩:=r;rw[g] at h;rw[stepT_spec g];exact RT h
def GC(P:Params):BT:=DN 12 (boot_heap P).objs.toList
noncomputable def nY:Nat:=11
theorem aes(P:Params):(boot_heap P).objs.size=nY:=by kernel_rfl
theorem boot_abs(P:Params):absHeap (GC P) nY (boot_heap P).life=boot_heap P:=by kernel_rfl
def sW(P:Params)(os:OsState):SharedT:=⟨GC P,nY,(boot_heap P).life,Array.mk [],boot_drawn,boot_toks,os⟩
theorem VM
  (he:opening p=plainProg p.main.scope.names) (hf:∀s,fenceModules? p s=some s) (hN:Nat.ble 600 N=true)
  (hz:∀P:Params,((boot_heap P).isNs mainGlobals,(boot_heap P).nsMap mainGlobals "__annotations__")=(true,ann))
  (h:∀(w) (os),(pV treeTable p w nY ann N (sW w.params os) (topStub p)).map (λsT=>
    ((staticsOk (importedModules p.main.body) (boot_heap w.params) sT.abs.heap&&namesBound p sT.abs.heap&&gensDone sT.abs&&laidKept (boot_heap w.params) sT.abs.heap),openSeen q loose (importedModules p.main.body) Xt true sT.abs,Yf sT.abs))=some (true,openGood q loose,Ya w)) :
  LeftO p q loose Xt Yf Ya N:=λw=>by
 obtain⟨⟨hh,gs,d,k,os⟩,e,e'⟩:=ach.mp (boot_open he hN hf w);obtain⟨rfl,rfl,rfl,rfl⟩:hh=boot_heap w.params/\gs=Array.mk []/\d=boot_drawn/\k=boot_toks:=by simpa using e'
 obtain⟨z1,z2⟩:_/\_:=by simpa only[agZ] using hz w.params
 obtain⟨sT,r,l⟩:=ach.mp (h w os);obtain⟨l1,l2,l3⟩:_/\_/\_:=by simpa only[agZ] using l
 have r':=RT r;have ab:(sW w.params os).abs=⟨boot_heap w.params,Array.mk [],boot_drawn,boot_toks,os⟩:=by
  show Shared.mk (absHeap (GC w.params) nY (boot_heap w.params).life) _ _ _ _=_;rw[boot_abs];rfl
 rw[ab] at r';have t:topFrom treeTable p w N ⟨boot_heap w.params,Array.mk [],boot_drawn,boot_toks,os⟩=some sT.abs:=by
  unfold topFrom;dsimp only;rw[z1,z2,aes,r'];show(match staticsOk (importedModules p.main.body) (boot_heap w.params) sT.abs.heap&&namesBound p sT.abs.heap&&gensDone sT.abs&&laidKept (boot_heap w.params) sT.abs.heap with|true=>_|false=>_)=_;rw[l1]
 unfold openEnds;rw[e];show(topFrom treeTable p w N _).map _=_;rw[t];exact congrArg some (Prod.ext l2 l3)
theorem aew
  (he:opening p=plainProg p.main.scope.names) (hf:∀s,fenceModules? p s=some s) (hN:Nat.ble 600 N=true)
  (hz:∀P:Params,((boot_heap P).isNs mainGlobals,(boot_heap P).nsMap mainGlobals "__annotations__")=(true,ann))
  (h1:∀(w) (os),(pV treeTable p w nY ann N (sW w.params os) (topStub p)).map (λsT=>((staticsOk (importedModules p.main.body) (boot_heap w.params) sT.abs.heap&&namesBound p sT.abs.heap&&gensDone sT.abs&&laidKept (boot_heap w.params) sT.abs.heap),openSeen q loose (importedModules p.main.body) Xt true sT.abs))=some (true,openGood q loose))
  (h3:∀(w) (os),(pV treeTable p w nY ann N (sW w.params os) (topStub p)).map (λsT=>Yf sT.abs)=some (Ya w)) :
  LeftO p q loose Xt Yf Ya N:=VM he hf hN hz λw os=>by
 obtain⟨sT,r,e1⟩:=ach.mp (h1 w os);have e3:=h3 w os;rw[r] at e3 ⊢;have e3:=acf e3;obtain⟨e1,e2⟩:_/\_:=by simpa only[agZ] using e1
 show some (_,_,_)=some (true,openGood q loose,Ya w);rw[e1,<- e2,<- e3]
noncomputable def tg(s:SharedT)(a:Nat):Option Obj:=match Nat.blt a s.n with
 |true=>match s.tree.get a with
  |some o=>alive o
  |none=>none
 |false=>none
theorem Xk(h:tg s a=some o):s.abs.heap.get? a=some o:=by
 unfold tg at h;cases e:Nat.blt a s.n with
 |false=>rw[e] at h;cases h
 |true=>
  rw[e] at h;dsimp only at h;cases g:s.tree.get a with
  |none=>rw[g] at h;cases h
  |some o'=>
   rw[g] at h;have cU:a<s.n:=by simpa using e
   exact(abs_get cU g).trans h
theorem JN:∀{as:List Addr}{os:List Obj},as.map (tg s)=os.map some->as.map s.abs.heap.get? = os.map some
 |[],[],_=>rfl
 |[],_::_,h=>by cases h
 |_::_,[],h=>by cases h
 |a::as,o::os,h=>by
  rw[aao,aao] at h;injection h with h1 h2;rw[aao,aao,Xk h1,JN h2]
end HT
namespace HT
open PySem PySem.W PyProof.Rows
variable{K:Params->Frag}
theorem left_Tkm(he:opening p=plainProg p.main.scope.names)(hf:∀s,fenceModules? p s=some s)(hN:Nat.ble 600 N=true)
  (hz:∀P:Params,((boot_heap P).isNs mainGlobals,(boot_heap P).nsMap mainGlobals "__annotations__")=(true,ann))
  (h1:∀(w:World) (os),(pV treeTable p w nY ann N (sW w.params os) (topStub p)).map (λsT=>((staticsOk (importedModules p.main.body) (boot_heap w.params) sT.abs.heap&&namesBound p sT.abs.heap&&gensDone sT.abs&&laidKept (boot_heap w.params) sT.abs.heap),openSeen q loose (importedModules p.main.body) Xt true sT.abs))=some (true,openGood q loose))
  (h3:∀(w) (os),(pV treeTable p w nY ann N (sW w.params os) (topStub p)).map (λsT=>(as.map (tg sT),ts.map (tg sT)))=some (((K w.params).map (·.2)).map some,(ts.map λ_=>tabObj #[]).map some)) :
  LeftO p q loose Xt (Hook.obs (kmHook K as e ts)) (Hook.val (kmHook K as e ts)) N:=aew he hf hN hz h1 λw os=>by
 obtain⟨sT,r,e1⟩:=ach.mp (h3 w os);obtain⟨e1,e2⟩:_/\_:=by simpa only[agZ] using e1
 rw[r];show some (as.map sT.abs.heap.get?,ts.map sT.abs.heap.get?)=some ((K w.params).map λp=>some p.2,ts.map λ_=>some (tabObj #[]));rw[JN e1,JN e2,ade,ade];rfl
end HT
namespace K91
open PySem L2 L2.Ev
def tab:List (Str×Stmt):=[48,49,11,41,54,52,53,19,20,17,26,32,31,33,30,28,29,16,36,35,62,50,51,12,18,63,55,60,57,56,58,59,61,64].map (λi=>(Str.empty,top i))++[0,2,9,10,4,5,3,11,1,8].map (λi=>(("Changes":Str),inClass (top 25) i))++[0,19,8,7,10,12,22,24,21,20,11,26,13,27,25,29,28,23,3,1,2,4,5,6,9,17].map (λi=>(("Gate":Str),inClass (top 46) i))++[3,1,0].map (λi=>(("Tally":Str),inClass (top 40) i))
noncomputable def isNm:Stmt->Bool
 |.FunctionDef x ..=>!(x == "law")
 |_=>true
noncomputable def lo:List Str:=(["_wall","LinegateError","NoFit","NoChange","TooMany","NoRule","NoAnswer","NoLook","TooLate","within","rising","GREATEST_SLOT","GREATEST_VALUE","unfit","edited_in_turn","are_edits","misfit","sheet_of_values","MOST_CHANGES","MOST_EDITS","GREATEST_RANK","Changes","sheet_of","free","filled","first_fitting","in_turn","values_behind","fits","wanted_places","middle_of_gap","WORDS","MOST_TRIES","Tally","makes_tally","MOST_WIDTH","MOST_HANDS","BAD_WORDS","Gate","_law_draw","_law_settings","_law_edits","_law_spec","_law_word","_law_told","_law_way","_law_sheet","_law_unfit","_law_leans_right","_law_ground_right","_law_outs_right","_law_all_there","_law_changes_right","_law_answered","_law_done"]:List String).map Str.ofString
def vw:Program:={ PySem.Challenge.pw_linegate_k91_whole_nobody_lost with main:={ (PySem.Challenge.pw_linegate_k91_whole_nobody_lost).main with body:=(PySem.Challenge.pw_linegate_k91_whole_nobody_lost).main.body.filter λs=>!isNm s } }
def Wk:Prop:=∀{YP:World->Heap->Prop}{K:Params->PySem.W.Frag}{d:DefRec},(∀(w:World) (h:Heap),YP w h->(K w.params).In h)->(∀(w:World) (h:Heap),YP w h->∀r∈i_ (K w.params),h.get? r.2.1=some (PySem.W.tabObj #[]))->(∀w:World,zc (K w.params)=true)->(∀w:World,ug L (K w.params)=true)->(∀w:World,tab.map (look (K w.params))=tab.map want)->d.params.defaults=[]->d.name="law"->PySem.W.WalkO vw lo (PySem.W.XL vw []) YP (PySem.W.OpenLaw.row PySem.Challenge.rw_linegate_k91_whole_nobody_lost).toRowW d [] (λf vs=>PySem.call f vs)
end K91
namespace K91
open PySem L2 L2.Ev
open PySem PySem.W PyProof.Rows L2 L2.Ev
def xt(s:Shared):Bool:=xlAt vw [] s&&recOk (RowW.records (OpenRow.toRowW (OpenLaw.row PySem.Challenge.rw_linegate_k91_whole_nobody_lost))) s
theorem xt1(s:Shared)(e:xt s=true):XL vw [] (s.heap.nsMap mainGlobals) s.heap:=xl_of s (agN.mp e).1
theorem rn(w:World)(os:OsState):(HT.pV treeTable PySem.Challenge.pw_linegate_k91_whole_nobody_lost w HT.nY (some (.ref 6)) 20000 (HT.sW w.params os) (topStub PySem.Challenge.pw_linegate_k91_whole_nobody_lost)).map (λsT=>((staticsOk (importedModules (PySem.Challenge.pw_linegate_k91_whole_nobody_lost).main.body) (boot_heap w.params) sT.abs.heap&&namesBound PySem.Challenge.pw_linegate_k91_whole_nobody_lost sT.abs.heap&&gensDone sT.abs&&laidKept (boot_heap w.params) sT.abs.heap),openSeen vw lo (importedModules (PySem.Challenge.pw_linegate_k91_whole_nobody_lost).main.body) xt true sT.abs))=some (true,openGood vw lo):=by kernel_rfl
theorem xt2(s:Shared)(e:xt s=true):RecFacts (RowW.records (OpenRow.toRowW (OpenLaw.row PySem.Challenge.rw_linegate_k91_whole_nobody_lost))) s.heap:=recFacts_of (agN.mp e).2
local macro_rules | `(tactic| o_head $H)=>`(tactic| (refine PySem.W.holds_open (q:=K91.vw) (loose:=K91.lo) (N:=20000) (Xt:=K91.xt) (XP:=XL K91.vw []) (Yf:=Hook.obs $H) (Ya:=Hook.val $H) (YP:=Hook.says $H) ?hl (Hook.of $H) (Hook.keeps $H) K91.xt1 XL.keeps (by rfl) (by rfl) (by rfl) K91.xt2 (by rfl) (by assumption) (by decide +kernel) ⟨rfl,rfl,rfl,rfl,rfl,by decide +kernel⟩ ?hw ?hc;(case hl=>exact HT.left_Tkm (ann:=some (.ref 6)) (by rfl) (fun _=>rfl) (by decide) (fun _=>by kernel_rfl) K91.rn fun w os=>by kernel_rfl);(case hw=>w_witness2)))
theorem wsd:OpenLaw.wellSaid PySem.Challenge.rw_linegate_k91_whole_nobody_lost=true:=by kernel_rfl
set_option maxHeartbeats 0 in
theorem early(H:Wk):PySem.Challenge.rw_linegate_k91_whole_nobody_lost.Holds:=by
 w_on;refine holds_law wsd λaf6=>?_;k_head
 k_fill
 exact H (λw h Y=>PySem.W.km_in_of Y) (L2.tabs_ok λw=>by kernel_rfl) (λw=>by kernel_rfl) (λw=>by kernel_rfl) (λw=>by kernel_rfl) rfl rfl
end K91
local macro_rules | `(tactic| walk_at "va")=>`(tactic| exact ⟨rfl,by first | exact Or.inl rfl | exact Or.inr (Or.inl rfl) | exact Or.inr (Or.inr rfl),by decide,by decide⟩)
local macro_rules | `(tactic| exists $h:ident, $x, $w:ident, $e:ident) => `(tactic| (rcases $h:ident : $x:term with _ | $w:ident; (rw [$h:ident] at $e:ident; cases $e:ident); rw [$h:ident] at $e:ident))
local macro_rules | `(tactic| exists $h:ident, $x, $w:ident, $e:ident, 0) => `(tactic| (rcases $h:ident : $x:term with _ | $w:ident; (rw [$h:ident] at $e:ident; cases $e:ident)))
theorem ci{c:Prop}[Decidable c]{α:Type}{a:Option α}{y:α}(e:(if c then a else none)=some y):c/\a=some y:=by
 by_cases h:c
 .rw[if_pos h] at e;exact⟨h,e⟩
 .rw[if_neg h] at e;cases e
namespace L2
open PySem PySem.Spec
theorem VB:entryFor table "proto.unchain"=some Builtin.«proto.unchain»:=entryFor_of_tree (by kernel_rfl)
theorem afv{α:Type}{Q:α->Shared->Prop}(hh:A.handled=some (.ref h))(he:s.heap.get? e=some oe)(hd:oe.data=.fields ve)(h2:2<ve.size)
  (hx:s.heap.get? h=some oh) (Gf:oh.data=.fields vh) (Jf:vh[2]? = some .none) (ne:h≠e) (q:E (.ref e) { s with heap:=s.heap.update e (Obj.mapFields (·.setIfInBounds 2 (.ref h))) }):wpAny (model prog w) A (raiseNew (.ref e):Sem α) Q E s:=by
 unfold raiseNew;refine abb (wpAny_handled ?_);rw[hh];dsimp only;rw[if_pos (by simpa using ne)];refine abb (agn (wpAny_runValue (agh VB ?_)));unfold Builtin.«proto.unchain»;refine abb (wpAny_field hx Gf Jf ?_);rw[if_pos (by rfl)];refine ac1 ?_;refine abb ?_;unfold updateField;refine abb (wpAny_load he ?_);rw[hd];dsimp only;rw[if_pos h2];exact wpAny_update' he (wpAny_throw q)
theorem aaB{prog:Program}{w:World}{A:Around}{E:Value->Shared->Prop}{s:Shared}{it h:Addr}{x left step:Int}{oh:Obj}{vh:Array Value}{Q:Option Value->Shared->Prop}(hh:A.handled=some (.ref h))(hx:s.heap.get? h=some oh)(Gf:oh.data=.fields vh)(Jf:vh[2]? = some .none)(hit:IsRangeIter s.heap it x left step)(Zi:left<=0)
  (hQ:∀h',Heap.ExtBut it s.heap h'->Q none { s with heap:=h' }):wpAny (model prog w) A (pyNext (.ref it)) Q E s:=by
 have hT:s.TypeIs (.ref it) "range_iterator":=⟨_,hit,rfl⟩
 unfold pyNext;refine abb (wpAny_attempt (wpAny_callSpecial?_slot hT F.slot_range_iterator_next
  (wpAny_call_entry F.slot_range_iterator_next hT F.entry_range_iterator_next ?_ (F.args_range_iterator_next_1 _))))
 show wpAny _ _ (field (.ref it) 0 >>= _) _ _ s;refine abb (wpAny_field hit rfl rfl ?_);refine abb (wpAny_field hit rfl rfl ?_);refine abb (wpAny_field hit rfl rfl ?_);show wpAny _ _ (if left<=0 then _ else _) _ _ s;rw[if_pos Zi];refine abb (wpAny_rule ?_);refine abb ?_;refine abb ?_;simp only[newExc,newTuple];refine abb (agL ?_ (by size_fits));refine abb (wpAny_of_eq (by first|rfl|(simp only[firstArgMember];rfl)) ?_);refine agL ?_ (by size_fits);have hn:h≠(s.heap.push { cls:=.type "tuple",dict:=none,data:=.seq ([]:List Value).toArray }).objs.size:=acX (ab2 (aax _ hx));refine afv (by first|exact hh|(show A.in1.handled=_;exact hh)) (acC _ rfl) rfl (by simp<;>lia) (aax _ (aax _ hx)) Gf Jf hn ?_;refine abb (wpAny_isInstance ⟨_,ago _ (acC _ rfl) rfl,rfl⟩ isSubtype_stop ?_);refine ac1 (hQ _ λb o hb e=>?_);rw[ad9 _ _ (afZ (acX (ab2 (aax _ e))))];exact aax _ (aax _ e)
open PySem PySem.Spec PyProof.Rows
noncomputable abbrev Key:=Sum Int Str
noncomputable def sP:Key->Value->Bool
 |.inl k,v=>Value.isInt k v
 |.inr x,v=>Value.isStrOf x v
noncomputable def YQ(w:World):Key->Int
 |.inl k=>hashInt k
 |.inr x=>hashStr w x
theorem nV:∀{k} {v},sP k v=true->(∃i t,k=Sum.inl i/\v=Value.int i t)\/(∃x t,k=Sum.inr x/\v=Value.str x t)
 |.inl i,v,h=>by
  obtain⟨t,e⟩:=Value.isInt_shape h;exact .inl ⟨i,t,rfl,e⟩
 |.inr x,v,h=>by
  obtain⟨t,e⟩:=Value.isStrOf_shape h;exact .inr ⟨x,t,rfl,e⟩
theorem U_(i:Int)(t:Tok):sP (.inl i) (.int i t)=true:=by simp[sP,Value.isInt]
theorem S5(x:Str)(t:Tok):sP (.inr x) (.str x t)=true:=by simp[sP,Value.isStrOf]
theorem aaN(a b:Int):decide ((Sum.inl a:Key)=Sum.inl b)=(a==b):=by
 by_cases e:a=b
 .subst e;simp
 .have h:¬(Sum.inl a:Key)=Sum.inl b:=λq=>e (agx q)
  rw[ab8 h];exact(adz.mpr e).symm
theorem ZQ(a b:Str):decide ((Sum.inr a:Key)=Sum.inr b)=decide (a=b):=by
 by_cases e:a=b
 .subst e;simp
 .have h:¬(Sum.inr a:Key)=Sum.inr b:=λq=>e (Sum.inr.inj q)
  rw[ab8 h,ab8 e]
theorem Zc(a:Int)(b:Str):decide ((Sum.inl a:Key)=Sum.inr b)=false:=ab8 (λq=>nomatch q)
theorem VL(a:Str)(b:Int):decide ((Sum.inr a:Key)=Sum.inl b)=false:=ab8 (λq=>nomatch q)
def gJ(prog:Program)(w:World):PySem.KeyKind prog w Key where
 is:=sP
 hash:=YQ w
 inj:=λv a b ha hb=>by
  rcases nV ha with⟨i,t,rfl,rfl⟩|⟨x,t,rfl,rfl⟩
  .rcases nV hb with⟨j,u,rfl,e⟩|⟨y,u,rfl,e⟩
   .injection e with e1 _;rw[e1]
   .exact nomatch e
  .rcases nV hb with⟨j,u,rfl,e⟩|⟨y,u,rfl,e⟩
   .exact nomatch e
   .injection e with e1 _;rw[e1]
 byValue:=λk v h=>by
  rcases nV h with⟨i,t,rfl,rfl⟩|⟨x,t,rfl,rfl⟩<;>rfl
 pyHash:=λhv h=>by
  rcases nV hv with⟨i,t,rfl,rfl⟩|⟨x,t,rfl,rfl⟩
  .exact wpAny_pyHash_int h
  .exact wpAny_pyHash_str h
 eqBool:=λhu hv h=>by
  rcases nV hu with⟨i,t,rfl,rfl⟩|⟨x,t,rfl,rfl⟩
  .rcases nV hv with⟨j,u,rfl,rfl⟩|⟨y,u,rfl,rfl⟩
   .rw[aaN] at h;exact wpAny_eqBool_int h
   .rw[Zc] at h;exact SeqAt.EqAt.int_str i t y u _ _ _ _ h
  .rcases nV hv with⟨j,u,rfl,rfl⟩|⟨y,u,rfl,rfl⟩
   .rw[VL] at h;exact SeqAt.EqAt.str_int x t j u _ _ _ _ h
   .rw[ZQ] at h;exact wpAny_eqBool_str h
 «strs»:=λk x t v h=>by
  rcases nV h with⟨i,u,rfl,e⟩|⟨y,u,rfl,e⟩
  .exact nomatch e
  .injection e with e1 _;subst e1;cases v<;>rfl
theorem Yd(prog:Program)(w:World)(i:Int)(t:Tok):(gJ prog w).is (.inl i) (.int i t)=true:=U_ i t
theorem WJ(prog:Program)(w:World)(x:Str)(t:Tok):(gJ prog w).is (.inr x) (.str x t)=true:=S5 x t
inductive V where
 |az|bl (b:Bool)|int (i:Int)|str (x:Str)|jQ (b:Array UInt8)|sA (b:UInt64)|ref (a:Addr)|ty (n:String)
 deriving DecidableEq
def RelV:V->Value->Prop
 |.az,u=>u=Value.none
 |.bl b,u=>u=Value.bool b
 |.int i,u=>∃t,u=Value.int i t
 |.str x,u=>∃t,u=Value.str x t
 |.jQ b,u=>∃t,u=Value.bytes b t
 |.sA b,u=>∃t,u=Value.float b t
 |.ref a,u=>u=Value.ref a
 |.ty n,u=>u=Value.type n
noncomputable abbrev aU:List V->List Value->Prop:=Paired RelV
theorem aU.length(r:aU xs us):xs.length=us.length:=Paired.length r
theorem aU.get:∀{xs} {us}{i:Nat} {x},aU xs us->xs[i]? = some x->∃u,us[i]? = some u/\RelV x u
 |_,_,_,_,.nil,e=>by simp at e
 |_,_,0,_,.cons r _,e=>by simp at e;subst e;exact⟨_,rfl,r⟩
 |_,_,i+1,x,.cons _ t,e=>by
  obtain⟨u,h1,h2⟩:=aU.get t (by simpa using e);exact⟨u,by simpa using h1,h2⟩
theorem aU.append:∀{xs ys} {us ws},aU xs us->aU ys ws->aU (xs++ys) (us++ws)
 |_,_,_,_,.nil,s=>s
 |_,_,_,_,.cons r t,s=>.cons r (aU.append t s)
theorem aU.take:∀{xs} {us} (n),aU xs us->aU (xs.take n) (us.take n)
 |_,_,0,_=>.nil
 |_,_,_+1,.nil=>.nil
 |_,_,n+1,.cons r t=>.cons r (aU.take n t)
theorem aU.drop:∀{xs} {us} (n),aU xs us->aU (xs.drop n) (us.drop n)
 |_,_,0,r=>r
 |_,_,_+1,.nil=>.nil
 |_,_,n+1,.cons _ t=>aU.drop n t
def iA:Option V->Option Value->Prop
 |some v,some u=>RelV v u
 |none,none=>True
 |_,_=>False
def KV{κ:Type}:List (κ×V)->List (κ×Value)->Prop:=Paired λ(p:κ×V) (q:κ×Value)=>p.1=q.1/\RelV p.2 q.2
noncomputable def kV:Key->V
 |.inl i=>.int i
 |.inr x=>.str x
def nq(h:Heap)(a:Addr)(items:Array Value):Prop:=∃o,h.get? a=some o/\o.cls=.type "tuple"/\o.dict=none/\∃n,o.data=.seq items n
theorem nq.isTup(x:nq h a items):IsTup h a items:=let⟨o,e,c,_,d⟩:=x;⟨o,e,c,d⟩
theorem nq.lt(x:nq h a items):a<h.objs.size:=let⟨_,e,_⟩:=x;ab2 e
theorem nq.new(h:Heap)(items:Array Value):nq (h.push { cls:=.type "tuple",data:=.seq items }) h.objs.size items:=⟨_,acC _ rfl,rfl,rfl,_,rfl⟩
inductive HO where
 |lst (xs:List V)
 |tup (xs:List V)
 |dK (ak:List (Key×V))|dT (ak:List (List Key×V))
 |set (S:Int->Bool) (n:Nat)
 |ins (C dx:Addr) (fs:List (Str×V))
 |own (x:Addr)
 |xd (fs:List (Str×V))
 |met (f x:Addr)
 |bK (lo hi:Int)
 |fM (o:Obj) (u:HO)
 |ux (ps:Array Value)
 |i8 (q:Str) (pos:Pos)|jD (q:Str)
 |ext (φ:Heap->Prop)
noncomputable abbrev Hp:=Addr->Option HO
inductive mS where
 |tup (xs:List V)|vX (o:Obj) (xs:List V)|i8 (q:Str) (pos:Pos)|jD (q:Str)
noncomputable def mS.ho:mS->HO
 |.tup xs=>.tup xs
 |.vX o xs=>.fM o (.tup xs)
 |.i8 q p=>.i8 q p
 |.jD q=>.jD q
noncomputable def mS.tp:mS->Option (List V)
 |.tup xs=>some xs
 |.vX _ xs=>some xs
 |_=>none
def Tk(H:Hp)(b:Addr)(xs:List V):Prop:=∃t:mS,t.tp=some xs/\H b=some t.ho
noncomputable def upd(H:Hp)(a:Addr)(o:HO):Hp:=λb=>if b=a then some o else H b
theorem cD:upd H a o a=some o:=by unfold upd;rw[if_pos rfl]
theorem aP(h:b≠a):upd H a o b=H b:=by unfold upd;rw[if_neg h]
theorem Uw{H:Hp}(h:H a=some o)(h':H b=some u)(d:o≠u):a≠b:=by
 intro e;subst e;rw[h] at h';exact d (acf h')
theorem cV{H:Hp}(h:H a=some o)(h':H b=none):a≠b:=by
 intro e;subst e;rw[h] at h';cases h'
section
variable(P:Program)(w:World)
def dM(H:Hp)(h:Heap)(a:Addr):HO->Prop
 |.lst xs=>xs.length<=sizeLine/\∃(ay:List Value) (n:Nat),aU xs ay/\h.get? a=some { cls:=.type "list",data:=.seq ay.toArray n }
 |.tup xs=>xs.length<=sizeLine/\∃ay:List Value,aU xs ay/\nq h a ay.toArray
 |.dK ak=>ak.length<=sizeLine/\(a==sysModules)=false/\∃vs,KV ak vs/\h.DictOf (gJ P w) a vs
 |.dT ak=>ak.length<=sizeLine/\(a==sysModules)=false/\∃xs:List (List Key×Addr×Value),
   Paired (λ(p:List Key×V) (q:List Key×Addr×Value)=>p.1=q.1/\Tk H q.2.1 (p.1.map kV)/\RelV p.2 q.2.2) ak xs/\
   ∃o es ep,h.get? a=some o/\o.ExactDict/\o.data=.dict es ep/\es.toList=xs.map (entryOfKey (tupleKind (gJ P w)))/\(xs.map (·.1)).Nodup
 |.set S n=>h.SetOf (intKind P w) a S n
 |.ins C dx fs=>H dx=some (.own a)/\fs.length<=1000/\dx≠a/\h.get? a=some (PySem.W.instObj C dx)/\
   ∃mA,h.Ns1 dx mA/\(∀f,iA (fs.lookup f) (mA f))/\PySem.Within mA (fs.map (·.1))
 |.own _=>∃o,h.get? a=some o
 |.xd fs=>∃mA,h.Ns1 a mA/\∀f,iA (fs.lookup f) (mA f)
 |.bK lo hi=>∃t u v,h.get? a=some { cls:=.type "range",data:=.fields #[.int lo t,.int hi u,.int 1 v] }
 |.fM o u=>h.get? a=some o/\dM H h a u
 |.ux ps=>h.get? a=some { cls:=.none,data:=.fields ps }
 |.i8 q pos=>∃ps:Array Value,h.get? a=some { cls:=.none,data:=.fields ps }/\(ps=#[]\/∃c,ps=#[rawInt pos.line,rawInt pos.col,.ref c]/\H c=some (.jD q))
 |.jD q=>h.CodeRec (.ref a) q
 |.met f x=>h.get? a=some (PySem.W.methodObj (.ref f) (.ref x))
 |.ext φ=>φ h/\(∃o,h.get? a=some o)/\∀h1 h2:Heap,φ h1->(∀o,h1.get? a=some o->h2.get? a=some o)->φ h2
def eF(H:Hp)(h:Heap):Prop:=∀a o,H a=some o->dM P w H h a o
end
theorem dM.lt(x:dM P w H h a o):a<h.objs.size:=by
 cases o with
 |lst xs=>obtain⟨_,_,_,_,e⟩:=x;exact ab2 e
 |tup xs=>obtain⟨_,_,_,p⟩:=x;exact p.lt
 |dK ak=>obtain⟨_,_,_,_,o,_,_,e,_⟩:=x;exact ab2 e
 |dT ak=>obtain⟨_,_,_,_,o,_,_,e,_⟩:=x;exact ab2 e
 |set S n=>obtain⟨o,_,_,_,e,_⟩:=x;exact ab2 e
 |ins C dx fs=>obtain⟨_,_,_,e,_⟩:=x;exact ab2 e
 |own y=>obtain⟨_,e⟩:=x;exact ab2 e
 |xd fs=>obtain⟨_,⟨_,_,_,e,_⟩,_⟩:=x;exact ab2 e
 |bK lo hi=>obtain⟨_,_,_,e⟩:=x;exact ab2 e
 |fM ob u=>obtain⟨e,_⟩:=x;exact ab2 e
 |ux ps=>exact ab2 (show h.get? a=some _ from x)
 |i8 q pos=>obtain⟨_,e,_⟩:=x;exact ab2 e
 |jD q=>obtain⟨_,_,_,_,e,g,_⟩:=x;cases e;exact ab2 g
 |met f y=>exact ab2 (show h.get? a=some _ from x)
 |ext φ=>obtain⟨_,⟨_,e⟩,_⟩:=x;exact ab2 e
theorem Paired.B9:∀{KI} {Pa},Paired F KI Pa->(∀a b,F a b->G a b)->Paired G KI Pa
 |_,_,.nil,_=>.nil
 |_,_,.cons r t,f=>.cons (f _ _ r) (Paired.B9 t f)
theorem dM.nO(x:dM P w H h a o)(k:∀b u,(b=a\/H b=some (.own a))->h.get? b=some u->h'.get? b=some u)
  (ho:∀b,H b=some (.own a)->H' b=some (.own a)) (ht:∀b (t:mS),H b=some t.ho->H' b=some t.ho):dM P w H' h' a o:=by
 induction o with
 |lst xs=>obtain⟨z,ay,n,r,e⟩:=x;exact⟨z,ay,n,r,k _ _ (.inl rfl) e⟩
 |tup xs=>obtain⟨z,ay,r,ob,e,c⟩:=x;exact⟨z,ay,r,ob,k _ _ (.inl rfl) e,c⟩
 |dK ak=>obtain⟨z,y,vs,r,ob,es,ep,e,c⟩:=x;exact⟨z,y,vs,r,ob,es,ep,k _ _ (.inl rfl) e,c⟩
 |dT ak=>
  obtain⟨z,y,xs,r,ob,es,ep,e,c⟩:=x;exact⟨z,y,xs,Paired.B9 r λp q z=>⟨z.1,let⟨t,e,g⟩:=z.2.1;⟨t,e,ht _ t g⟩,z.2.2⟩,ob,es,ep,k _ _ (.inl rfl) e,c⟩
 |set S n=>obtain⟨ob,es,ep,t,e,c⟩:=x;exact⟨ob,es,ep,t,k _ _ (.inl rfl) e,c⟩
 |ins C dx fs=>
  obtain⟨d,z,ne,e,mA,⟨od,es,ep,e2,c⟩,r⟩:=x;exact⟨ho _ d,z,ne,k _ _ (.inl rfl) e,mA,⟨od,es,ep,k _ _ (.inr d) e2,c⟩,r⟩
 |own y=>obtain⟨ob,e⟩:=x;exact⟨ob,k _ _ (.inl rfl) e⟩
 |xd fs=>obtain⟨mA,⟨od,es,ep,e,c⟩,r⟩:=x;exact⟨mA,⟨od,es,ep,k _ _ (.inl rfl) e,c⟩,r⟩
 |bK lo hi=>obtain⟨t,u,v,e⟩:=x;exact⟨t,u,v,k _ _ (.inl rfl) e⟩
 |fM ob u ih=>obtain⟨e,q⟩:=x;exact⟨k _ _ (.inl rfl) e,ih q⟩
 |i8 q pos=>obtain⟨ps,e,g⟩:=x;exact⟨ps,k _ _ (.inl rfl) e,g.imp id λ⟨c,e1,e2⟩=>⟨c,e1,ht c (.jD q) e2⟩⟩
 |jD q=>obtain⟨_,o,vs,t,e,g,r⟩:=x;cases e;exact⟨_,o,vs,t,rfl,k _ _ (.inl rfl) g,r⟩
 |ux ps=>
  have e:=x;exact k a _ (.inl rfl) e
 |met f y=>
  have e:=x;exact k a _ (.inl rfl) e
 |ext φ=>obtain⟨p,⟨o,e⟩,st⟩:=x;exact⟨st _ _ p λo q=>k _ _ (.inl rfl) q,⟨o,k _ _ (.inl rfl) e⟩,st⟩
theorem eF.lt(x:eF P w H h)(e:H a=some o):a<h.objs.size:=(x a o e).lt
theorem eF.fresh(x:eF P w H h)(e:h.objs.size<=a):H a=none:=by
 cases q:H a with
 |none=>rfl
 |some u=>exact absurd (ac3 (x.lt q) e) (afe _)
theorem eF.kept(x:eF P w H h)(k:∀b u,h.get? b=some u->h'.get? b=some u):eF P w H h':=λa o e=>
 (x a o e).nO (λb u _ q=>k b u q) (λ_ q=>q) λ_ _ q=>q
theorem eF.laid(x:eF P w H h)(k:∀b u,h.get? b=some u->h'.get? b=some u)(hp:h.objs.size<=a)(new:dM P w (upd H a o) h' a o):eF P w (upd H a o) h':=λb u e=>by
 have hn:=x.fresh hp
 by_cases hb:b=a
 .subst hb;rw[cD] at e;cases e;exact new
 .rw[aP hb] at e;exact(x b u e).nO (λc v _ q=>k c v q) (λc q=>by rw[aP (cV q hn)];exact q) λc xs q=>by rw[aP (cV q hn)];exact q
def Rd(H:Hp)(a:Addr)(u:HO):Prop:=H a=some u\/∃o,H a=some (.fM o u)
theorem Rd.ok(r:Rd H a u)(x:eF P w H h):dM P w H h a u:=by
 rcases r with r|⟨o,r⟩
 .exact x a u r
 .obtain⟨_,q⟩:=x a _ r;exact q
def x_:Option HO->Prop
 |some (.lst _)=>True
 |some (.dK _)=>True
 |some (.dT _)=>True
 |some (.set _ _)=>True
 |some (.ins _ _ _)=>True
 |some (.ext _)=>True
 |_=>False
theorem eF.write(ok:eF P w H h)(mu:x_ (H x))(he:e=x\/H e=some (.own x))(k:∀b u,b≠e->h.get? b=some u->h'.get? b=some u)(uF:∃u,h'.get? e=some u)
  (new:dM P w (upd H x o') h' x o'):eF P w (upd H x o') h':=λb u q=>by
 have Lr:∀c y,H c=some (.own y)->c≠x:=λc y r z=>by subst z;rw[r] at mu;exact mu
 have VO:∀c (t:mS),H c=some t.ho->c≠x:=λc t r z=>by subst z;rw[r] at mu;cases t<;>exact mu
 by_cases hb:b=x
 .subst hb;rw[cD] at q;cases q;exact new
 .rw[aP hb] at q
  by_cases su:b=e
  .have q':H b=some (.own x):=by
    rcases he with z|z
    .exact absurd (su.trans z) hb
    .rw[su];exact z
   rw[q] at q';cases q';obtain⟨v,hv⟩:=uF;exact⟨v,by rw[su];exact hv⟩
  .refine(ok b u q).nO (λc v hc r=>k c v ?_ r) (λc r=>by rw[aP (Lr c b r)];exact r) λc xs r=>by rw[aP (VO c xs r)];exact r
   rcases hc with rfl|hc
   .exact su
   .rintro rfl
    rcases he with z|z
    .exact Lr c b hc z
    .rw[hc] at z;cases z;exact hb rfl
structure Un(fs ex:List Addr)(H H':Hp)(h h':Heap):Prop where
 keep:∀b o,h.get? b=some o->H b=none->b∉fs->b∉ex->h'.get? b=some o
 slot:∀b o,h.get? b=some o->H b=none->b∈fs->b∉ex->∃sl,h'.get? b=some { o with slots:=sl }
 free:∀b o,h.get? b=some o->H b=none->b∉ex->H' b=none
 there:∀b o,h.get? b=some o->b∉ex->∃o',h'.get? b=some o'
 lP:∀b (t:mS),H b=some t.ho->H' b=some t.ho
 k8:∀b o u,H b=some (.fM o u)->H' b=some (.fM o u)
 nQ:∀b ps,H b=some (.ux ps)->∃more,H' b=some (.ux (ps++more))
theorem Un.any(u:Un fs ex H H1 h h1)(q:h.get? b=some ob)(n:H b=none)(hx:b∉ex):∃sl,h1.get? b=some { ob with slots:=sl }:=by
 by_cases hb:b∈fs
 .exact u.slot b ob q n hb hx
 .exact⟨ob.slots,u.keep b ob q n hb hx⟩
theorem Un.kept(k:∀b u,h.get? b=some u->h'.get? b=some u):Un fs ex H H h h':=
 ⟨λb ob q _ _ _=>k b ob q,λb ob q _ _ _=>⟨ob.slots,k b ob q⟩,λ_ _ _ n _=>n,λb ob q _=>⟨ob,k b ob q⟩,λ_ _ q=>q,λ_ _ _ q=>q,λ_ ps q=>⟨#[],by rw[q];simp⟩⟩
theorem Un.refl:Un fs ex H H h h:=Un.kept λ_ _ q=>q
theorem Un.laid(k:∀b u,h.get? b=some u->h'.get? b=some u)(hp:h.objs.size<=a)(hn:H a=none):Un fs ex H (upd H a o) h h' where
 keep:=λb u q _ _ _=>k b u q
 slot:=λb u q _ _ _=>⟨u.slots,k b u q⟩
 free:=λb u q n _=>by rw[aP (acX (ac3 (ab2 q) hp))];exact n
 there:=λb u q _=>⟨u,k b u q⟩
 lP:=λb xs q=>by rw[aP (cV q hn)];exact q
 k8:=λb u xs q=>by rw[aP (cV q hn)];exact q
 nQ:=λb ps q=>⟨#[],by rw[aP (cV q hn),q];simp⟩
theorem Un.write(mu:x_ (H x))(he:e=x\/H e=some (.own x))(k:∀b u,b≠e->h.get? b=some u->h'.get? b=some u)(uF:∃u,h'.get? e=some u):Un fs ex H (upd H x o) h h':=by
 have hx:∀b,H b=none->b≠x:=λb n z=>by subst z;rw[n] at mu;exact mu
 have hb:∀b,H b=none->b≠e:=λb n z=>by
  subst z;rcases he with r|r
  .exact hx b n r
  .rw[n] at r;cases r
 have hm:∀b u,H b=some u->¬x_ (some u)->b≠x:=λb u q nm z=>by subst z;rw[q] at mu;exact nm mu
 refine⟨λb u q n _ _=>k b u (hb b n) q,λb u q n _ _=>⟨u.slots,k b u (hb b n) q⟩,λb u q n _=>by rw[aP (hx b n)];exact n,λb u q _=>?_,
  λb xs q=>by rw[aP (hm b _ q (by cases xs<;>exact λz=>z))];exact q,λb u xs q=>by rw[aP (hm b _ q λz=>z)];exact q,λb ps q=>⟨#[],by rw[aP (hm b _ q λz=>z),q];simp⟩⟩
 by_cases su:b=e
 .subst su;exact uF
 .exact⟨u,k b u su q⟩
noncomputable def Cz(h:Heap)(H:Hp):List Addr:=(List.range h.objs.size).filter λa=>(H a).isSome
def qH(h:Heap)(H:Hp):Heap:=PySem.W.hideAll h (Cz h H)
theorem adj(h:Heap)(H:Hp):(qH h H).objs.size=h.objs.size:=PySem.W.hideAll_size _ _
theorem EB(e:h.get? b=some o)(n:H b=none):(qH h H).get? b=some o:=
 PySem.W.hideAll_get _ e λhm=>by
  have q:=(acO.mp hm).2;rw[n] at q;simp at q
theorem SS(e:(qH h H).get? b=some o):h.get? b=some o/\H b=none:=by
 have e':=PySem.W.of_hideAll (Cz h H) e;refine⟨e',?_⟩;cases q:H b with
 |none=>rfl
 |some x=>
  have hm:b∈Cz h H:=acO.mpr ⟨agS.mpr (ab2 e'),by simp[q]⟩;have z:(qH h H).get? b=none:=PySem.W.hideAll_none (Cz h H) hm;rw[z] at e;cases e
structure Mod(K:PySem.W.Frag)(mg:Str->Option Value)(base:Heap):Prop where
 yd:K.In base
 glob:base.Ns mainGlobals mg
 blt:∃mb,base.Ns builtinsNs mb/\∀x:Str,x≠"__name__"->mb x=bootBuiltins x
 nolimit:base.NoLimit
 bmn:∃bm ob,mg "__builtins__"=some (.ref bm)/\bm≠builtinsNs/\base.get? bm=some ob/\ob.cls=.type "module"/\ob.dict=some builtinsNs/\ob.data=.plain
structure Cx where
 prog:Program
 w:World
 K:PySem.W.Frag
 mg:Str->Option Value
 base:Heap
 A:Around
 N:List Str
 eT:Shared
 v9:Hp
 env:Env
 outer:List Env
 stack:List Env
 ex:List Addr
 fn:Str->Bool
 calm:Bool
 pn:List (Addr×Obj)
 xe:Value->Shared->Prop
abbrev Y1{α:Type}(X:Cx)(A:Around)(t:Sem α):=wpAny (model X.prog X.w) A t
abbrev Y2(X:Cx)(a:Expr):Prop:=starEach [a] X.env=[(false,eval a X.env)]
abbrev v6(X:Cx)(x:Str):Prop:=X.fn x=true\/X.env.scope.names.lookup x=some .local
noncomputable def eV(l:List Env):List Addr:=l.filterMap (·.frame)
abbrev Cx.fs(X:Cx):List Addr:=eV X.outer
def J4(sc:Scope)(x:Str):Prop:=sc.names.lookup x=some .local\/sc.names.lookup x=some .cell\/sc.names.lookup x=some .free
def Loc(sc:Scope)(x:Str):Prop:=sc.names.lookup x=some .local\/sc.names.lookup x=some .cell
def Look(env:Env)(h:Heap)(m:Str->Option Value)(x:Str)(u:Value):Prop:=
 (env.kindOf x=some .local/\m x=some u)\/((env.kindOf x=some .cell\/env.kindOf x=some .free)/\∃c,env.cells.lookup x=some c/\h.IsCell c (some u))
structure Cx.Ok(X:Cx):Prop where
 mod:Mod X.K X.mg X.base
 kind:X.env.scope.kind=.function
 glob:X.env.globals=mainGlobals
 blt:X.env.builtins=builtinsNs
 above:X.eT.heap.objs.size<=X.env.locals
 inj:∀x y c,X.env.cells.lookup x=some c->X.env.cells.lookup y=some c->x=y
 has:∀x,(X.env.kindOf x=some .cell\/X.env.kindOf x=some .free)->∃c,X.env.cells.lookup x=some c
 uZ:∀x c,X.fn x=true->X.env.cells.lookup x=some c->X.eT.heap.objs.size<=c
 hd:X.calm=true->X.A.handled=none
 frames:X.A.frames=some X.stack
 zB:X.stack=X.outer\/(X.stack=X.env::X.outer/\X.env.frame=some X.env.locals)
 zV:∀b∈X.ex,b≠X.env.locals/\∀x c,X.env.cells.lookup x=some c->c≠b
 bs:∀b o,X.base.get? b=some o->X.eT.heap.get? b=some o/\X.v9 b=none
 kF:X.base.objs.size<=X.eT.heap.objs.size
 vE:∀b o,X.base.get? b=some o->b∉X.ex
 vR:∀b∈X.ex,b∉X.fs
 kq:X.eT.heap.FunFrames X.base X.outer
 qU:∀b∈X.fs,X.v9 b=none
def yu(A:Around)(H:Hp):Prop:=A.handled=none\/∃(a:Addr) (ob:Obj) (u:HO) (vs:Array Value),A.handled=some (.ref a)/\H a=some (.fM ob u)/\ob.data=.fields vs/\vs[2]? = some .none
theorem yu.mono(h:yu A H)(f:∀b o u,H b=some (.fM o u)->H' b=some (.fM o u)):yu A H':=h.elim .inl λ⟨a,ob,u,vs,h1,h2,h3⟩=>.inr ⟨a,ob,u,vs,h1,f _ _ _ h2,h3⟩
structure Hq(K:PySem.W.Frag)(A:Around)(H:Hp):Prop where
 hd:yu A H
 ok:zc K=true
 lm:∀r∈i_ K,H r.2.1=some (.i8 r.2.2.1 r.2.2.2)
theorem Hq.mono{K:PySem.W.Frag}(h:Hq K A H)(f:∀b o u,H b=some (.fM o u)->H' b=some (.fM o u))(g:∀b (t:mS),H b=some t.ho->H' b=some t.ho):Hq K A H':=
 ⟨h.hd.mono f,h.ok,λr m=>g _ (.i8 _ _) (h.lm r m)⟩
structure Inv(X:Cx)(ah:List (Addr×Obj))(σ:List (Option V))(H:Hp)(s:Shared):Prop where
 ok:X.Ok
 os:s.os=X.eT.os
 bare:AllBare s.gens
 base:Un X.fs X.ex X.v9 H X.eT.heap s.heap
 loc:∃m,s.heap.Ns X.env.locals m/\∀(i:Nat) (x) (v),X.N[i]? = some x->σ[i]? = some (some v)->J4 X.env.scope x->∃u,RelV v u/\Look X.env s.heap m x u
 cell:∀x c,X.env.cells.lookup x=some c->∃v,s.heap.IsCell c v
 free:H X.env.locals=none
 jZ:∀x c,X.env.cells.lookup x=some c->H c=none
 pin:∀p∈X.pn++ah,s.heap.get? p.1=some p.2/\H p.1=none/\p.1≠X.env.locals/\p.1∉X.fs/\∀v,p.2.data≠.cell v
 aK:eF X.prog X.w H s.heap
 len:σ.length=X.N.length
 hq:Hq X.K X.A H
section
variable{X:Cx}
theorem Cx.Ok.XM(ok:X.Ok)(e:X.base.get? b=some o):b∉X.fs:=λhb=>by
 have:=(ok.kq.mem hb).1;rw[e] at this;cases this
theorem Inv.bs(I:Inv X ah σ H s):∀b o,X.base.get? b=some o->s.heap.get? b=some o/\H b=none:=λb o e=>
 ⟨I.base.keep b o (I.ok.bs b o e).1 (I.ok.bs b o e).2 (I.ok.XM e) (I.ok.vE b o e),I.base.free b o (I.ok.bs b o e).1 (I.ok.bs b o e).2 (I.ok.vE b o e)⟩
theorem Inv.bk(I:Inv X ah σ H s):∀b o,X.base.get? b=some o->s.heap.get? b=some o:=λb o e=>(I.bs b o e).1
theorem Inv.mod(I:Inv X ah σ H s):Mod X.K X.mg X.base:=I.ok.mod
theorem Inv.d_(I:Inv X ah σ H s):X.K.In s.heap:=I.ok.mod.yd.keeps I.bk
theorem Inv.lt(I:Inv X ah σ H s):X.env.locals<s.heap.objs.size:=let⟨_,hn,_⟩:=I.loc;hn.lt
theorem Inv.sz(I:Inv X ah σ H s):X.eT.heap.objs.size<=s.heap.objs.size:=adk I.ok.above (afY I.lt)
theorem Inv.Se(I:Inv X ah σ H s)(h:s.heap.objs.size<=a):a∉X.fs:=λhb=>by
 obtain⟨_,o,ho,_⟩:=I.ok.kq.mem hb;exact absurd (ac3 (ab2 ho) (adk I.sz h)) (afe _)
theorem Inv.oq(I:Inv X ah σ H s):∀x c,X.env.cells.lookup x=some c->c≠X.env.locals:=λx c e z=>by
 obtain⟨v,o,ho,hd⟩:=I.cell x c e;obtain⟨m,⟨o',es,ep,l8,Fo,_⟩,_⟩:=I.loc;rw[z,l8] at ho;cases ho;rw[Fo] at hd;cases hd
theorem Inv.kq(I:Inv X ah σ H s):s.heap.FunFrames X.base X.outer:=by
 have all:∀(l:List Env),(∀b∈eV l,b∈X.fs)->X.eT.heap.FunFrames X.base l->s.heap.FunFrames X.base l:=by
  intro l
  induction l with
  |nil=>intro _ _;trivial
  |cons env r ih=>
   intro hs hl;obtain⟨hk,⟨L,o,hf,hn,ho,hd⟩,hr⟩:=hl;have hL:=hs L (by unfold eV;rw[aeD,hf];exact aad);obtain⟨sl,e⟩:=I.base.slot L o ho (I.ok.qU L hL) hL λz=>I.ok.vR L z hL
   exact⟨hk,⟨L,_,hf,hn,e,hd⟩,ih (λb hb=>hs b (by unfold eV;rw[aeD,hf];exact aab _ hb)) hr⟩
 exact all X.outer (λ_ hb=>hb) I.ok.kq
theorem Inv.stack(I:Inv X ah σ H s):s.heap.FunFrames X.base X.stack:=by
 rcases I.ok.zB with e|⟨e,hf⟩
 .rw[e];exact I.kq
 .rw[e];obtain⟨m,hn,_⟩:=I.loc;refine .cons (by rw[I.ok.kind];decide) hf hn ?_ I.kq;exact agO (adk I.ok.kF I.ok.above)
theorem Inv.Fx(I:Inv X ah σ H s):∀b∈eV X.stack,b∈X.env.locals::X.fs:=λb hb=>by
 rcases I.ok.zB with e|⟨e,hf⟩
 .rw[e] at hb;exact aab _ hb
 .rw[e] at hb;unfold eV at hb;rw[aeD,hf] at hb;exact hb
theorem Inv.GX(I:Inv X ah σ H s):∀b∈eV X.stack,H b=none:=λb hb=>by
 rcases aaA.mp (I.Fx b hb) with e|hb
 .rw[e];exact I.free
 .obtain⟨_,o,ho,_⟩:=I.ok.kq.mem hb;exact I.base.free b o ho (I.ok.qU b hb) λz=>I.ok.vR b z hb
theorem Inv.step{ch:List Addr}(I:Inv X ah σ H s)
  (nE:∀b∈ch,(b∈X.ex\/X.eT.heap.objs.size<=b)/\b≠X.env.locals/\(∀x c,X.env.cells.lookup x=some c->c≠b)/\∀p∈X.pn++ah,p.1≠b)
  (keep:∀b o,b≠X.env.locals->b∉X.fs->b∉ch->s.heap.get? b=some o->H b=none->h'.get? b=some o)
  (slot:∀b o,b≠X.env.locals->b∈X.fs->b∉ch->s.heap.get? b=some o->H b=none->∃sl,h'.get? b=some { o with slots:=sl }) (free:∀b o,b∉ch->s.heap.get? b=some o->H b=none->H' b=none)
  (there:∀b o,b∉ch->s.heap.get? b=some o->∃o',h'.get? b=some o')
  (lP:∀b (t:mS),H b=some t.ho->H' b=some t.ho) (k8:∀b o u,H b=some (.fM o u)->H' b=some (.fM o u)) (nQ:∀b ps,H b=some (.ux ps)->∃more,H' b=some (.ux (ps++more)))
  (ns:∀m,s.heap.Ns X.env.locals m->h'.Ns X.env.locals m) (aK:eF X.prog X.w H' h') (hg:AllBare g') :
  Inv X ah σ H' { s with heap:=h',gens:=g',drawn:=d',toks:=t' }:=by
 have Mm:∀b o,X.eT.heap.get? b=some o->b≠X.env.locals:=λb o e=>acX (ac3 (ab2 e) I.ok.above)
 have z7:∀b o,X.eT.heap.get? b=some o->b∉X.ex->b∉ch:=λb o e hx hb=>by
  rcases(nE b hb).1 with z|z
  .exact hx z
  .exact absurd (ac3 (ab2 e) z) (afe _)
 have cellK:∀x c,X.env.cells.lookup x=some c->∀v,s.heap.IsCell c v->h'.IsCell c v:=λx c e v ⟨o,ho,hd⟩=>by
  have mF:c∉ch:=λz=>(nE c z).2.2.1 x c e rfl
  by_cases hc:c∈X.fs
  .obtain⟨sl,q⟩:=slot c o (I.oq x c e) hc mF ho (I.jZ x c e);exact⟨_,q,hd⟩
  .exact⟨o,keep c o (I.oq x c e) hc mF ho (I.jZ x c e),hd⟩
 refine⟨I.ok,I.os,hg,⟨λb o e n hb hx=>?_,λb o e n hb hx=>?_,λb o e n hx=>?_,λb o e hx=>?_,λb xs e=>lP b xs (I.base.lP b xs e),λb o xs e=>k8 b o xs (I.base.k8 b o xs e),λb ps e=>?_⟩,?_,λx c e=>?_,?_,λx c e=>?_,λp hp=>?_,aK,I.len,I.hq.mono k8 lP⟩
 .exact keep b o (Mm b o e) hb (z7 b o e hx) (I.base.keep b o e n hb hx) (I.base.free b o e n hx)
 .obtain⟨sl,e1⟩:=I.base.slot b o e n hb hx;obtain⟨Xx,e2⟩:=slot b _ (Mm b o e) hb (z7 b o e hx) e1 (I.base.free b o e n hx);exact⟨Xx,e2⟩
 .obtain⟨o',e1⟩:=I.base.there b o e hx;exact free b o' (z7 b o e hx) e1 (I.base.free b o e n hx)
 .obtain⟨o',e1⟩:=I.base.there b o e hx;exact there b o' (z7 b o e hx) e1
 .obtain⟨m1,e1⟩:=I.base.nQ b ps e;obtain⟨m2,e2⟩:=nQ b _ e1;exact⟨m1++m2,by rw[e2,Array.append_assoc]⟩
 .obtain⟨m,hn,hl⟩:=I.loc;refine⟨m,ns m hn,λi x v e1 e2 e3=>?_⟩;obtain⟨u,r,l⟩:=hl i x v e1 e2 e3;refine⟨u,r,?_⟩;rcases l with l|⟨k,c,e,z⟩
  .exact .inl l
  .exact .inr ⟨k,c,e,cellK x c e _ z⟩
 .obtain⟨v,z⟩:=I.cell x c e;exact⟨v,cellK x c e v z⟩
 .obtain⟨m,⟨o,_,_,ho,_⟩,_⟩:=I.loc;exact free _ o (λz=>(nE _ z).2.1 rfl) ho I.free
 .obtain⟨v,o,ho,hd⟩:=I.cell x c e;exact free c o (λz=>(nE c z).2.2.1 x c e rfl) ho (I.jZ x c e)
 .obtain⟨e,n,ne,nf,d⟩:=I.pin p hp;have mF:p.1∉ch:=λz=>(nE p.1 z).2.2.2 p hp rfl
  exact⟨keep p.1 p.2 ne nf mF e n,free p.1 p.2 mF e n,ne,nf,d⟩
theorem Inv.un(I:Inv X ah σ H s)(u:Un X.fs [] H H' s.heap h')(aK:eF X.prog X.w H' h'):Inv X ah σ H' { s with heap:=h',toks:=t' }:=by
 obtain⟨m,⟨o,es,ep,ho,r⟩,_⟩:=id I.loc;obtain⟨sl,hL⟩:=u.any ho I.free (by simp);exact I.step (g':=s.gens) (d':=s.drawn) (ch:=[]) (λ_ z=>nomatch z) (λb o _ hb _ e n=>u.keep b o e n hb (by simp)) (λb o _ hb _ e n=>u.slot b o e n hb (by simp)) (λb o _ e n=>u.free b o e n (by simp)) (λb o _ e=>u.there b o e (by simp)) u.lP u.k8 u.nQ (λm' hm=>by
  obtain⟨o',gA,xN,l8,r'⟩:=hm;rw[ho] at l8;cases l8;exact⟨_,gA,xN,hL,r'⟩) aK I.bare
theorem Inv.call{ch:List Addr}(I:Inv X ah σ H s)(u:Un (eV X.stack) ch H H' s.heap h')(aK:eF X.prog X.w H' h')(hg:AllBare g')
  (nE:∀b∈ch,(b∈X.ex\/X.eT.heap.objs.size<=b)/\b≠X.env.locals/\(∀x c,X.env.cells.lookup x=some c->c≠b)/\∀p∈X.pn++ah,p.1≠b) :
  Inv X ah σ H' { s with heap:=h',gens:=g',drawn:=d',toks:=t' }:=by
 obtain⟨m,⟨o,es,ep,ho,r⟩,_⟩:=id I.loc;obtain⟨sl,hL⟩:=u.any ho I.free λz=>(nE _ z).2.1 rfl
 exact I.step (ch:=ch) nE (λb o hL hb hc e n=>u.keep b o e n (λz=>(aaA.mp (I.Fx b z)).elim hL hb) hc) (λb o _ _ hc e n=>u.any e n hc) (λb o hc e n=>u.free b o e n hc) (λb o hc e=>u.there b o e hc) u.lP u.k8 u.nQ (λm' hm=>by
  obtain⟨o',gA,xN,l8,r'⟩:=hm;rw[ho] at l8;cases l8;exact⟨_,gA,xN,hL,r'⟩) aK hg
theorem Inv.turned{it:Addr}(I:Inv X ah σ H s)(k:∀b o,b≠it->s.heap.get? b=some o->h'.get? b=some o)(hn:H it=none)(hL:it≠X.env.locals)
  (h1:it∈X.ex\/X.eT.heap.objs.size<=it) (h2:∀x c,X.env.cells.lookup x=some c->c≠it) (h3:∀p∈X.pn++ah,p.1≠it):Inv X ah σ H { s with heap:=h',toks:=t' }:=by
 have LM:∀b u,H b=some u->b≠it:=λb u e z=>by rw[z,hn] at e;cases e
 refine I.step (g':=s.gens) (d':=s.drawn) (ch:=[it]) (λb hb=>?_) (λb o _ _ hc e _=>k b o (λz=>hc (by simp[z])) e) (λb o _ _ hc e _=>⟨o.slots,k b o (λz=>hc (by simp[z])) e⟩) (λ_ _ _ _ n=>n)
  (λb o hc e=>⟨o,k b o (λz=>hc (by simp[z])) e⟩) (λ_ _ e=>e) (λ_ _ _ e=>e) (λb ps e=>⟨#[],by rw[e];simp⟩) (λm hm=>?_) (λb u e=>?_) I.bare
 .have e:b=it:=by simpa using hb
  subst e;exact⟨h1,hL,h2,h3⟩
 .obtain⟨o,es,ep,ho,r⟩:=hm;exact⟨o,es,ep,k _ o (afZ hL) ho,r⟩
 .refine(I.aK b u e).nO (λc v hc q=>k c v ?_ q) (λ_ q=>q) λ_ _ q=>q
  rcases hc with z|z
  .rw[z];exact LM b u e
  .exact LM c _ z
theorem Inv.tok(I:Inv X ah σ H s)(t:Nat):Inv X ah σ H { s with toks:=t }:=I.un Un.refl I.aK
theorem Inv.kept(I:Inv X ah σ H s)(k:∀b u,s.heap.get? b=some u->h'.get? b=some u):Inv X ah σ H { s with heap:=h',toks:=t' }:=I.un (Un.kept k) (I.aK.kept k)
theorem Inv.laid(I:Inv X ah σ H s)(k:∀b u,s.heap.get? b=some u->h'.get? b=some u)(hp:s.heap.objs.size<=a)(new:dM X.prog X.w (upd H a o) h' a o):
  Inv X ah σ (upd H a o) { s with heap:=h',toks:=t' }:=I.un (Un.laid k hp (I.aK.fresh hp)) (I.aK.laid k hp new)
theorem Inv.write(I:Inv X ah σ H s)(mu:x_ (H x))(he:e=x\/H e=some (.own x))(k:∀b u,b≠e->s.heap.get? b=some u->h'.get? b=some u)(uF:∃u,h'.get? e=some u)
  (new:dM X.prog X.w (upd H x o) h' x o):Inv X ah σ (upd H x o) { s with heap:=h',toks:=t' }:=I.un (Un.write mu he k uF) (I.aK.write mu he k uF new)
theorem Inv.t_(I:Inv X ah σ H s)(h:∀p∈Pq,s.heap.get? p.1=some p.2/\H p.1=none/\p.1≠X.env.locals/\p.1∉X.fs/\∀v,p.2.data≠.cell v):Inv X Pq σ H s:=
 ⟨I.ok,I.os,I.bare,I.base,I.loc,I.cell,I.free,I.jZ,λp hp=>(abl.mp hp).elim (λz=>I.pin p (abj _ z)) (h p),I.aK,I.len,I.hq⟩
theorem Q9{N:List Str}(hN:N.Nodup){i j:Nat}(a:N[i]? = some x)(b:N[j]? = some x):i=j:=by
 obtain⟨h1,e1⟩:=abP.mp a;obtain⟨h2,e2⟩:=abP.mp b;exact(List.getElem_inj hN).mp (e1.trans e2.symm)
theorem R5{M:Model}(I:Inv X ah σ H s)(hN:X.N.Nodup)(hi:X.N[i]? = some x)(hx:Loc X.env.scope x)(r:RelV v u)
  (h:∀s',Inv X ah (σ.set i (some v)) H s'->(∃a,Heap.SameBut a s.heap s'.heap/\(a=X.env.locals\/X.env.cells.lookup x=some a))->Q () s') (hf:v6 X x:=by first|exact .inl rfl|exact .inr rfl|assumption):wpAny M A (storeName X.env x u) Q E s:=by
 obtain⟨m,hn,hl⟩:=id I.loc;have ZI:(X.env.scope.kind == .class||(X.env.scope.kind == .module&&X.env.locals != X.env.globals))=false:=by rw[I.ok.kind];rfl
 have Mx:i<σ.length:=by rw[I.len];exact(abP.mp hi).1
 have oq:=I.oq;have tracked:∀{a:Addr} {h'},(∃o,s.heap.get? a=some o/\H a=none)->Heap.SameBut a s.heap h'->eF X.prog X.w H h':=λ{a h'} ha hs b ob e=>by
  obtain⟨_,_,Lm⟩:=ha;refine(I.aK b ob e).nO (λc w' hc q=>(hs.2 c ?_).trans q) (λ_ q=>q) λ_ _ q=>q
  rintro rfl
  rcases hc with rfl|hc
  .rw[Lm] at e;cases e
  .rw[Lm] at hc;cases hc
 rcases hx with hk|hk
 .refine wpAny_storeName_local hk hn (λh' hn' hs=>?_) ZI;obtain⟨oL,_,_,Av,_⟩:=id hn;refine h _ ⟨I.ok,I.os,I.bare,⟨λb o e n hb hx=>?_,λb o e n hb hx=>?_,I.base.free,λb o e hx=>?_,I.base.lP,I.base.k8,I.base.nQ⟩,⟨_,hn',λj y v' e1 e2 e3=>?_⟩,λy c e=>?_,I.free,I.jZ,λp hp=>?_,tracked ⟨oL,Av,I.free⟩ hs,by simpa using I.len,I.hq⟩ ⟨_,hs,.inl rfl⟩
  .exact(hs.2 b (acX (ac3 (ab2 e) I.ok.above))).trans (I.base.keep b o e n hb hx)
  .obtain⟨sl,e1⟩:=I.base.slot b o e n hb hx;exact⟨sl,(hs.2 b (acX (ac3 (ab2 e) I.ok.above))).trans e1⟩
  .obtain⟨o',e1⟩:=I.base.there b o e hx;exact⟨o',(hs.2 b (acX (ac3 (ab2 e) I.ok.above))).trans e1⟩
  .by_cases hj:j=i
   .subst hj;rw[hi] at e1;cases e1;rw[aea Mx] at e2;cases e2;exact⟨u,r,.inl ⟨hk,by simp⟩⟩
   .rw[acS (afZ hj)] at e2;obtain⟨u',r',q⟩:=hl j y v' e1 e2 e3;refine⟨u',r',?_⟩;rcases q with⟨k,e⟩|⟨k,c,e,z⟩
    .refine .inl ⟨k,?_⟩;have:y≠x:=λe=>hj (Q9 hN e1 (e ▸ hi))
     simp[this,e]
    .exact .inr ⟨k,c,e,z.sameBut hs (oq y c e)⟩
  .obtain⟨w',z⟩:=I.cell y c e;exact⟨w',z.sameBut hs (oq y c e)⟩
  .obtain⟨e,n,ne,nf,d⟩:=I.pin p hp;exact⟨(hs.2 p.1 ne).trans e,n,ne,nf,d⟩
 .have G9:X.fn x=true:=by
   rcases hf with z|z
   .exact z
   .rw[z] at hk;cases hk
  obtain⟨c,hc⟩:=I.ok.has x (.inl hk);obtain⟨w',z⟩:=I.cell x c hc;refine wpAny_storeName_cell I.ok.kind hk hc z (λh' sJ hs=>?_);obtain⟨oc,lN,aaj⟩:=id z;refine h { s with heap:=h' } ⟨I.ok,I.os,I.bare,⟨λb o e n hb hx=>?_,λb o e n hb hx=>?_,I.base.free,λb o e hx=>?_,I.base.lP,I.base.k8,I.base.nQ⟩,⟨m,hn.sameBut hs (afZ (oq x c hc)),λj y v' e1 e2 e3=>?_⟩,λy c' e=>?_,I.free,I.jZ,λp hp=>?_,tracked ⟨oc,lN,I.jZ x c hc⟩ hs,by simpa using I.len,I.hq⟩ ⟨c,hs,.inr hc⟩
  .exact(hs.2 b (acX (ac3 (ab2 e) (I.ok.uZ x c G9 hc)))).trans (I.base.keep b o e n hb hx)
  .obtain⟨sl,e1⟩:=I.base.slot b o e n hb hx;exact⟨sl,(hs.2 b (acX (ac3 (ab2 e) (I.ok.uZ x c G9 hc)))).trans e1⟩
  .obtain⟨o',e1⟩:=I.base.there b o e hx;exact⟨o',(hs.2 b (acX (ac3 (ab2 e) (I.ok.uZ x c G9 hc)))).trans e1⟩
  .by_cases hj:j=i
   .subst hj;rw[hi] at e1;cases e1;rw[aea Mx] at e2;cases e2;exact⟨u,r,.inr ⟨.inl hk,c,hc,sJ⟩⟩
   .rw[acS (afZ hj)] at e2;obtain⟨u',r',q⟩:=hl j y v' e1 e2 e3;refine⟨u',r',?_⟩;rcases q with q|⟨k,c',e,z'⟩
    .exact .inl q
    .refine .inr ⟨k,c',e,z'.sameBut hs ?_⟩
     rintro rfl
     exact hj (Q9 hN e1 (I.ok.inj _ _ _ e hc ▸ hi))
  .by_cases Rm:c'=c
   .subst Rm;exact⟨_,sJ⟩
   .obtain⟨w2,z2⟩:=I.cell y c' e;exact⟨w2,z2.sameBut hs Rm⟩
  .obtain⟨e,n,ne,nf,d⟩:=I.pin p hp;refine⟨(hs.2 p.1 ?_).trans e,n,ne,nf,d⟩;intro q;rw[q,lN] at e;have q':=acf e;exact d w' (by rw[<- q'];exact aaj)
theorem GA(I:Inv X ah σ H s)(hN:X.N.Nodup)(hi:X.N[i]? = some x)(hx:Loc X.env.scope x)(r:RelV v u)
  (h:∀s',Inv X ah (σ.set i (some v)) H s'->Q () s') (hf:v6 X x:=by first|exact .inl rfl|exact .inr rfl|assumption):wpAny M A (storeName X.env x u) Q E s:=
 R5 I hN hi hx r (λs' I' _=>h s' I') hf
theorem Inv.afJ(I:Inv X ah σ H s)(ho:s'.os=s.os)(u:Un (eV X.stack) ch H H' s.heap s'.heap)(aK:eF X.prog X.w H' s'.heap)(hg:AllBare s'.gens)
  (nE:∀b∈ch,(b∈X.ex\/X.eT.heap.objs.size<=b)/\b≠X.env.locals/\(∀x c,X.env.cells.lookup x=some c->c≠b)/\∀p∈X.pn++ah,p.1≠b):Inv X ah σ H' s':=by
 obtain⟨h',g',d',t',o'⟩:=s';have e:=ho;subst e;exact I.call (g':=g') (d':=d') u aK hg nE
end
abbrev XK:=Value->Option Addr->Hp->Prop
noncomputable abbrev St:=List (Option V)
abbrev VK:=V->Hp->Prop
abbrev TE:=St->Hp->VK->Prop
abbrev TT:=St->Hp->(Bool->Hp->Prop)->Prop
abbrev TA:=St->Hp->(List V->Hp->Prop)->Prop
structure Ends where
 nx:St->Hp->Prop
 rt:VK
 bk:St->Hp->Prop:=λ_ _=>False
 ct:St->Hp->Prop:=λ_ _=>False
abbrev TS:=Ends->St->Hp->Prop
def EP(X:Cx)(ah:List (Addr×Obj))(σ:St)(Q:VK)(u:Value)(s':Shared):Prop:=∃v H',Inv X ah σ H' s'/\RelV v u/\Q v H'
def TP(X:Cx)(ah:List (Addr×Obj))(σ:St)(Q:Bool->Hp->Prop)(b:Bool)(s':Shared):Prop:=∃H',Inv X ah σ H' s'/\Q b H'
def AP(X:Cx)(ah:List (Addr×Obj))(σ:St)(Q:List V->Hp->Prop)(us:List Value)(s':Shared):Prop:=∃vs H',Inv X ah σ H' s'/\aU vs us/\Q vs H'
def SP(X:Cx)(ah:List (Addr×Obj))(D:Ends)(f:Flow)(s':Shared):Prop:=
 match f with
 |.next=>∃aI H',Inv X ah aI H' s'/\D.nx aI H'
 |.brk=>∃aI H',Inv X ah aI H' s'/\D.bk aI H'
 |.cont=>∃aI H',Inv X ah aI H' s'/\D.ct aI H'
 |.ret u=>∃v aI H',Inv X ah aI H' s'/\RelV v u/\D.rt v H'
def PE(X:Cx)(e:Expr)(t:TE):Prop:=
 ∀(ah) (s) (σ) (H) (Q),Inv X ah σ H s->t σ H Q->Y1 X X.A (eval e X.env) (EP X ah σ Q) X.xe s
def PT(X:Cx)(e:Expr)(t:TT):Prop:=
 ∀(ah) (s) (σ) (H) (Q),Inv X ah σ H s->t σ H Q->Y1 X X.A (isTrue e X.env (eval e X.env)) (TP X ah σ Q) X.xe s
def PW(X:Cx)(e:Expr)(t:TT):Prop:=
 ∀(whole) (ah) (s) (σ) (H) (Q),Inv X ah σ H s->t σ H Q->Y1 X X.A (isTrue e X.env whole) (TP X ah σ Q) X.xe s
theorem PW.pt(h:PW X e t):PT X e t:=h _
def PA(X:Cx)(es:List Expr)(t:TA):Prop:=
 ∀(pos) (ah) (s) (σ) (H) (Q),Inv X ah σ H s->t σ H Q->Y1 X X.A (spliced (backTo pos (starEach es X.env))) (AP X ah σ Q) X.xe s
def PS(X:Cx)(st:Stmt)(t:TS):Prop:=
 ∀(ah) (s) (σ) (H) (D),Inv X ah σ H s->t D σ H->Y1 X X.A (exec st X.env) (SP X ah D) X.xe s
def iF(X:Cx)(st:List Stmt)(t:TS):Prop:=
 ∀(ah) (s) (σ) (H) (D),Inv X ah σ H s->t D σ H->Y1 X X.A (execs st X.env) (SP X ah D) X.xe s
theorem cM(h:wpAny M A t Q E s)(hQ:∀a s,Q a s->Q' a s):wpAny M A t Q' E s:=ae0 h hQ λ_ _ x=>x
theorem Fb(h:wpAny M A t (EP X ah σ Q) E s)(k:∀v s1 x H1,Inv X ah σ H1 s1->RelV x v->Q x H1->Q' v s1):wpAny M A t Q' E s:=cM h λv s1 ⟨x,H1,I,r,q⟩=>k v s1 x H1 I r q
theorem JH(h:wpAny M A t (AP X ah σ Q) E s)(k:∀v s1 x H1,Inv X ah σ H1 s1->aU x v->Q x H1->Q' v s1):wpAny M A t Q' E s:=cM h λv s1 ⟨x,H1,I,r,q⟩=>k v s1 x H1 I r q
theorem Jx(h:wpAny M A t (TP X ah σ Q) E s)(k:∀v s1 H1,Inv X ah σ H1 s1->Q v H1->Q' v s1):wpAny M A t Q' E s:=cM h λv s1 ⟨H1,I,q⟩=>k v s1 H1 I q
theorem PE.n(a:PE X e t)(I:Inv X ah σ H s)(h:t σ H Q)(k:∀v s1 x H1,Inv X ah σ H1 s1->RelV x v->Q x H1->Q' v s1):Y1 X X.A (eval e X.env) Q' X.xe s:=Fb (a ah s σ H Q I h) k
theorem PT.n(a:PT X e t)(I:Inv X ah σ H s)(h:t σ H Q)(k:∀v s1 H1,Inv X ah σ H1 s1->Q v H1->Q' v s1):Y1 X X.A (isTrue e X.env (eval e X.env)) Q' X.xe s:=Jx (a ah s σ H Q I h) k
theorem PA.n(a:PA X e t)(I:Inv X ah σ H s)(h:t σ H Q)(k:∀v s1 x H1,Inv X ah σ H1 s1->aU x v->Q x H1->Q' v s1):Y1 X X.A (spliced (backTo pos (starEach e X.env))) Q' X.xe s:=JH (a pos ah s σ H Q I h) k
section
def Dw(i:Nat):TE:=λσ H Q=>∃v,σ[i]? = some (some v)/\Q v H
def tC(v:V):TE:=λ_ H Q=>Q v H
theorem MJ(hN:X.N[i]? = some x)(hv:J4 X.env.scope x)(hd:(x==("__debug__":Str))=false:=by decide)(o6:(x==("__classdict__":Str))=false:=by decide):PE X (.Name x pos) (Dw i):=by
 exists 44;obtain⟨v,e,h⟩:=h;obtain⟨m,hn,hl⟩:=I.loc;obtain⟨u,r,l⟩:=hl i x v hN e hv;have fin:EP X ah σ Q u s:=⟨v,H,I,r,h⟩
 rcases l with⟨hk,hm⟩|⟨hk,c,hc,MP⟩
 .exact wpAny_Name (wpAny_loadName_local I.ok.kind hk hn hm fin) hd
 .rcases hk with hk|hk
  .exact wpAny_Name (wpAny_loadName_cell I.ok.kind hk hc MP fin) hd
  .exact wpAny_Name (wpAny_loadName_free I.ok.kind hk hc MP fin o6) hd
theorem M6{i j pos}:PE X (.Constant (.int i) j pos) (tC (.int i)):=λ_ _ _ H _ I h=>wpAny_Constant_int ⟨.int i,H,I.tok _,⟨_,rfl⟩,h⟩
theorem YS{b j pos}:PE X (.Constant (.bool b) j pos) (tC (.bl b)):=λ_ _ _ H _ I h=>Constant_bool ⟨.bl b,H,I,rfl,h⟩
theorem VD{j pos}:PE X (.Constant .none j pos) (tC .az):=λ_ _ _ H _ I h=>Constant_none ⟨.az,H,I,rfl,h⟩
theorem Ut{x j pos}:PE X (.Constant (.str x) j pos) (tC (.str x)):=λ_ _ _ H _ I h=>Calls.Constant_str ⟨.str x,H,I.tok _,⟨_,rfl⟩,h⟩
def Gl(X:Cx)(x:Str):Prop:=X.env.kindOf x=some .globalImplicit
theorem B0(I:Inv X ah σ H s)(hg:Gl X x)(hm:X.mg x=some u)(h:Q u s)
  (hd:(x==("__debug__":Str))=false:=by decide):Y1 X X.A (eval (.Name x pos) X.env) Q E s:=
 Calls.Name_function_global I.ok.kind hg (Calls.loadGlobal_global (by rw[I.ok.glob];exact I.mod.glob.keeps I.bk) hm h) hd
theorem pJ(I:Inv X ah σ H s)(hg:Gl X x)(hm:X.mg x=none)(hv:bootBuiltins x=some u)(h:Q u s)
  (hn:x≠"__name__":=by decide) (hd:(x==("__debug__":Str))=false:=by decide):Y1 X X.A (eval (.Name x pos) X.env) Q E s:=by
 obtain⟨mb,h1,h2⟩:=I.mod.blt;exact Calls.Name_function_global I.ok.kind hg (Calls.loadGlobal_builtin (by rw[I.ok.glob];exact I.mod.glob.keeps I.bk) hm (by rw[I.ok.blt];exact h1.keeps I.bk) ((h2 x hn).trans hv) h) hd
theorem M_(hg:Gl X x)(hm:X.mg x=some u)(r:RelV v u)(hd:(x==("__debug__":Str))=false:=by decide):PE X (.Name x pos) (tC v):=
 λ_ _ _ H _ I h=>B0 I hg hm ⟨v,H,I,r,h⟩ hd
theorem LR(hg:Gl X x)(hm:X.mg x=none)(hv:bootBuiltins x=some u)(r:RelV v u)(hn:x≠"__name__":=by decide)(hd:(x==("__debug__":Str))=false:=by decide):PE X (.Name x pos) (tC v):=
 λ_ _ _ H _ I h=>pJ I hg hm hv ⟨v,H,I,r,h⟩ hn hd
def PC(X:Cx)(op:CmpOp)(a b:Expr)(t:TE):Prop:=
 ∀(ah) (s) (σ) (H) (Q),Inv X ah σ H s->t σ H Q->
  Y1 X X.A (eval a X.env) (λv bS=>Y1 X X.A (eval b X.env) (λu qO=>Y1 X X.A (compareOp op v u) (EP X ah σ Q) X.xe qO) X.xe bS) X.xe s
def tB(t:TE):TT:=λσ H Q=>t σ H λx H1=>∃c,x=.bl c/\Q c H1
theorem PU(h:PC X op a b t)(h1:behindInMarks op b=false:=by first|exact We _ (by decide) (by decide)|rfl):PE X (.Compare a [op] [b] pos) t:=λah s σ H Q I hw=>wpAny_Compare1 (h ah s σ H Q I hw) h1
theorem NN(h:PC X op a b t)(h1:behindInMarks op b=false:=by first|exact We _ (by decide) (by decide)|rfl):PT X (.Compare a [op] [b] pos) (tB t):=by
 intro ah s σ H Q I hw;refine wpAny_isTrue_Compare1 (cM (h ah s σ H _ I hw) λv s1 h1=>cM h1 λu s2 h2=>cM h2 λc s3 ⟨x,H1,I1,r1,q1⟩=>?_) h1;obtain⟨d,rfl,q⟩:=q1;cases r1;exact afR ⟨H1,I1,q⟩
theorem C5(h:PE X e t)(he:∀whole,isTrue e X.env whole=(do let v <- whole;standAt e.pos;holding [v] (truthy v)):=by intro _;rfl):PT X e (tB t):=by
 intro ah s σ H Q I hw;refine isTrue_plain (h.n I hw λv s1 x H1 I1 r1 q1=>?_) (he _);obtain⟨d,rfl,q⟩:=q1;cases r1;exact afR ⟨H1,I1,q⟩
variable{rest:List Expr}
def S8(t u:TT):TT:=λσ H Q=>t σ H λc H1=>if c=true then u σ H1 Q else Q false H1
def Xw(t u:TT):TT:=λσ H Q=>t σ H λc H1=>if c=true then Q true H1 else u σ H1 Q
def Wh(t:TT):TT:=λσ H Q=>t σ H λc H1=>Q (!c) H1
theorem Mn(ha:PT X a tA):PW X (.BoolOp .And [a] pos) tA:=by
 intro wh ah s σ H Q I h;refine isTrue_and (cM (ha ah s σ H Q I h) λc s1 e=>?_);cases c with
 |true=>exact isTrue_and_nil e
 |false=>exact e
theorem acv(ha:PT X a tA):PW X (.BoolOp .Or [a] pos) tA:=by
 intro wh ah s σ H Q I h;refine isTrue_or (cM (ha ah s σ H Q I h) λc s1 e=>?_);cases c with
 |false=>exact isTrue_or_nil e
 |true=>exact e
theorem OL(ha:PT X a tA)(hb:PW X (.BoolOp .And (b::rest) pos) Iz):PW X (.BoolOp .And (a::b::rest) pos) (S8 tA Iz):=by
 intro wh ah s σ H Q I h;refine isTrue_and (ha.n I h λc s1 H1 I1 q1=>?_);cases c with
 |true=>exact hb wh ah s1 σ H1 Q I1 q1
 |false=>exact⟨H1,I1,q1⟩
theorem adN(ha:PT X a tA)(hb:PW X (.BoolOp .Or (b::rest) pos) Iz):PW X (.BoolOp .Or (a::b::rest) pos) (Xw tA Iz):=by
 intro wh ah s σ H Q I h;refine isTrue_or (ha.n I h λc s1 H1 I1 q1=>?_);cases c with
 |true=>exact⟨H1,I1,q1⟩
 |false=>exact hb wh ah s1 σ H1 Q I1 q1
theorem KR(ha:PT X a tA):PT X (.UnaryOp .Not a pos) (Wh tA):=by
 exists 44;exact isTrue_not (ha ah s σ H (λc H1=>Q (!c) H1) I h)
def UD(ta tb:TE):TE:=λσ H Q=>ta σ H λx H1=>∃c,x=.bl c/\if c=true then tb σ H1 Q else Q (.bl false) H1
def aeG(ta tb:TE):TE:=λσ H Q=>ta σ H λx H1=>∃c,x=.bl c/\if c=true then Q (.bl true) H1 else tb σ H1 Q
def ac9(ta:TE):TE:=λσ H Q=>ta σ H λx H1=>∃c,x=.bl c/\Q (.bl (!c)) H1
theorem OT{op}(h:PE X a t):PE X (.BoolOp op [a] pos) t:=λah s σ H Q I hw=>BoolOp_one (h ah s σ H Q I hw)
theorem afw(ha:PE X a ta)(hb:PE X (.BoolOp .And (b::rest) pos) tb):PE X (.BoolOp .And (a::b::rest) pos) (UD ta tb):=by
 exists 44;refine BoolOp_and (ha.n I h λv s1 x H1 I1 r1 q1=>?_);obtain⟨c,rfl,q1⟩:=q1;cases r1;refine afR ?_;cases c with
 |true=>exact hb ah s1 σ H1 Q I1 q1
 |false=>exact⟨.bl false,H1,I1,rfl,q1⟩
theorem Rp(ha:PE X a ta)(hb:PE X (.BoolOp .Or (b::rest) pos) tb):PE X (.BoolOp .Or (a::b::rest) pos) (aeG ta tb):=by
 exists 44;refine BoolOp_or (ha.n I h λv s1 x H1 I1 r1 q1=>?_);obtain⟨c,rfl,q1⟩:=q1;cases r1;refine afR ?_;cases c with
 |false=>exact hb ah s1 σ H1 Q I1 q1
 |true=>exact⟨.bl true,H1,I1,rfl,q1⟩
theorem Vt(ha:PE X a ta):PE X (.UnaryOp .Not a pos) (ac9 ta):=by
 exists 44;refine UnaryOp_ (ha.n I h λv s1 x H1 I1 r1 q1=>?_);obtain⟨c,rfl,q1⟩:=q1;cases r1;exact not_of (afR ⟨.bl (!c),H1,I1,rfl,q1⟩)
def tIf(t:TT)(ta tb:TE):TE:=λσ H Q=>t σ H λc H1=>if c=true then ta σ H1 Q else tb σ H1 Q
theorem afj(hc:PT X c tA)(ha:PE X a ta)(hb:PE X b tb):PE X (.IfExp c a b pos) (tIf tA ta tb):=by
 exists 44;refine wpAny_IfExp (hc.n I h λd s1 H1 I1 q1=>?_);cases d with
 |true=>exact ha ah s1 σ H1 Q I1 q1
 |false=>exact hb ah s1 σ H1 Q I1 q1
end
def bX(K:PySem.W.Frag)(H:Hp)(a:Addr)(xs:List V):Prop:=
 Rd H a (.lst xs)\/
  ∃(o:Obj) (ay:Array Value) (n:Nat),K.lookup a=some o/\o.cls=.type "list"/\o.dict=none/\o.data=.seq ay n/\ay.size<=sizeLine/\aU xs ay.toList
def cg(K:PySem.W.Frag)(H:Hp)(a:Addr)(xs:List V):Prop:=
 Rd H a (.tup xs)\/
  ∃(o:Obj) (ay:Array Value) (n:Nat),K.lookup a=some o/\o.cls=.type "tuple"/\o.dict=none/\o.data=.seq ay n/\ay.size<=sizeLine/\aU xs ay.toList
noncomputable def aaJ:Value->Option V
 |.none=>some .az
 |.bool b=>some (.bl b)
 |.int i _=>some (.int i)
 |.str x _=>some (.str x)
 |.bytes b _=>some (.jQ b)
 |.float b _=>some (.sA b)
 |.ref a=>some (.ref a)
 |.type n=>some (.ty n)
 |_=>none
theorem RelV.abs(r:RelV x u):aaJ u=some x:=by
 cases x with
 |az=>cases r;rfl
 |bl _=>cases r;rfl
 |int _=>obtain⟨t,rfl⟩:=r;rfl
 |str _=>obtain⟨t,rfl⟩:=r;rfl
 |jQ _=>obtain⟨t,rfl⟩:=r;rfl
 |sA _=>obtain⟨t,rfl⟩:=r;rfl
 |ref _=>cases r;rfl
 |ty _=>cases r;rfl
theorem RelV.inj(r:RelV x u)(q:RelV y u):x=y:=acf (r.abs.symm.trans q.abs)
theorem aU.inj:∀{xs ys} {us},aU xs us->aU ys us->xs=ys
 |_,_,_,.nil,.nil=>rfl
 |_,_,_,.cons r t,.cons r' t'=>by rw[r.inj r',aU.inj t t']
theorem bX.of{K:PySem.W.Frag}(h:H a=some (.lst xs)):bX K H a xs:=.inl (.inl h)
theorem cg.of{K:PySem.W.Frag}(h:H a=some (.tup xs)):cg K H a xs:=.inl (.inl h)
theorem Inv.list(I:Inv X ah σ H s)(h:bX X.K H a xs):∃ay:List Value,aU xs ay/\PlainL s.heap a ay.toArray/\xs.length<=sizeLine:=by
 rcases h with h|⟨o,ay,n,hk,hc,hd,hs,hz,r⟩
 .obtain⟨z,ay,n,r,e⟩:=h.ok I.aK;exact⟨ay,r,⟨_,n,e,rfl,rfl,rfl⟩,z⟩
 .refine⟨ay.toList,r,⟨o,n,I.d_ a o hk,hc,hd,by simpa using hs⟩,?_⟩;have e:=r.length;simp only[afI] at e;omega
theorem Inv.Oc(I:Inv X ah σ H s)(h:cg X.K H a xs):∃ay:List Value,aU xs ay/\nq s.heap a ay.toArray/\xs.length<=sizeLine:=by
 rcases h with h|⟨o,ay,n,hk,hc,hd,hs,hz,r⟩
 .obtain⟨z,ay,r,p⟩:=h.ok I.aK;exact⟨ay,r,p,z⟩
 .refine⟨ay.toList,r,⟨o,I.d_ a o hk,hc,hd,n,by simpa using hs⟩,?_⟩;have e:=r.length;simp only[afI] at e;omega
theorem Inv.tuple(I:Inv X ah σ H s)(h:cg X.K H a xs):∃ay:List Value,aU xs ay/\IsTup s.heap a ay.toArray/\xs.length<=sizeLine:=by
 rcases h with h|⟨o,ay,n,hk,hc,hd,hs,hz,r⟩
 .obtain⟨z,ay,r,p⟩:=h.ok I.aK;exact⟨ay,r,p.isTup,z⟩
 .refine⟨ay.toList,r,⟨o,I.d_ a o hk,hc,n,by simpa using hs⟩,?_⟩;have e:=r.length;simp only[afI] at e;omega
theorem Inv.CK(I:Inv X ah σ H s)(h:bX X.K H a xs)(h':bX X.K H a ys):xs=ys:=by
 obtain⟨ay,r,⟨o,n,e,_,_,d⟩,_⟩:=I.list h;obtain⟨its',r',⟨o',n',e',_,_,d'⟩,_⟩:=I.list h';rw[e] at e';cases e';rw[d] at d';injection d' with d1 _;have:ay=its':=by simpa using congrArg Array.toList d1
 subst this;exact r.inj r'
theorem Inv.Tw(I:Inv X ah σ H s)(h:cg X.K H a xs)(h':cg X.K H a ys):xs=ys:=by
 obtain⟨ay,r,⟨o,e,_,n,d⟩,_⟩:=I.tuple h;obtain⟨its',r',⟨o',e',_,n',d'⟩,_⟩:=I.tuple h';rw[e] at e';cases e';rw[d] at d';injection d' with d1 _;have:ay=its':=by simpa using congrArg Array.toList d1
 subst this;exact r.inj r'
noncomputable abbrev Cx.kR(X:Cx)(E:Value->Shared->Prop):Cx:={ X with xe:=E }
abbrev Cx.gb(X:Cx):Cx:=X.kR λ_ _=>False
theorem Cx.Ok.kR{X:Cx}(ok:X.Ok)(E:Value->Shared->Prop):(X.kR E).Ok:=
 ⟨ok.mod,ok.kind,ok.glob,ok.blt,ok.above,ok.inj,ok.has,ok.uZ,ok.hd,ok.frames,ok.zB,ok.zV,ok.bs,ok.kF,ok.vE,ok.vR,ok.kq,ok.qU⟩
theorem Cx.Ok.lY{X:Cx}(ok:(X.kR E).Ok):X.Ok:=
 ⟨ok.mod,ok.kind,ok.glob,ok.blt,ok.above,ok.inj,ok.has,ok.uZ,ok.hd,ok.frames,ok.zB,ok.zV,ok.bs,ok.kF,ok.vE,ok.vR,ok.kq,ok.qU⟩
theorem Inv.kR(I:Inv X ah σ H s)(E:Value->Shared->Prop):Inv (X.kR E) ah σ H s:=⟨I.ok.kR E,I.os,I.bare,I.base,I.loc,I.cell,I.free,I.jZ,I.pin,I.aK,I.len,I.hq⟩
theorem Inv.lY(I:Inv (X.kR E) ah σ H s):Inv X ah σ H s:=⟨I.ok.lY,I.os,I.bare,I.base,I.loc,I.cell,I.free,I.jZ,I.pin,I.aK,I.len,I.hq⟩
theorem SP.lY(h:SP (X.kR E) ah D f s'):SP X ah D f s':=by
 cases f with
 |next=>obtain⟨aI,H',I,q⟩:=h;exact⟨aI,H',I.lY,q⟩
 |brk=>obtain⟨aI,H',I,q⟩:=h;exact⟨aI,H',I.lY,q⟩
 |cont=>obtain⟨aI,H',I,q⟩:=h;exact⟨aI,H',I.lY,q⟩
 |ret u=>obtain⟨v,aI,H',I,r,q⟩:=h;exact⟨v,aI,H',I.lY,r,q⟩
theorem iF.gb{st:List Stmt}(h:iF X.gb st t):iF X st t:=λah s σ H D I hw=>
 ae0 (h ah s σ H D (I.kR _) hw) (λ_ _ q=>q.lY) λ_ _ z=>False.elim z
section
variable{st:Stmt}{rest:List Stmt}
def acN:TS:=λD σ H=>D.nx σ H
def abu(t u:TS):TS:=λD σ H=>t { D with nx:=u D } σ H
theorem Ow:iF X [] acN:=λ_ _ σ H _ I h=>wpAny_execs_nil ⟨σ,H,I,h⟩
theorem zL(h1:PS X st t)(h2:iF X rest u):iF X (st::rest) (abu t u):=by
 exists 45;refine wpAny_execs_cons (cM (h1 ah s σ H { D with nx:=u D } I h) λf s1 q=>?_);cases f with
 |next=>
  obtain⟨aI,H',I',q⟩:=q;exact h2 ah s1 aI H' D I' q
 |ret v=>exact q
 |brk=>exact q
 |cont=>exact q
theorem Kw(h1:PS X st t):iF X [st] t:=by
 exists 45;refine wpAny_execs_cons (cM (h1 ah s σ H D I h) λf s1 q=>?_);cases f with
 |next=>exact wpAny_execs_nil q
 |ret v=>exact q
 |brk=>exact q
 |cont=>exact q
theorem Inv.quiet(I:Inv X ah σ H s):interactive X.env=false:=by simp[interactive,I.ok.kind]
def adu(te:TE):TS:=λD σ H=>te σ H λ_ H1=>D.nx σ H1
theorem wX(he:PE X e te)(hs:swapsWith e none pos.line X.env=pure false:=by rfl):PS X (.Expr e pos) (adu te):=by
 exists 45;exact wpAny_Expr_any (he.n I h λv s1 x H1 I1 r1 q1=>⟨σ,H1,I1,q1⟩) I.quiet hs
def afz(te:TE):TS:=λD σ H=>te σ H D.rt
theorem wY(he:PE X e te):PS X (.Return (some e) pos) (afz te):=by
 exists 45;exact wpAny_Return_some (he.n I h λv s1 x H1 I1 r1 q1=>⟨x,σ,H1,I1,r1,q1⟩)
def afp(c:TT)(t u:TS):TS:=λD σ H=>c σ H λb H1=>if b=true then t D σ H1 else u D σ H1
theorem Jm(hc:PT X c tc)(ha:iF X a t)(hb:iF X b u):PS X (.If c a b pos) (afp tc t u):=by
 exists 45;refine wpAny_If (hc.n I h λd s1 H1 I1 q1=>?_);cases d with
 |true=>exact ha ah s1 σ H1 D I1 q1
 |false=>exact hb ah s1 σ H1 D I1 q1
def acm:TS:=λ_ _ _=>False
theorem Rw:PS X st acm:=λ_ _ _ _ _ _ h=>h.elim
end
abbrev TG:=V->St->Hp->(St->Hp->Prop)->Prop
abbrev xx:=List V->St->Hp->(St->Hp->Prop)->Prop
def PG(X:Cx)(target:Expr)(t:TG):Prop:=
 ∀(ah) (s) (σ) (H) (v) (u) (Q),Inv X ah σ H s->RelV v u->t v σ H Q->
  Y1 X X.A (assign target X.env u) (λ_ s'=>∃aI H',Inv X ah aI H' s'/\Q aI H') X.xe s
def yF(X:Cx)(ts:List Expr)(t:xx):Prop:=
 ∀(ah) (s) (σ) (H) (vs) (us) (Q),Inv X ah σ H s->aU vs us->t vs σ H Q->
  Y1 X X.A (assignInOrder ((assignEach ts X.env).map (·.2)) us) (λ_ s'=>∃aI H',Inv X ah aI H' s'/\Q aI H') X.xe s
def Aj(i:Nat):TG:=λv σ H Q=>Q (σ.set i (some v)) H
theorem Hu(hN:X.N.Nodup)(hi:X.N[i]? = some x)(hx:Loc X.env.scope x)(hf:v6 X x:=by first|exact .inl rfl|exact .inr rfl|assumption):PG X (.Name x pos) (Aj i):=by
 intro ah s σ H v u Q I r h;exact wpAny_assign_Name (GA I hN hi hx r (λs' I'=>⟨_,H,I',h⟩) hf)
def abJ:xx:=λvs σ H Q=>vs=[]/\Q σ H
def XT(t:TG)(u:xx):xx:=λvs σ H Q=>∃v r,vs=v::r/\t v σ H λaI H'=>u r aI H' Q
theorem L3:yF X [] abJ:=by
 intro ah s σ H vs us Q I r h;obtain⟨e,h⟩:=h;subst e;cases r;exact assignInOrder_nil ⟨σ,H,I,h⟩
theorem Er(h1:PG X e t)(h2:yF X es u)
  (hs:(assignEach (e::es) X.env).map (·.2)=assign e X.env::(assignEach es X.env).map (·.2):=by rfl):yF X (e::es) (XT t u):=by
 intro ah s σ H vs us Q I r h;obtain⟨v,vr,e1,h⟩:=h;subst e1;cases r with
 |cons r rr=>
  rw[hs];refine assignInOrder_cons (cM (h1 ah s σ H _ _ _ I r h) ?_)
  rintro _ s1 ⟨pM,H1,I1,q1⟩
  exact h2 ah s1 pM H1 _ _ Q I1 rr q1
def Y6(K:PySem.W.Frag)(n:Nat)(t:xx):TG:=λv σ H Q=>∃a xs,v=.ref a/\cg K H a xs/\xs.length=n/\t xs σ H Q
theorem Pu(hc:X.calm=true)(h:yF X es t)
  (hn:(assignEach es X.env).length=n:=by rfl) (iP:(assignEach es X.env).findIdx? (·.1)=none:=by rfl):PG X (.Tuple es k pos) (Y6 X.K n t):=by
 intro ah s σ H v u Q I r hw;obtain⟨a,xs,e1,hq,hl,hw⟩:=hw;subst e1;cases r;obtain⟨ay,rv,ht,hz⟩:=I.tuple hq;refine assign_Tuple_tuple (I.ok.hd hc) ht (by simp[hn,<- hl,rv.length]) iP λh' hx=>?_
 have I1:=I.kept (t':=s.toks) λb o e=>hx b o (acX (ab2 e)) e
 exact h ah _ σ H xs _ Q I1 (by simpa using rv) hw
def Ol(te:TE)(g:TG):TS:=λD σ H=>te σ H λx H1=>g x σ H1 D.nx
theorem Bx(hN:X.N.Nodup)(hi:X.N[i]? = some x)(hx:Loc X.env.scope x)(he:PE X e te)(hs:swapsWith e (some (.Name x pos')) pos.line X.env=pure false:=by rfl)(hf:v6 X x:=by first|exact .inl rfl|exact .inr rfl|assumption):
  PS X (.Assign [.Name x pos'] e pos) (Ol te (Aj i)):=by
 exists 45;refine wpAny_Assign_Name (he.n I h λv s1 y H1 I1 r1 q1=>?_) hs;exact GA I1 hN hi hx r1 (λs2 I2=>⟨_,H1,I2,q1⟩) hf
def WO(c:TT)(tb:TS):TS:=λD σ H=>∃W:Nat->St->Hp->Prop,(∃m,W m σ H)/\∀m σ H,W m σ H->
 c σ H λb H1=>if b=true then ∃N:St->Hp->Prop,(∀aI H',N aI H'->∃m',m'<m/\W m' aI H')/\tb { D with nx:=N,ct:=N,bk:=D.nx } σ H1 else D.nx σ H1
theorem KQ(hp:PassesOwn (model X.prog X.w) X.A X.env X.xe)(hc:PT X c tc)(hb:iF X body tb):PS X (.While c body [] pos) (WO tc tb):=by
 exists 45;obtain⟨W,⟨m0,w0⟩,turn⟩:=h;refine wpAny_While (codeAny_whileLoop (λn s'=>∃aI H',Inv X ah aI H' s'/\W n aI H') ?_ m0 ⟨σ,H,I,w0⟩)
 rintro n s1 ⟨pM,H1,I1,w1⟩
 refine agt hp (Jx (hc ah s1 pM H1 _ I1 (turn n pM H1 w1)) λb s2 H2 I2 q2=>?_);cases b with
 |true=>
  obtain⟨N,hN,q2⟩:=q2;rw[if_pos rfl];refine agt hp (cM (hb ah s2 pM H2 _ I2 q2) λf s3 q3=>?_);cases f with
  |next=>
   obtain⟨cZ,H3,I3,n3⟩:=q3;obtain⟨m',hm,w3⟩:=hN cZ H3 n3;exact⟨m',hm,cZ,H3,I3,w3⟩
  |cont=>
   obtain⟨cZ,H3,I3,n3⟩:=q3;obtain⟨m',hm,w3⟩:=hN cZ H3 n3;exact⟨m',hm,cZ,H3,I3,w3⟩
  |brk=>exact q3
  |ret v=>exact q3
 |false=>
  rw[if_neg abk];exact wpAny_execs_nil ⟨pM,H2,I2,q2⟩
structure It where
 go:Nat->Hp->Prop
 zJ:Nat->Hp->V->Hp->Prop
 stop:Nat->Hp->Prop
 rg:Bool
def iE(X:Cx)(ah:List (Addr×Obj))(H:Hp)(b:Addr):Prop:=
 H b=none/\b≠X.env.locals/\b∉X.fs/\(b∈X.ex\/X.eT.heap.objs.size<=b)/\(∀x c,X.env.cells.lookup x=some c->c≠b)/\∀p∈X.pn++ah,p.1≠b
theorem Inv.rH(I:Inv X ah σ H s)(hb:s.heap.objs.size<=b)(hn:H' b=none):iE X ah H' b:=by
 refine⟨hn,af5 (ac3 I.lt hb),I.Se hb,.inr (adk I.sz hb),λx c e z=>?_,λp hp z=>?_⟩
 .obtain⟨v,q⟩:=I.cell x c e;exact absurd (ac3 q.lt (by rw[z];exact hb)) (afe _)
 .exact absurd (ac3 (ab2 (I.pin p hp).1) (by rw[z];exact hb)) (afe _)
structure Turn(P:Program)(w:World)(K:PySem.W.Frag)(tg:Expr)(J:It)(fp:List Addr)(it:Addr)(tn:Nat->Heap->Prop):Prop where
 mem:it∈fp
 obj:∀i h,tn i h->∀b∈fp,∃o,h.get? b=some o/\∀v,o.data≠.cell v
 keep:∀i h h',tn i h->(∀b∈fp,∀o,h.get? b=some o->h'.get? b=some o)->tn i h'
 item:∀(X),X.prog=P->X.w=w->X.K=K->(X.calm=true\/J.rg=true)->∀(i) (ah) (s) (σ) (H) (E),Inv X ah σ H s->(∀b∈fp,iE X ah H b)->tn i s.heap->J.go i H->
  wpAny (model P w) X.A (pyNext (.ref it)) (λr s1=>∃u,r=some u/\
   wpAny (model P w) X.A (letOwnedTupleGo tg (.ref it) u) (λ_ s2=>∃x H',Inv X ah σ H' s2/\RelV x u/\J.zJ i H x H'/\tn (i+1) s2.heap/\∀b∈fp,H' b=none) E s1) E s
 done:∀(X),X.prog=P->X.w=w->X.K=K->(X.calm=true\/J.rg=true)->∀(i) (ah) (s) (σ) (H) (E),Inv X ah σ H s->(∀b∈fp,iE X ah H b)->tn i s.heap->J.stop i H->
  wpAny (model P w) X.A (pyNext (.ref it)) (λr s1=>r=none/\Inv X ah σ H s1) E s
 self:∀(A) (i) (s) (Q) (E),tn i s.heap->Q (.ref it) s->wpAny (model P w) A (pyIter (.ref it)) Q E s
abbrev TI:=St->Hp->(It->Hp->Prop)->Prop
def R1(X:Cx)(ah:List (Addr×Obj))(σ:St)(tg:Expr)(R:It->Hp->Prop)(BR:Value)(s2:Shared):Prop:=
 ∃(it:Addr) (fp:List Addr) (tn:Nat->Heap->Prop) (J:It) (H':Hp),BR=.ref it/\Inv X ah σ H' s2/\Turn X.prog X.w X.K tg J fp it tn/\tn 0 s2.heap/\(∀b∈fp,iE X ah H' b)/\R J H'
def PI(X:Cx)(tg iter:Expr)(wi:TI):Prop:=
 ∀(ah) (s) (σ) (H) (R),Inv X ah σ H s->wi σ H R->
  Y1 X X.A (eval iter X.env) (λv s1=>Y1 X X.A (pyIter v) (R1 X ah σ tg R) X.xe s1) X.xe s
theorem DG(ho:s.heap.get? it=some o)(hc:o.cls=.type n)(hd:o.data=.fields vs)
    (hn:["enumerate","zip","dict_itemiterator","dict_reverseitemiterator","odict_iterator","itertools.zip_longest","itertools.pairwise"].contains n=false) (hQ:Q () s):wpAny M A (letOwnedTupleGo tg (.ref it) u) Q E s:=by
  unfold letOwnedTupleGo;cases tg<;>first
    |exact ac1 hQ
    | (cases u <;> first
        |exact ac1 hQ
        | (refine abb (wpAny_load ho ?_)
           rw[hc,hd];show wpAny M A (if(["enumerate","zip","dict_itemiterator","dict_reverseitemiterator","odict_iterator","itertools.zip_longest","itertools.pairwise"].contains n&&vs[0]?==some (rawInt _))=true then _ else _) Q E s;rw[if_neg (by intro h;rw[hn,Bool.false_and] at h;cases h)];exact ac1 hQ))
noncomputable def AB(K:PySem.W.Frag)(a:Addr):It:=
 ⟨λi H=>∃xs x,bX K H a xs/\xs[i]? = some x,λi H x H'=>H'=H/\∀xs,bX K H a xs->xs[i]? = some x,λi H=>∃xs,bX K H a xs/\xs.length<=i,false⟩
noncomputable def JK(K:PySem.W.Frag)(a:Addr):It:=
 ⟨λi H=>∃xs x,cg K H a xs/\xs[i]? = some x,λi H x H'=>H'=H/\∀xs,cg K H a xs->xs[i]? = some x,λi H=>∃xs,cg K H a xs/\xs.length<=i,false⟩
def yO(lo:Int)(n:Nat):It:=⟨λi _=>i<n,λi H x H'=>H'=H/\x=.int (lo+i),λi _=>n<=i,true⟩
theorem Wu{K:PySem.W.Frag}(a it:Addr):Turn P w K tg (AB K a) [it] it (λi h=>h.IsListIter it a i) where
 mem:=by simp
 obj:=λi h st b hb=>by
  have e:b=it:=by simpa using hb
  subst e;obtain⟨o,e,c,d⟩:=st;exact⟨o,e,λv z=>by rw[d] at z;cases z⟩
 keep:=λi h h' st k=>st.at λo e=>k it (by simp) o e
 item:=by
  exists 40;subst hP hw hK;obtain⟨xs,x,hq,hx⟩:=hg;obtain⟨ay,rv,p,hz⟩:=I.list hq;obtain⟨u,hu,ru⟩:=rv.get hx;exists 53;refine wpAny_pyNext_list_item st p.isList (by simpa using hu) λh' ow sb=>?_
  have I1:=I.turned (t':=s.toks) (λb o hb e=>(sb.2 b hb).trans e) f0 f1 f3 f4 f5;obtain⟨o,e,c,d⟩:=id ow;exact⟨u,rfl,DG e c d (by decide) ⟨x,H,I1,ru,⟨rfl,λys hy=>by rw[I.CK hy hq];exact hx⟩,ow,λb hb=>(hf b hb).1⟩⟩
 done:=by
  exists 40;subst hP hw hK;obtain⟨xs,hq,hx⟩:=hg;obtain⟨ay,rv,p,hz⟩:=I.list hq;exists 53;have hl:=rv.length;exact wpAny_pyNext_list_end (I.ok.hd (hc.resolve_right λz=>abk z)) st p.isList (by simp;omega) λh' eb=>⟨rfl,I.turned (λb o hb e=>eb b o hb e) f0 f1 f3 f4 f5⟩
 self:=λ_ _ _ _ _ st h=>wpAny_pyIter_listiter st h
theorem XX{K:PySem.W.Frag}(a it:Addr):Turn P w K tg (JK K a) [it] it (λi h=>h.IsTupleIter it a i) where
 mem:=by simp
 obj:=λi h st b hb=>by
  have e:b=it:=by simpa using hb
  subst e;obtain⟨o,e,c,d⟩:=st;exact⟨o,e,λv z=>by rw[d] at z;cases z⟩
 keep:=λi h h' st k=>st.at λo e=>k it (by simp) o e
 item:=by
  exists 40;subst hP hw hK;obtain⟨xs,x,hq,hx⟩:=hg;obtain⟨ay,rv,p,hz⟩:=I.tuple hq;obtain⟨u,hu,ru⟩:=rv.get hx;exists 53;refine wpAny_pyNext_tuple_item st (show s.heap.IsTuple a ay.toArray from p) (by simpa using hu) λh' ow sb=>?_
  have I1:=I.turned (t':=s.toks) (λb o hb e=>(sb.2 b hb).trans e) f0 f1 f3 f4 f5;obtain⟨o,e,c,d⟩:=id ow;exact⟨u,rfl,DG e c d (by decide) ⟨x,H,I1,ru,⟨rfl,λys hy=>by rw[I.Tw hy hq];exact hx⟩,ow,λb hb=>(hf b hb).1⟩⟩
 done:=by
  exists 40;subst hP hw hK;obtain⟨xs,hq,hx⟩:=hg;obtain⟨ay,rv,p,hz⟩:=I.tuple hq;exists 53;have hl:=rv.length;exact wpAny_pyNext_tuple_end (I.ok.hd (hc.resolve_right λz=>abk z)) st (show s.heap.IsTuple a ay.toArray from p) (by simp;omega) λh' eb=>⟨rfl,I.turned (λb o hb e=>eb b o hb e) f0 f1 f3 f4 f5⟩
 self:=λ_ _ _ _ _ st h=>wpAny_pyIter_tupleiter st h
theorem afg{K:PySem.W.Frag}(it:Addr)(lo:Int)(n:Nat):Turn P w K tg (yO lo n) [it] it (λi h=>IsRangeIter h it (lo+(i:Nat)*1) ((n:Int)-(i:Nat)) 1) where
 mem:=by simp
 obj:=λi h st b hb=>by
  have e:b=it:=by simpa using hb
  subst e;exact⟨_,st,λv z=>by
   have z':=z;cases z'⟩
 keep:=λi h h' st k=>k it (by simp) _ st
 item:=by
  exists 40;subst hP hw hK;exists 53;refine wpAny_pyNext_range_item st (by have:i<n:=hg;omega) λh' ow sb=>?_
  have I1:Inv X ah σ H { s with heap:=h',toks:=s.toks+1 }:=I.turned (λb o hb e=>(sb.2 b hb).trans e) f0 f1 f3 f4 f5;have e1:lo+((i+1:Nat):Int)*1=lo+(i:Int)*1+1:=by omega
  have e2:(n:Int)-((i+1:Nat):Int)=(n:Int)-(i:Int)-1:=by omega
  refine⟨_,rfl,DG ow rfl rfl (by decide) ⟨.int (lo+i),H,I1,⟨s.toks,?_⟩,⟨rfl,rfl⟩,by rw[e1,e2];exact ow,λb hb=>(hf b hb).1⟩⟩;rw[Int.mul_one]
 done:=by
  exists 40;subst hP hw hK;exists 53;rcases I.hq.hd with h0|⟨a',ob,u,vs,h0,h1,h2,h3⟩
  .exact wpAny_pyNext_range_end h0 st (by have:n<=i:=hg;omega) λh' eb=>⟨rfl,I.turned (λb o hb e=>eb b o hb e) f0 f1 f3 f4 f5⟩
  .exact aaB h0 (I.aK a' _ h1).1 h2 h3 st (by have:n<=i:=hg;omega) λh' eb=>⟨rfl,I.turned (λb o hb e=>eb b o hb e) f0 f1 f3 f4 f5⟩
 self:=λ_ _ _ _ _ st h=>wpAny_pyIter_rangeiter st h
theorem Lp{lo hi:Int}{tk:Nat}(I:Inv X ah σ H s)(h1:-(2 ^ 62)<=lo)(h2:lo<2 ^ 62)(h3:-(2 ^ 62)<=hi)(h4:hi<2 ^ 62)
  (q:R (yO lo (hi-lo).toNat) H):Y1 X X.A (pyIter (.ref s.heap.objs.size)) (R1 X ah σ tg R) E { s with heap:=s.heap.push { cls:=.type "range",data:=.fields #[.int lo t,.int hi u,.int 1 v] },toks:=tk }:=by
 refine wpAny_pyIter_range (IsRange.new ..) (small_one h1 h2 h3 h4) ?_;have I1:Inv X ah σ H { s with heap:=s.heap.push { cls:=.type "range",data:=.fields #[.int lo t,.int hi u,.int 1 v] },toks:=tk }:=I.kept λb o e=>aax _ e
 refine⟨(s.heap.push { cls:=.type "range",data:=.fields #[.int lo t,.int hi u,.int 1 v] }).objs.size,[(s.heap.push { cls:=.type "range",data:=.fields #[.int lo t,.int hi u,.int 1 v] }).objs.size],_,_,H,rfl,
  I1.kept λb o e=>aax _ e,afg _ lo (hi-lo).toNat,?_,λb hb=>?_,q⟩
 .have e1:lo+((0:Nat):Int)*1=lo:=by simp
  have e2:(((hi-lo).toNat:Nat):Int)-((0:Nat):Int)=Builtin.Range.rangeSize lo hi 1:=by rw[rangeSize_one];split<;>omega
  rw[e1,e2];exact acC _ rfl
 .have e:b=(s.heap.push { cls:=.type "range",data:=.fields #[.int lo t,.int hi u,.int 1 v] }).objs.size:=by simpa using hb
  subst e;exact I1.rH (abL _) (I1.aK.fresh (abL _))
def UC(ta:TA):TI:=λσ H R=>ta σ H λvs H1=>∃j:Int,vs=[.int j]/\-(2 ^ 62)<=j/\j<2 ^ 62/\R (yO 0 j.toNat) H1
def abZ(ta:TA):TI:=λσ H R=>ta σ H λvs H1=>∃i j:Int,vs=[.int i,.int j]/\(-(2 ^ 62)<=i/\i<2 ^ 62/\-(2 ^ 62)<=j/\j<2 ^ 62)/\R (yO i (j-i).toNat) H1
theorem ab9{ta:TA}(hg:Gl X "range")(hm:X.mg "range"=none)(ha:PA X [a] ta)(hs:Y2 X a:=by rfl):PI X tg (.Call (.Name "range" p) [a] [] pos) (UC ta):=by
 intro ah s σ H R I h;refine Call_ (pJ I hg hm boot_range (af0 (ha.n I h λus s1 vs H1 I1 r1 q1=>?_) hs rfl));obtain⟨j,e,q1,q2,q⟩:=q1;subst e;cases r1 with
 |cons r rr=>
  cases rr;obtain⟨t,rfl⟩:=r;exact call_range_1 (Lp I1 (by omega) (by omega) q1 q2 (by simpa using q))
theorem Xr(hg:Gl X "range")(hm:X.mg "range"=none)(ha:PA X [a,b] ta)(hs:starEach [a,b] X.env=[(false,eval a X.env),(false,eval b X.env)]:=by rfl)(c_:Y2 X b:=by rfl):
  PI X tg (.Call (.Name "range" p) [a,b] [] pos) (abZ ta):=by
 intro ah s σ H R I h;refine Call_ (pJ I hg hm boot_range (af0 (ha.n I h λus s1 vs H1 I1 r1 q1=>?_) (by rw[hs,c_]) (by rw[c_];rfl)));obtain⟨i,j,e,⟨q1,q2,q3,q4⟩,q⟩:=q1;subst e;cases r1 with
 |cons r rr=>
  cases rr with
  |cons r' rr=>
   cases rr;obtain⟨t,rfl⟩:=r;obtain⟨t',rfl⟩:=r';exact call_range_2 (Lp I1 q1 q2 q3 q4 q)
def Xu(wi:TI)(g:TG)(tb:TS):TS:=λD σ H=>wi σ H λJ H1=>∃W:Nat->Nat->St->Hp->Prop,(∃m,W 0 m σ H1)/\∀i m σ H,W i m σ H->
 (J.stop i H/\D.nx σ H)\/(J.go i H/\∃N:St->Hp->Prop,(∀aI H',N aI H'->∃m',m'<m/\W (i+1) m' aI H')/\∀x H',J.zJ i H x H'->g x σ H' λiM H2=>tb { D with nx:=N,ct:=N,bk:=D.nx } iM H2)
noncomputable def xG(fp:List Addr)(h:Heap):List (Addr×Obj):=fp.filterMap λb=>(h.get? b).map λo=>(b,o)
theorem Bl(hb:b∈fp)(e:h.get? b=some o):(b,o)∈xG fp h:=ag0.mpr ⟨b,hb,by rw[e];rfl⟩
theorem ac5(hp:p∈xG fp h):p.1∈fp/\h.get? p.1=some p.2:=by
 obtain⟨b,hb,e⟩:=ag0.mp hp;exists q,h.get? b,o,e;have e':=acf e;subst e';exact⟨hb,q⟩
theorem Inv.pinned(I:Inv X ah σ H s)(hf:∀b∈fp,iE X ah H b)(ho:∀b∈fp,∃o,s.heap.get? b=some o/\∀v,o.data≠.cell v):Inv X (ah++xG fp s.heap) σ H s:=
 I.t_ λp hp=>(abl.mp hp).elim (λz=>I.pin p (aas _ z)) λz=>by
  obtain⟨hb,e⟩:=ac5 z;obtain⟨f0,f1,f2,_⟩:=hf p.1 hb;obtain⟨o,e',d⟩:=ho p.1 hb;rw[e] at e';cases e';exact⟨e,f0,f1,f2,d⟩
theorem Inv.wW(I:Inv X (ah++pl) σ H s):Inv X ah σ H s:=I.t_ λp hp=>I.pin p (aas _ (abj _ hp))
theorem ae7(hp:PassesOwn (model X.prog X.w) X.A X.env X.xe)(hc:X.calm=true)(hi:PI X tg iter wi)(hg:PG X tg g)(hb:iF X body tb)
  (hs:∀x,foldedSetIterable iter X.env x=pure x:=by intro _;rfl):PS X (.For tg iter body [] pos) (Xu wi g tb):=by
 exists 45;refine wpAny_For (cM (hi ah s σ H _ I h) λv s1 h1=>cM h1 λBR s2 h2=>?_) hs;obtain⟨it,fp,tn,J,H2,e,I2,T,sM,f2,W,⟨m0,w0⟩,turn⟩:=h2;subst e;have tK:∀{H':Hp},(∀b∈fp,H' b=none)->∀b∈fp,iE X ah H' b:=λhn b hb=>⟨hn b hb,(f2 b hb).2⟩
 refine codeAny_forLoop_any (λn s'=>∃i aI H',Inv X ah aI H' s'/\tn i s'.heap/\(∀b∈fp,H' b=none)/\W i n aI H') ?_ m0 ⟨0,σ,H2,I2,sM,λb hb=>(f2 b hb).1,w0⟩
 rintro n s3 ⟨i,cZ,H3,I3,ND,Pg,w3⟩
 rcases turn i n cZ H3 w3 with⟨stop,qn⟩|⟨go,N,hN,step⟩
 .refine agt hp (cM (T.done X rfl rfl rfl (.inl hc) i ah s3 cZ H3 X.xe I3 (tK Pg) ND stop) ?_)
  rintro r s4 ⟨hr,I4⟩
  subst hr;exact wpAny_execs_nil ⟨cZ,H3,I4,qn⟩
 .refine agt hp (cM (T.item X rfl rfl rfl (.inl hc) i ah s3 cZ H3 X.xe I3 (tK Pg) ND go) ?_)
  rintro r s4 ⟨u,hr,h4⟩
  subst hr;refine agt hp (cM h4 ?_)
  rintro _ s5 ⟨x,H5,I5,r5,y5,vp,mK⟩
  have I5':=I5.pinned (tK mK) (T.obj _ _ vp);refine agt hp (cM (hg _ s5 cZ H5 x u _ I5' r5 (step x H5 y5)) ?_)
  rintro _ s6 ⟨Yt,H6,I6,q6⟩
  refine agt hp (cM (hb _ s6 Yt H6 _ I6 q6) λf s7 q7=>?_);have again:∀{lX:St}{H7:Hp},Inv X (ah++xG fp s5.heap) lX H7 s7->N lX H7->∃m,m<n/\∃i aI H',Inv X ah aI H' s7/\tn i s7.heap/\(∀b∈fp,H' b=none)/\W i m aI H':=λ{lX H7} I7 n7=>by
   obtain⟨m',hm,w7⟩:=hN lX H7 n7;refine⟨m',hm,i+1,lX,H7,I7.wW,T.keep _ _ _ vp λb hb o e=>(I7.pin (b,o) (aas _ (aas _ (Bl hb e)))).1,λb hb=>?_,w7⟩;obtain⟨o,e,d⟩:=T.obj _ _ vp b hb;exact(I7.pin (b,o) (aas _ (aas _ (Bl hb e)))).2.1
  cases f with
  |next=>obtain⟨lX,H7,I7,n7⟩:=q7;exact again I7 n7
  |cont=>obtain⟨lX,H7,I7,n7⟩:=q7;exact again I7 n7
  |brk=>obtain⟨lX,H7,I7,q7⟩:=q7;exact⟨lX,H7,I7.wW,q7⟩
  |ret v=>obtain⟨x7,lX,H7,I7,r7,q7⟩:=q7;exact⟨x7,lX,H7,I7.wW,r7,q7⟩
abbrev R2:=V->V->Hp->VK->Prop
def di(X:Cx)(f:Value->Value->Sem Value)(r:R2):Prop:=
 ∀(ah:List (Addr×Obj)) (s:Shared) (σ:St) (H:Hp) (x y:V) (v u:Value) (Q:VK),Inv X ah σ H s->RelV x v->RelV y u->r x y H Q->
  Y1 X X.A (f v u) (EP X ah σ Q) X.xe s
def IT(X:Cx)(f:Value->Sem Value)(r:V->Hp->VK->Prop):Prop:=
 ∀(ah:List (Addr×Obj)) (s:Shared) (σ:St) (H:Hp) (x:V) (v:Value) (Q:VK),Inv X ah σ H s->RelV x v->r x H Q->
  Y1 X X.A (f v) (EP X ah σ Q) X.xe s
def g_(X:Cx)(f:Value)(r:List V->Hp->VK->Prop):Prop:=
 ∀(ah:List (Addr×Obj)) (s:Shared) (σ:St) (H:Hp) (xs:List V) (us:List Value) (Q:VK),Inv X ah σ H s->aU xs us->r xs H Q->
  Y1 X X.A (call f us) (EP X ah σ Q) X.xe s
def abQ(X:Cx)(r:V->Hp->(Bool->Hp->Prop)->Prop):Prop:=
 ∀(ah:List (Addr×Obj)) (s:Shared) (σ:St) (H:Hp) (x:V) (v:Value) (Q:Bool->Hp->Prop),Inv X ah σ H s->RelV x v->r x H Q->
  Y1 X X.A (truthy v) (TP X ah σ Q) X.xe s
def uf(r:R2)(ta tb:TE):TE:=λσ H Q=>ta σ H λx H1=>tb σ H1 λy H2=>r x y H2 Q
def tUn(r:V->Hp->VK->Prop)(ta:TE):TE:=λσ H Q=>ta σ H λx H1=>r x H1 Q
def rI(C:Int->Int->Prop)(g:Int->Int->V):R2:=λx y H Q=>∃i j,x=.int i/\y=.int j/\C i j/\Q (g i j) H
def nG(g:Int->Int->V):R2:=λx y H Q=>∃i j,x=.int i/\y=.int j/\Q (g i j) H
def rU(g:Int->V):V->Hp->VK->Prop:=λx H Q=>∃i,x=.int i/\Q (g i) H
theorem JS(ha:PE X a ta)(hb:PE X b tb){R:V->V->Hp->Prop}(I:Inv X ah σ H s)
  (h:ta σ H λx H1=>tb σ H1 λy H2=>R x y H2) {f:Value->Value->Sem Value}
  (hf:∀v u s2 x y H2,Inv X ah σ H2 s2->RelV x v->RelV y u->R x y H2->Y1 X X.A (f v u) Q X.xe s2) :
  Y1 X X.A (eval a X.env) (λv bS=>Y1 X X.A (eval b X.env) (λu qO=>Y1 X X.A (f v u) Q X.xe qO) X.xe bS) X.xe s:=by
 refine ha.n I h λv s1 x H1 I1 r1 q1=>?_
 refine hb.n I1 q1 λu s2 y H2 I2 r2 q2=>?_
 exact hf v u s2 x y H2 I2 r1 r2 q2
theorem Ju{r:R2}(ho:di X (binaryOp op) r)(ha:PE X a ta)(hb:PE X b tb):PE X (.BinOp a op b pos) (uf r ta tb):=by
 exists 44;exact wpAny_BinOp (JS ha hb I h λv u s2 x y H2 I2 rx ry q=>ho ah s2 σ H2 x y v u Q I2 rx ry q)
theorem Us(ho:IT X (unaryOp op) r)(ha:PE X a ta):PE X (.UnaryOp op a pos) (tUn r ta):=by
 exists 44;exact UnaryOp_ (ha.n I h λv s1 x H1 I1 r1 q1=>ho ah s1 σ H1 x v Q I1 r1 q1)
theorem CW{g:Int->Int->Int}
  (rule:∀(i j:Int) (t u:Tok) (s:Shared) (Q:Value->Shared->Prop) (E:Value->Shared->Prop),C i j->Q (.int (g i j) s.toks) { s with toks:=s.toks+1 }->Y1 X X.A (f (.int i t) (.int j u)) Q E s) :
  di X f (rI C λi j=>.int (g i j)):=by
 exists 42;obtain⟨i,j,rfl,rfl,hc,q⟩:=h;exists 65;obtain⟨t',rfl⟩:=ry;exact rule i j t t' s _ _ hc ⟨.int (g i j),H,I.tok _,⟨_,rfl⟩,q⟩
theorem N1{g:Int->Int->Int}
  (rule:∀(i j:Int) (t u:Tok) (s:Shared) (Q:Value->Shared->Prop) (E:Value->Shared->Prop),Q (.int (g i j) s.toks) { s with toks:=s.toks+1 }->Y1 X X.A (f (.int i t) (.int j u)) Q E s) :
  di X f (nG λi j=>.int (g i j)):=by
 exists 42;obtain⟨i,j,rfl,rfl,q⟩:=h;exists 65;obtain⟨t',rfl⟩:=ry;exact rule i j t t' s _ _ ⟨.int (g i j),H,I.tok _,⟨_,rfl⟩,q⟩
theorem Ad{g:Int->Int->Bool}
  (rule:∀(i j:Int) (t u:Tok) (s:Shared) (Q:Value->Shared->Prop) (E:Value->Shared->Prop),Q (.bool (g i j)) s->Y1 X X.A (f (.int i t) (.int j u)) Q E s) :
  di X f (nG λi j=>.bl (g i j)):=by
 exists 42;obtain⟨i,j,rfl,rfl,q⟩:=h;exists 65;obtain⟨t',rfl⟩:=ry;exact rule i j t t' s _ _ ⟨.bl (g i j),H,I,rfl,q⟩
def afm(i j:Int):Prop:=0<j/\j<1073741824
def xA(i j:Int):Prop:=(-(2 ^ 64)<i/\i<2 ^ 64)\/(-(2 ^ 64)<j/\j<2 ^ 64)
theorem xA.ok(h:xA i j):IntMulOk i j:=by
 rcases h with⟨h1,h2⟩|⟨h1,h2⟩
 .exact .of_left (intBits_le_64 h1 h2)
 .exact .of_right (intBits_le_64 h1 h2)
theorem aan:di X (binaryOp .Add) (nG λi j=>.int (i+j)):=N1 λ_ _ _ _ _ _ _ q=>add_int q
theorem WK:di X (binaryOp .Sub) (nG λi j=>.int (i-j)):=N1 λ_ _ _ _ _ _ _ q=>sub_int q
theorem Zy:di X (binaryOp .Mult) (rI xA λi j=>.int (i*j)):=CW λ_ _ _ _ _ _ _ hc q=>mul_int q hc.ok
theorem adD:di X (binaryOp .FloorDiv) (rI afm λi j=>.int (i / j)):=CW λi j _ _ _ _ _ hc q=>by
 have h1:=hc.1;have h2:j<1073741824:=hc.2;exact floordiv_int (by omega) (by rw[Int.fdiv_eq_ediv_of_nonneg i (by omega)];exact q) (.inl (PyProof.noPylong_small (by omega)))
theorem aaX:di X (binaryOp .Mod) (rI (λ_ j=>0<j) λi j=>.int (i % j)):=CW λi j _ _ _ _ _ hc q=>by
 have h1:=hc;exact mod_int' (by omega) (by rw[Int.fmod_eq_emod_of_nonneg i (by omega)];exact q)
theorem YX{g:Int->Int}
  (rule:∀(i:Int) (t:Tok) (s:Shared) (Q:Value->Shared->Prop) (E:Value->Shared->Prop),Q (.int (g i) s.toks) { s with toks:=s.toks+1 }->Y1 X X.A (f (.int i t)) Q E s) :
  IT X f (rU λi=>.int (g i)):=by
 intro ah s σ H x v Q I rx h;obtain⟨i,rfl,q⟩:=h;exists 65;exact rule i t s _ _ ⟨.int (g i),H,I.tok _,⟨_,rfl⟩,q⟩
theorem US:IT X (unaryOp .USub) (rU λi=>.int (-i)):=YX λ_ _ _ _ _ q=>neg_int q
noncomputable def NT:V->V->Bool
 |.az,.az=>true|.az,.int _=>true|.int _,.az=>true|.az,.bl _=>true|.bl _,.az=>true|.az,.str _=>true|.str _,.az=>true
 |.int _,.int _=>true|.bl _,.bl _=>true|.str _,.str _=>true|.jQ _,.jQ _=>true
 |.int _,.str _=>true|.str _,.int _=>true|.bl _,.str _=>true|.str _,.bl _=>true
 |_,_=>false
def K0:R2:=λx y H Q=>NT x y=true/\Q (.bl (decide (x=y))) H
def ML:R2:=λx y H Q=>NT x y=true/\Q (.bl (!decide (x=y))) H
theorem AQ:decide (V.int i=V.int j)=(i==j):=by
 rw[ag1];simp
theorem An:decide (V.bl i=V.bl j)=(i==j):=by
 rw[ag1];simp
theorem Ax:decide (V.str i=V.str j)=(i==j):=by
 rw[ag1];simp
theorem Ng:decide (V.jQ i=V.jQ j)=(i.toList==j.toList):=by
 rw[ag1];cases i;cases j;simp
theorem dU(I:Inv X ah σ H s)(q:Q (.bl k) H)(e:k=k'):EP X ah σ Q (.bool k') s:=by
 subst e;exact⟨.bl k,H,I,rfl,q⟩
theorem Ft:di X (compareOp .Eq) K0:=by
 exists 42;obtain⟨hs,q⟩:=h;cases x with
 |az=>
  cases rx;cases y with
  |az=>cases ry;exact PySem.EqNone.eq_none_none (dU I q (by simp))
  |bl j=>cases ry;exact PySem.EqNone.eq_none_bool (dU I q (by simp))
  |int j=>obtain⟨t',rfl⟩:=ry;exact PySem.EqNone.eq_none_int (dU I q (by simp))
  |str j=>obtain⟨t',rfl⟩:=ry;exact PySem.EqNone.eq_none_str (dU I q (by simp))
  |_=>exact absurd (show false=true from hs) abk
 |bl i=>
  cases rx;cases y with
  |az=>cases ry;exact PySem.EqNone.eq_bool_none (dU I q (by simp))
  |bl j=>cases ry;exact eq_bool (dU I q An)
  |str j=>obtain⟨t',rfl⟩:=ry;exact PySem.EqMixed.eq_bool_str (dU I q (by simp))
  |_=>exact absurd (show false=true from hs) abk
 |int i=>
  exists 65;cases y with
  |az=>cases ry;exact PySem.EqNone.eq_int_none (dU I q (by simp))
  |int j=>obtain⟨t',rfl⟩:=ry;exact eq_int (dU I q AQ)
  |str j=>obtain⟨t',rfl⟩:=ry;exact PySem.EqMixed.eq_int_str (dU I q (by simp))
  |_=>exact absurd (show false=true from hs) abk
 |str i=>
  exists 65;cases y with
  |az=>cases ry;exact PySem.EqNone.eq_str_none (dU I q (by simp))
  |bl j=>cases ry;exact PySem.EqMixed.eq_str_bool (dU I q (by simp))
  |int j=>obtain⟨t',rfl⟩:=ry;exact PySem.EqMixed.eq_str_int (dU I q (by simp))
  |str j=>obtain⟨t',rfl⟩:=ry;exact eq_str (dU I q Ax)
  |_=>exact absurd (show false=true from hs) abk
 |jQ i=>
  exists 65;cases y with
  |jQ j=>obtain⟨t',rfl⟩:=ry;exact PySem.W.eq_bytes (dU I q Ng)
  |_=>exact absurd (show false=true from hs) abk
 |_=>cases y<;>exact absurd (show false=true from hs) abk
theorem SG:di X (compareOp .NotEq) ML:=by
 exists 42;obtain⟨hs,q⟩:=h;cases x with
 |az=>
  cases rx;cases y with
  |az=>cases ry;exact PySem.EqNone.ne_none_none (dU I q (by simp))
  |bl j=>cases ry;exact PySem.EqNone.ne_none_bool (dU I q (by simp))
  |int j=>obtain⟨t',rfl⟩:=ry;exact PySem.EqNone.ne_none_int (dU I q (by simp))
  |str j=>obtain⟨t',rfl⟩:=ry;exact PySem.EqNone.ne_none_str (dU I q (by simp))
  |_=>exact absurd (show false=true from hs) abk
 |bl i=>
  cases rx;cases y with
  |az=>cases ry;exact PySem.EqNone.ne_bool_none (dU I q (by simp))
  |bl j=>cases ry;exact ne_bool (dU I q (congrArg not An))
  |str j=>obtain⟨t',rfl⟩:=ry;exact PySem.EqMixed.ne_bool_str (dU I q (by simp))
  |_=>exact absurd (show false=true from hs) abk
 |int i=>
  exists 65;cases y with
  |az=>cases ry;exact PySem.EqNone.ne_int_none (dU I q (by simp))
  |int j=>obtain⟨t',rfl⟩:=ry;exact ne_int (dU I q (congrArg not AQ))
  |str j=>obtain⟨t',rfl⟩:=ry;exact PySem.EqMixed.ne_int_str (dU I q (by simp))
  |_=>exact absurd (show false=true from hs) abk
 |str i=>
  exists 65;cases y with
  |az=>cases ry;exact PySem.EqNone.ne_str_none (dU I q (by simp))
  |bl j=>cases ry;exact PySem.EqMixed.ne_str_bool (dU I q (by simp))
  |int j=>obtain⟨t',rfl⟩:=ry;exact PySem.EqMixed.ne_str_int (dU I q (by simp))
  |str j=>obtain⟨t',rfl⟩:=ry;exact ne_str (dU I q (congrArg not Ax))
  |_=>exact absurd (show false=true from hs) abk
 |jQ i=>
  exists 65;cases y with
  |jQ j=>obtain⟨t',rfl⟩:=ry;exact PySem.W.ne_bytes (dU I q (congrArg not Ng))
  |_=>exact absurd (show false=true from hs) abk
 |_=>cases y<;>exact absurd (show false=true from hs) abk
theorem RO:di X (compareOp .Lt) (nG λi j=>.bl (decide (i<j))):=Ad λ_ _ _ _ _ _ _ q=>lt_int q
theorem Dy:di X (compareOp .LtE) (nG λi j=>.bl (decide (i<=j))):=Ad λ_ _ _ _ _ _ _ q=>le_int q
theorem ado:di X (compareOp .Gt) (nG λi j=>.bl (decide (j<i))):=Ad λ_ _ _ _ _ _ _ q=>gt_int q
theorem ael:di X (compareOp .GtE) (nG λi j=>.bl (decide (j<=i))):=Ad λ_ _ _ _ _ _ _ q=>ge_int q
theorem K6:di X (compareOp .Is) (λx y H Q=>y=.az/\Q (.bl (decide (x=.az))) H):=by
 exists 42;obtain⟨rfl,q⟩:=h;cases ry;refine is_none_gen (dU I q ?_);cases x<;>first
  |(cases rx;rfl)
  |(obtain⟨t,rfl⟩:=rx;rfl)
theorem ME:di X (compareOp .IsNot) (λx y H Q=>y=.az/\Q (.bl (!decide (x=.az))) H):=by
 exists 42;obtain⟨rfl,q⟩:=h;cases ry;refine isnot_none_gen (dU I q ?_);cases x<;>first
  |(cases rx;rfl)
  |(obtain⟨t,rfl⟩:=rx;rfl)
theorem je(b:Expr)(h:op≠.In:=by decide)(h2:op≠.NotIn:=by decide):behindInMarks op b=false:=by
 have e1:(op==CmpOp.In)=false:=by cases op<;>first|rfl|exact absurd rfl h
 have e2:(op==CmpOp.NotIn)=false:=by cases op<;>first|rfl|exact absurd rfl h2
 cases b<;>simp[behindInMarks,e1,e2]
theorem KY{r:R2}(ho:di X (compareOp op) r)(ha:PE X a ta)(hb:PE X b tb)(hm:behindInMarks op b=false):PE X (.Compare a [op] [b] pos) (uf r ta tb):=by
 exists 44;exact wpAny_Compare1 (JS ha hb I h λv u s2 x y H2 I2 rx ry q=>ho ah s2 σ H2 x y v u Q I2 rx ry q) hm
def Wm(t:TE):TT:=λσ H Q=>t σ H λx H'=>∃k,x=.bl k/\Q k H'
theorem ae1(ho:di X (compareOp op) r)(ha:PE X a ta)(hb:PE X b tb)(hm:behindInMarks op b=false):PT X (.Compare a [op] [b] pos) (Wm (uf r ta tb)):=by
 exists 44;refine wpAny_isTrue_Compare1 (ha.n I h λv s1 x H1 I1 r1 q1=>hb.n I1 q1 λu s2 y H2 I2 r2 q2=>
  cM (ho ah s2 σ H2 x y v u _ I2 r1 r2 q2) λc s3 ⟨z,H3,I3,r3,k,e,q3⟩=>?_) hm
 subst e;cases r3;exact afR ⟨H3,I3,q3⟩
def Tg(r r':R2)(ta tb tc:TE):TE:=λσ H Q=>ta σ H λx H1=>tb σ H1 λy H2=>r x y H2 λz H3=>∃k,z=.bl k/\
 (if k=true then tc σ H3 λw' H4=>r' y w' H4 Q else Q (.bl false) H3)
theorem X6(ho:di X (compareOp op) r)(l8:di X (compareOp zo) r')(ha:PE X a ta)(hb:PE X b tb)(hc:PE X c tc)
  (hm:lastMarks [op,zo] [b,c]=false:=by with_unfolding_all rfl):PE X (.Compare a [op,zo] [b,c] pos) (Tg r r' ta tb tc):=by
 exists 44;refine Compare_chain (ha.n I h λv s1 x H1 I1 r1 q1=>chain_link (hb.n I1 q1 λu s2 y H2 I2 r2 q2=>
  cM (ho ah s2 σ H2 x y v u _ I2 r1 r2 q2) λd s3 ⟨z,H3,I3,r3,k,e,q3⟩=>?_)) hm
 subst e;cases r3;refine afR ?_;cases k with
 |false=>exact ite_ff ⟨.bl false,H3,I3,rfl,q3⟩
 |true=>exact ite_tt (chain_last (hc.n I3 q3 λw' s4 z' H4 I4 r4 q4=>l8 ah s4 σ H4 y z' u w' Q I4 r2 r4 q4))
def M8(K:PySem.W.Frag)(x:V)(H:Hp)(k:Bool):Prop:=
 match x with
 |.az=>k=false
 |.bl b=>k=b
 |.int i=>k=(i != 0)
 |.str y=>y.length<=sizeLine/\k=((y.length:Int) != 0)
 |.jQ y=>y.size<=sizeLine/\k=((y.size:Int) != 0)
 |.ref p=>(∃xs,bX K H p xs/\k=!xs.isEmpty)\/(∃xs,cg K H p xs/\k=!xs.isEmpty)\/∃ak,H p=some (.dK ak)/\k=!ak.isEmpty
 |_=>False
theorem Zr(r:KV ak vs):(!vs.isEmpty)=!ak.isEmpty:=by
 cases r<;>rfl
theorem Pw(r:aU xs ay):(!ay.toArray.isEmpty)=!xs.isEmpty:=by
 cases r<;>simp
theorem yQ:(sizeLine:Nat)<2 ^ 63:=by rw[ae6];decide
theorem Zn:abQ X (λx H Q=>∃k,M8 X.K x H k/\Q k H):=by
 intro ah s σ H x v Q I rx h;obtain⟨k,e,q⟩:=h;have hl:=yQ;have hs:=ae6;cases x with
 |az=>
  cases rx;have e':=e;subst e';exact truthy_none ⟨H,I,q⟩
 |bl b=>
  cases rx;have e':=e;subst e';exact afR ⟨H,I,q⟩
 |int i=>
  exists 65;have e':=e;subst e';exact PySem.P.truthy_int ⟨H,I,q⟩
 |str y=>
  exists 65;obtain⟨hy,e'⟩:y.length<=sizeLine/\k=((y.length:Int) != 0):=e;subst e';exact PySem.P.truthy_str (by omega) ⟨H,I.tok _,q⟩
 |jQ y=>
  exists 65;obtain⟨hy,e'⟩:y.size<=sizeLine/\k=((y.size:Int) != 0):=e;subst e';exact PySem.W.truthy_bytes (by omega) ⟨H,I.tok _,q⟩
 |ref p=>
  cases rx;have e':=e;rcases e' with⟨xs,hx,e'⟩|⟨xs,hx,e'⟩|⟨ak,hx,e'⟩
  .subst e';obtain⟨ay,r,pl,hz⟩:=I.list hx;have hlen:=r.length;exact wpAny_truthy_list pl.isList (by simp only[ab5];omega) ⟨H,I.tok _,by rw[Pw r];exact q⟩
  .subst e';obtain⟨ay,r,pl,hz⟩:=I.tuple hx;have hlen:=r.length;exact truthy_tuple pl (by simp only[ab5];omega) ⟨H,I.tok _,by rw[Pw r];exact q⟩
  .subst e';obtain⟨hz,hS,vs,r,m⟩:ak.length<=sizeLine/\(p==sysModules)=false/\∃vs,KV ak vs/\s.heap.DictOf (gJ X.prog X.w) p vs:=I.aK p _ hx;have hlen:=Paired.length r;exact wpAny_truthy_dict hS m (by omega) ⟨H,I.tok _,by rw[Zr r];exact q⟩
 |_=>exact(show False from e).elim
theorem aaS(ha:PE X a ta)(he:∀whole,isTrue a X.env whole=(do let v <- whole;standAt a.pos;holding [v] (truthy v))):
  PT X a (λσ H Q=>ta σ H λx H'=>∃k,M8 X.K x H' k/\Q k H'):=by
 exists 44;exact isTrue_plain (ha.n I h λv s1 x H1 I1 r1 q1=>Zn ah s1 σ H1 x v Q I1 r1 q1) (he _)
theorem vals1(r:aU [x] us):∃u,us=[u]/\RelV x u:=by
 cases r with
 |cons r1 r2=>cases r2;exact⟨_,rfl,r1⟩
theorem vals2(r:aU [x,y] us):∃u w',us=[u,w']/\RelV x u/\RelV y w':=by
 cases r with
 |cons r1 r2=>
  cases r2 with
  |cons r3 r4=>cases r4;exact⟨_,_,rfl,r1,r3⟩
theorem acE(hc:X.calm=true):g_ X (.builtin "min") (λxs H Q=>∃i j,xs=[.int i,.int j]/\Q (.int (if j<i then j else i)) H):=by
 exists 43;obtain⟨i,j,rfl,q⟩:=h;obtain⟨u,w',rfl,⟨t,rfl⟩,⟨t',rfl⟩⟩:=vals2 r;refine min_two_ints (I.ok.hd hc) λh' tk k=>⟨_,H,I.kept k,?_,q⟩
 by_cases hj:j<i
 .rw[if_pos hj,if_pos hj];exact⟨_,rfl⟩
 .rw[if_neg hj,if_neg hj];exact⟨_,rfl⟩
structure sY(h:Heap)(x dx C:Addr)(mA:Str->Option Value):Prop where
 obj:h.get? x=some (PySem.W.instObj C dx)
 ns:h.Ns1 dx mA
 ne:dx≠x
theorem ZP{h:Heap}(n:h.Ns1 dx mA):∃od,h.get? dx=some od/\∀name,PySem.W.lookIn name od=some (mA name):=by
 obtain⟨o,es,ep,ho,hd,hk,_,hm⟩:=n;refine⟨o,ho,λname=>?_⟩;have e:=hm name;unfold nsFind findBy at e;rw[<- Array.find?_toList] at e;unfold PySem.W.lookIn;rw[hd];dsimp only
 split
 .rename_i y q;rw[q] at e;exact congrArg some e
 .rename_i q;rw[q] at e;have a:es.toList.any (·.refKey)=false:=by
   rw[List.any_eq_false];intro y hy;obtain⟨z,t,zI⟩:=hk y (Array.mem_toList_iff.mp hy);simp[DictEntry.refKey,zI]
  have a':¬es.toList.any (·.refKey)=true:=by rw[a];exact abk
  rw[if_neg a'];exact congrArg some e
theorem sY.look(I:sY h x dx C mA):∃od,PySem.W.InstAt h x (PySem.W.instObj C dx) C (some od)/\∀name,PySem.W.lookIn name od=some (mA name):=
 let⟨od,ho,hl⟩:=ZP I.ns
 ⟨od,⟨I.obj,rfl,rfl,ho⟩,hl⟩
section
variable{K:PySem.W.Frag}
theorem get_map(X:K.In s.heap)(I:sY s.heap x dx C mA)(hg:PySem.W.plainGet K C name=true)(hh:PySem.W.hasDictIn K C=true)
  (ha:PySem.W.findIn K (.ref C) name=some none) (hv:mA name=some v) (jP:PySem.W.handedIn v=true) (h:Q v { s with toks:=s.toks+1 }) :
  wpAny (model prog w) A (getAttr (.ref x) name expr) Q E s:=by
 obtain⟨od,J,hl⟩:=I.look;exact PySem.W.get_value X J (PySem.W.plainGet_of hg).1 (PySem.W.findObj_own hh ha rfl (by rw[hl,hv])) jP h
theorem afQ(X:K.In s.heap)(I:sY s.heap x dx C mA)(hg:PySem.W.plainGet K C name=true)
  (hf:PySem.W.findIn K (.ref C) name=some (some (.ref f))) (ht:PySem.W.isFn K (.ref f)=true) (hv:mA name=none) (h:Q (.ref f,[.ref x]) s) :
  wpAny (model prog w) A (getMethod (.ref x) name pl) Q E s:=by
 obtain⟨od,J,hl⟩:=I.look;exact PySem.W.method_fn X J (PySem.W.plainGet_of hg).1 (PySem.W.plainGet_of hg).2 hf (agF.mp ht) (by show(PySem.W.lookIn name od).map (·.isSome)=some false;rw[hl,hv];rfl) h
theorem afy(X:K.In s.heap)(I:sY s.heap x dx C mA)
  (hs:PySem.W.findIn K (.ref C) "__setattr__"=some (some (.builtin "object.__setattr__"))) (hp:PySem.W.plainOver K C=true) (ht:PySem.W.takerIn K C name=some none) (hh:PySem.W.hasDictIn K C=true)
  (hw:PySem.Within mA ns) (hsz:ns.length<=sizeLine)
  (h:∀h',sY h' x dx C (λy=>if y=name then some v else mA y)->Heap.SameBut dx s.heap h'->Q () { s with heap:=h',toks:=s.toks+2 }) :
  wpAny (model prog w) A (setAttr (.ref x) name v) Q E s:=by
 obtain⟨od,J,hl⟩:=I.look;refine PySem.W.set_plain X J hs (PySem.W.osa_open (r:=none) X J hp ht λb=>?_);obtain⟨cd,hc,Fo⟩:=PySem.W.any_some hh;have hx:=I.obj;refine abb (ac1 (abb (abb (wpAny_loadPart hx (abb (PySem.W.Looks.here (PySem.W.looks_clsIn X hc) ?_))))));rw[Fo];refine ac1 (abb (ac1 (abb ?_)));refine wpAny_nsSet1 I.ns λh' sL c_=>?_
 obtain⟨oD,esD,epD,GI,hdD,Ub⟩:=sL.count (PySem.Within.cons name v hw);refine abb (wpAny_lookBehind GI (by rw[hdD];exact pastItsLine_dict (adk Ub (by rw[acj];omega))) ?_);exact ac1 (h _ ⟨(c_.2 _ (afZ I.ne)).trans I.obj,sL,I.ne⟩ c_)
theorem aeN(X:K.In s.heap)(hm:PySem.W.makesIn K C=true)
  (hi:PySem.W.findIn K (.ref C) "__init__"=some (some (.ref f))) (hf:PySem.W.typeIn K (.ref f)=some (.type "function"))
  (h:codeAny (model prog w) (A.under (.builtin "type.__call__" ⟨.ref C::vs,kw⟩)) (.call (.ref f) ⟨.ref (s.heap.objs.size + 1)::vs,kw⟩) (PySem.W.InitBack (s.heap.objs.size + 1) R)
   { s with heap:=(s.heap.push PySem.W.emptyDict).push (PySem.W.instObj C s.heap.objs.size) }) :
  codeAny (model prog w) A (.call (.ref C) ⟨vs,kw⟩) R s:=by
 obtain⟨hh,g,d,t,os⟩:=s;exact PySem.W.make_core (PySem.W.makes_of X hm) (PySem.W.looks_findIn X hi) (λself=>PySem.W.bind_fn X self hf) (.inl rfl) h
end
noncomputable def fH(f:Str)(v:V):List (Str×V)->List (Str×V)
 |[]=>[(f,v)]
 |(g,x)::r=>if g=f then(g,v)::r else(g,x)::fH f v r
theorem OA(f g:Str)(v:V):∀fs:List (Str×V),(fH f v fs).lookup g=if g=f then some v else fs.lookup g
 |[]=>by
  show List.lookup g [(f,v)]=_
  by_cases h:g=f
  .have hb:=agF.mpr h;simp only[List.lookup,hb,if_pos h]
  .have hb:=adz.mpr h;simp only[List.lookup,hb,if_neg h]
 |(k,x)::r=>by
  have ih:=OA f g v r;exists 57
  by_cases hk:k=f
  .rw[if_pos hk]
   by_cases h:g=k
   .have hb:=agF.mpr h;simp only[List.lookup,hb,if_pos (h.trans hk)]
   .have hb:=adz.mpr h;simp only[List.lookup,hb,if_neg (λe:g=f=>h (e.trans hk.symm))]
  .rw[if_neg hk]
   by_cases h:g=k
   .have hb:=agF.mpr h;simp only[List.lookup,hb,if_neg (λe:g=f=>hk (h.symm.trans e))]
   .have hb:=adz.mpr h;simp only[List.lookup,hb];exact ih
theorem Im(f:Str)(v:V):∀fs:List (Str×V),f∈(fH f v fs).map (·.1)/\∀g,g∈fs.map (·.1)->g∈(fH f v fs).map (·.1)
 |[]=>⟨by simp[fH],λg h=>by simp at h⟩
 |(k,x)::r=>by
  obtain⟨i1,i2⟩:=Im f v r;exists 57
  by_cases hk:k=f
  .rw[if_pos hk];subst hk;exact⟨by simp,λg h=>by simpa using h⟩
  .rw[if_neg hk];refine⟨?_,λg h=>?_⟩
   .rw[aao];exact aab _ i1
   .rw[aao] at h ⊢;rcases aaA.mp h with e|e
    .exact aaA.mpr (.inl e)
    .exact aab _ (i2 g e)
theorem MV(f:Str)(v:V):∀fs:List (Str×V),(fH f v fs).length<=fs.length+1
 |[]=>by simp[fH]
 |(k,x)::r=>by
  have ih:=MV f v r;exists 57
  by_cases hk:k=f
  .rw[if_pos hk,acj,acj];omega
  .rw[if_neg hk,acj,acj];omega
theorem iA.some_of(r:iA (some v) o):∃u,o=some u/\RelV v u:=by
 cases o with
 |none=>exact(show False from r).elim
 |some u=>exact⟨u,rfl,r⟩
theorem iA.none_of(r:iA none o):o=none:=by
 cases o with
 |none=>rfl
 |some u=>exact(show False from r).elim
theorem Tr(r:RelV v u):PySem.W.handedIn u=true:=by
 cases v with
 |az=>cases(show u=Value.none from r);rfl
 |bl b=>cases(show u=Value.bool b from r);rfl
 |int i=>obtain⟨t,e⟩:=(show ∃t,u=Value.int i t from r);cases e;rfl
 |str x=>obtain⟨t,e⟩:=(show ∃t,u=Value.str x t from r);cases e;rfl
 |jQ b=>obtain⟨t,e⟩:=(show ∃t,u=Value.bytes b t from r);cases e;rfl
 |sA b=>obtain⟨t,e⟩:=(show ∃t,u=Value.float b t from r);cases e;rfl
 |ref a=>cases(show u=Value.ref a from r);rfl
 |ty n=>cases(show u=Value.type n from r);rfl
theorem zX(aK:eF P w H h)(e:H a=some (.ins C dx fs)):∃mA,sY h a dx C mA/\(∀f,iA (fs.lookup f) (mA f))/\PySem.Within mA (fs.map (·.1))/\fs.length<=1000/\H dx=some (.own a):=by
 obtain⟨d,z,ne,ob,mA,n,r,q⟩:=(show dM P w H h a (.ins C dx fs) from aK a _ e)
 exact⟨mA,⟨ob,n,ne⟩,r,q,z,d⟩
structure lH(K:PySem.W.Frag)(C:Addr):Prop where
 pg:PySem.W.plainGet K C Str.empty=true
 hd:PySem.W.hasDictIn K C=true
 po:PySem.W.plainOver K C=true
 sa:PySem.W.findIn K (.ref C) "__setattr__"=some (some (.builtin "object.__setattr__"))
theorem lH.get{K:PySem.W.Frag}(c:lH K C)(f:Str):PySem.W.plainGet K C f=true:=c.pg
def jk(K:PySem.W.Frag)(C:Addr)(f:Str):Prop:=PySem.W.findIn K (.ref C) f=some none
theorem jk.abT{K:PySem.W.Frag}(n:jk K C f):PySem.W.takerIn K C f=some none:=by
 unfold PySem.W.takerIn;rw[show PySem.W.findIn K (.ref C) f=some none from n];rfl
structure l_(K:PySem.W.Frag)(C:Addr)(m:Str)(f:Addr):Prop where
 at_:PySem.W.findIn K (.ref C) m=some (some (.ref f))
 fn:PySem.W.isFn K (.ref f)=true
 kp:PySem.W.keepIn K (.ref f)=true
theorem Nv(I:Inv X ah σ H s)(e:H a=some (.ins C dx fs))(c:lH X.K C)(n:jk X.K C f)(l:fs.lookup f=some v)
  (h:∀u s',Inv X ah σ H s'->RelV v u->Q u s'):wpAny (model X.prog X.w) A (getAttr (.ref a) f b) Q E s:=by
 obtain⟨mA,O,r,_,_,_⟩:=zX I.aK e;obtain⟨u,hu,ru⟩:=iA.some_of (by rw[<- l];exact r f);exact get_map I.d_ O (c.get f) c.hd n hu (Tr ru) (h u _ (I.tok _) ru)
theorem Nq(I:Inv X ah σ H s)(e:H a=some (.ins C dx fs))(c:lH X.K C)(k:l_ X.K C m g)(l:fs.lookup m=none)
  (h:Q (.ref g,[.ref a]) s):wpAny (model X.prog X.w) A (getMethod (.ref a) m pl) Q E s:=by
 obtain⟨mA,O,r,_,_,_⟩:=zX I.aK e;have hn:=iA.none_of (by rw[<- l];exact r m);exact afQ I.d_ O (c.get m) k.at_ k.fn hn h
theorem NU(I:Inv X ah σ H s)(e:H a=some (.ins C dx fs))(c:lH X.K C)(n:jk X.K C f)(hl:fs.length<1000)(ry:RelV y u)
  (h:∀s',Inv X ah σ (upd H a (.ins C dx (fH f y fs))) s'->Q () s'):wpAny (model X.prog X.w) A (setAttr (.ref a) f u) Q E s:=by
 obtain⟨mA,O,r,wi,_,ho⟩:=zX I.aK e;have hz:(fs.map (·.1)).length<=sizeLine:=by rw[List.length_map,ae6];omega
 refine afy I.d_ O c.sa c.po n.abT c.hd wi hz λh' O' sb=>h _ ?_
 have hd:∃o,h'.get? dx=some o:=let⟨o,_,_,e',_⟩:=O'.ns;⟨o,e'⟩
 refine I.write (by rw[e];exact True.intro) (.inr ho) (λb q hb z=>(sb.2 b hb).trans z) hd ?_;refine⟨by rw[aP O.ne];exact ho,?_,O.ne,O'.obj,_,O'.ns,λg=>?_,λg hg=>?_⟩
 .have:=MV f y fs;omega
 .show iA ((fH f y fs).lookup g) (if g=f then some u else mA g);rw[OA]
  by_cases q:g=f
  .rw[if_pos q,if_pos q];exact ry
  .rw[if_neg q,if_neg q];exact r g
 .by_cases q:g=f
  .rw[q];exact(Im f y fs).1
  .refine(Im f y fs).2 g (wi g λz=>hg ?_);show(if g=f then some u else mA g)=none;rw[if_neg q];exact z
theorem Inv.made(I:Inv X ah σ H s):Inv X ah σ (upd (upd H s.heap.objs.size (.own (s.heap.objs.size+1))) (s.heap.objs.size+1) (.ins C s.heap.objs.size []))
  { s with heap:=(s.heap.push PySem.W.emptyDict).push (PySem.W.instObj C s.heap.objs.size) }:=by
 have e1:(s.heap.push PySem.W.emptyDict).get? s.heap.objs.size=some PySem.W.emptyDict:=acC s.heap rfl;have e2:((s.heap.push PySem.W.emptyDict).push (PySem.W.instObj C s.heap.objs.size)).get? (s.heap.objs.size+1)=some (PySem.W.instObj C s.heap.objs.size):=by
  have:=acC (s.heap.push PySem.W.emptyDict) (o:=PySem.W.instObj C s.heap.objs.size) rfl
  rwa [agG] at this
 have e3:(s.heap.push PySem.W.emptyDict).Ns s.heap.objs.size (λ_=>none):=⟨PySem.W.emptyDict,#[],_,e1,rfl,(λe he=>absurd he (by simp)),λ_=>rfl⟩
 have I1:=I.laid (o:=.own (s.heap.objs.size+1)) (t':=s.toks) (λb u q=>aax _ q) (abL _) ⟨_,e1⟩;refine I1.laid (λb u q=>aax _ q) (Nat.le_of_eq (agG _ _)) ?_;have ne:s.heap.objs.size≠s.heap.objs.size+1:=acX (agl _);refine⟨by rw[aP ne,cD],aeK _,ne,e2,λ_=>none,(Heap.Ns1.of_empty e3).at λo q=>aax _ q,λ_=>True.intro,λy hy=>absurd rfl hy⟩
theorem acJ(hb:attributeBase e f env (eval e env)=eval e env)
  (h:wpAny (model prog w) A (eval e env) (λo bS=>wpAny (model prog w) A (getAttr o f true) Q E bS) E s):wpAny (model prog w) A (eval (.Attribute e f pos) env) Q E s:=
 Attribute_any_ h (by rw[arm_eval_Attribute,hb])
def Z7(K:PySem.W.Frag)(ta:TE)(f:Str):TE:=λσ H Q=>ta σ H λx H1=>∃a C dx fs v,x=.ref a/\H1 a=some (.ins C dx fs)/\lH K C/\jk K C f/\fs.lookup f=some v/\Q v H1
def VS(K:PySem.W.Frag)(ta tv:TE)(f:Str):TS:=λD σ H=>tv σ H λy H1=>ta σ H1 λx H2=>∃a C dx fs,x=.ref a/\H2 a=some (.ins C dx fs)/\lH K C/\jk K C f/\fs.length<1000/\
 D.nx σ (upd H2 a (.ins C dx (fH f y fs)))
def Qj(X:Cx)(op:Operator)(rd:V->V->Hp->VK->Prop):Prop:=
 ∀(ah) (s) (σ) (H) (x y) (u v) (Q),Inv X ah σ H s->RelV x u->RelV y v->rd x y H Q->Y1 X X.A (inplaceOp op u v) (EP X ah σ Q) X.xe s
def ZO(K:PySem.W.Frag)(ta tv:TE)(rd:V->V->Hp->VK->Prop)(f:Str):TS:=λD σ H=>ta σ H λx H1=>∃a C dx fs v,x=.ref a/\H1 a=some (.ins C dx fs)/\lH K C/\jk K C f/\fs.lookup f=some v/\
 tv σ H1 λy H2=>rd v y H2 λz H3=>∃xh vv,H3 a=some (.ins C xh vv)/\vv.length<1000/\D.nx σ (upd H3 a (.ins C xh (fH f z vv)))
theorem tY(he:PE X e ta)(hb:attributeBase e f X.env (eval e X.env)=eval e X.env):PE X (.Attribute e f pos) (Z7 X.K ta f):=by
 exists 44;refine acJ hb (he.n I h λu s1 x H1 I1 rx q=>?_);obtain⟨a,C,dx,fs,v,ex,ea,c,n,l,q⟩:=q;subst ex;exists 59;exact Nv I1 ea c n l λu' s2 I2 ru=>⟨v,H1,I2,ru,q⟩
theorem aby(ha:PE X o ta)(hv:PE X value tv)(hs:swapsWith value (some (.Attribute o f pos')) pos.line X.env=pure false):PS X (.Assign [.Attribute o f pos'] value pos) (VS X.K ta tv f):=by
 exists 45;refine plainObj_wpAny_Assign_Attribute (hv.n I h λu s1 y H1 I1 ry q=>ha.n I1 q λov s2 x H2 I2 rx q=>?_) hs;obtain⟨a,C,dx,fs,ex,ea,c,n,l,q2⟩:=q;subst ex;obtain rfl:ov=Value.ref a:=rx;exact NU I2 ea c n l ry λs3 I3=>⟨σ,_,I3,q2⟩
theorem VZ(ha:PE X o ta)(hv:PE X value tv)(Xv:Qj X op rd):PS X (.AugAssign (.Attribute o f age) op value pos) (ZO X.K ta tv rd f):=by
 exists 45;refine wpAny_AugAssign_AttributeAny (ha.n I h λov s1 x H1 I1 rx q=>?_);obtain⟨a,C,dx,fs,v,ex,ea,c,n,l,q⟩:=q;subst ex;obtain rfl:ov=Value.ref a:=rx;refine Nv I1 ea c n l λu s2 I2 ru=>hv.n I2 q λw3 s3 y H2 I3 ry q3=>Fb (Xv ah s3 σ H2 v y u w3 _ I3 ru ry q3) λw4 s4 z H3 I4 rz q=>?_
 obtain⟨xh,vv,Ww,l',q4⟩:=q;exact NU I4 Ww c n l' rz λs5 I5=>⟨σ,_,I5,q4⟩
def acu:V->V->Hp->VK->Prop:=λx y H Q=>∃i j,x=.int i/\y=.int j/\Q (.int (i+j)) H
theorem adh:Qj X .Add acu:=by
 rintro ah s σ H x y u v Q I rx ry ⟨i,j,rfl,rfl,q⟩
 obtain⟨t,rfl⟩:=(show ∃t,u=Value.int i t from rx)
 obtain⟨t',rfl⟩:=(show ∃t',v=Value.int j t' from ry)
 exact PyProof.Rows.iadd_int ⟨.int (i+j),H,I.tok _,⟨_,rfl⟩,q⟩
inductive jC(K:PySem.W.Frag)(H:Hp):V->Value->Prop where
 |az:jC K H .az (.type "NoneType")
 |bl (x:Bool):jC K H (.bl x) (.type "bool")
 |int (i:Int):jC K H (.int i) (.type "int")
 |str (x:Str):jC K H (.str x) (.type "str")
 |sA (x:UInt64):jC K H (.sA x) (.type "float")
 |lst {a:Addr}{xs:List V} (e:H a=some (.lst xs)):jC K H (.ref a) (.type "list")
 |fM {a:Addr}{o:Obj}{xs:List V} (e:H a=some (.fM o (.lst xs))):jC K H (.ref a) (.type "list")
 |tup {a:Addr}{xs:List V} (e:H a=some (.tup xs)):jC K H (.ref a) (.type "tuple")
 |dK {a:Addr}{ak:List (Key×V)} (e:H a=some (.dK ak)):jC K H (.ref a) (.type "dict")
 |dT {a:Addr}{ak:List (List Key×V)} (e:H a=some (.dT ak)):jC K H (.ref a) (.type "dict")
 |ins {a C dx:Addr}{fs:List (Str×V)} (e:H a=some (.ins C dx fs)) (cl:lH K C) (ha:PySem.W.findIn K (.ref C) "__class__"=some (some (.builtin "object.__class__")))
   (hn:PySem.W.specialIn K (.builtin "object.__class__") "__get__"=some (some (.builtin "getset_descriptor.__get__"))) (Qe:PySem.W.takesIn K (.builtin "object.__class__")=some true)
   (hm:PySem.W.mroIn K C (.type "object")=some true):jC K H (.ref a) (.ref C)
theorem Vu(I:Inv X ah σ H s)(rx:RelV x u)(ty:jC X.K H x t)(e:PySem.W.kitOne X.K t c=some b)(h:∀tk,Q (.bool b) { s with toks:=tk }):
  wpAny (model X.prog X.w) A (call (.builtin "isinstance") [u,c]) Q E s:=by
 cases ty with
 |az=>cases(show u=Value.none from rx);exact PySem.W.kia_one PySem.W.kitx_none I.d_ True.intro e (λz=>nomatch z) h
 |bl y=>cases(show u=Value.bool y from rx);exact PySem.W.kia_one PySem.W.kitx_bool I.d_ True.intro e (λz=>nomatch z) h
 |int i=>obtain⟨t,q⟩:=(show ∃t,u=Value.int i t from rx);cases q;exact PySem.W.kia_one PySem.W.kitx_int I.d_ True.intro e (λz=>nomatch z) h
 |str y=>obtain⟨t,q⟩:=(show ∃t,u=Value.str y t from rx);cases q;exact PySem.W.kia_one PySem.W.kitx_str I.d_ True.intro e (λz=>nomatch z) h
 |sA y=>obtain⟨t,q⟩:=(show ∃t,u=Value.float y t from rx);cases q;exact PySem.W.kia_one PySem.W.kitx_float I.d_ True.intro e (λz=>nomatch z) h
 | @lst a xs ea=>
  exists 72;obtain⟨_,_,n,_,h1⟩:=(show dM X.prog X.w H s.heap a (.lst xs) from I.aK a _ ea)
  exact PySem.W.kia_one PySem.W.kitx_list I.d_ ⟨_,h1,rfl⟩ e (λz=>nomatch z) h
 | @fM a ob xs ea=>
  exists 72;obtain⟨_,_,_,n,_,h1⟩:=(show dM X.prog X.w H s.heap a (.fM ob (.lst xs)) from I.aK a _ ea)
  exact PySem.W.kia_one PySem.W.kitx_list I.d_ ⟨_,h1,rfl⟩ e (λz=>nomatch z) h
 | @tup a xs ea=>
  exists 72;obtain⟨_,_,_,p⟩:=(show dM X.prog X.w H s.heap a (.tup xs) from I.aK a _ ea)
  obtain⟨o,h1,h2,_⟩:=p;exact PySem.W.kia_one PySem.W.kitx_tuple I.d_ ⟨o,h1,h2⟩ e (λz=>nomatch z) h
 | @dK a ak ea=>
  exists 72;obtain⟨_,_,vs,_,p⟩:=(show dM X.prog X.w H s.heap a (.dK ak) from I.aK a _ ea)
  obtain⟨o,es,ep,h1,h2,_⟩:=p;exact PySem.W.kia_one PySem.W.kitx_dict I.d_ ⟨o,h1,h2.1⟩ e (λz=>nomatch z) h
 | @dT a ak ea=>
  exists 72;obtain⟨_,_,xs,_,o,es,ep,h1,h2,_⟩:=(show dM X.prog X.w H s.heap a (.dT ak) from I.aK a _ ea)
  exact PySem.W.kia_one PySem.W.kitx_dict I.d_ ⟨o,h1,h2.1⟩ e (λz=>nomatch z) h
 | @ins a C dx fs ea cl ha hn Qe hm=>
  exists 72;obtain⟨mA,O,_⟩:=zX I.aK ea;obtain⟨od,J,_⟩:=O.look;exact PySem.W.kia_one (PySem.W.kitx_own (cl.get _) cl.hd ha hn Qe hm) I.d_ J e (λz=>nomatch z) h
structure bH(k:Nat)(A:Around)(cm:Bool:=true):Prop where
 hd:cm=true->A.handled=none
 dp:A.depth+3*k+5<recursionLimit
 un:A.units+16*k+200<cLine
 gd:A.guards=some []
theorem bH.mono(r:bH k A cm)(h:j<=k):bH j A cm:=⟨r.hd,by have:=r.dp;omega,by have:=r.un;omega,r.gd⟩
theorem bH.deeper(r:bH (k+1) A cm)(env:Env):bH k (A.deeper env) cm:=
 ⟨r.hd,by have:=r.dp;show A.depth+1+3*k+5<_;omega,by have:=r.un;show A.units+3+16*k+200<_;omega,r.gd⟩
theorem bH.in1(r:bH (k+1) A cm):bH k A.in1 cm:=
 ⟨r.hd,by have:=r.dp;show A.depth+3*k+5<_;omega,by have:=r.un;show A.units+1+16*k+200<_;omega,r.gd⟩
theorem abU{A:Around}:(A.under (.builtin "type.__call__" ⟨.ref C::us,kw⟩)).depth=A.depth+1:=by
 first|rfl|simp[Around.under,Code.weight,Code.isCreation,Code.isGuard,Code.isCaller,Code.frames,Code.isFrame,guardIds]
theorem aaw{A:Around}:(A.under (.builtin "type.__call__" ⟨.ref C::us,kw⟩)).units=A.units+1:=by
 first|rfl|simp[Around.under,Code.cUnits,Code.frames,Code.isFrame]
theorem bH.make(r:bH (k+1) A cm)(C:Addr)(us:List Value)(kw:List (Str×Value)):bH k (A.under (.builtin "type.__call__" ⟨.ref C::us,kw⟩)) cm:=
 ⟨r.hd,by have:=r.dp;rw[abU];omega,by have:=r.un;rw[aaw];omega,by first|exact r.gd|(simp[Around.under,Code.guards,Code.isGuard,guardIds,pushGuards];exact r.gd)⟩
theorem bH.depth(r:bH k A cm):A.depth<recursionLimit:=by have:=r.dp;omega
theorem bH.units(r:bH k A cm):A.units+64<cLine:=by have:=r.un;omega
def Az:TA:=λ_ H Q=>Q [] H
def PL(ta:TE)(tr:TA):TA:=λσ H Q=>ta σ H λx H1=>tr σ H1 λxs H2=>Q (x::xs) H2
theorem fY:PA X [] Az:=λ_ _ _ _ H Q I h=>Calls.spliced_nil ⟨[],H,I,.nil,h⟩
theorem d8(ha:PE X e te)(hr:PA X es t)(hs:starEach (e::es) X.env=(false,eval e X.env)::starEach es X.env:=by rfl):PA X (e::es) (PL te t):=by
 intro pos ah s σ H Q I h;rw[hs];show wpAny _ _ (spliced ((false,eval e X.env)::backTo pos (starEach es X.env))) _ _ s;refine agJ (ha.n I h λu s1 x H1 I1 r1 q1=>?_);exact hr.n I1 q1 λus s2 xs H2 I2 r2 q2=>⟨x::xs,H2,I2,.cons r1 r2,q2⟩
def abH(t:TA):TE:=λσ H Q=>t σ H λxs H1=>xs.length<=sizeLine/\∀p,H1 p=none->Q (.ref p) (upd H1 p (.tup xs))
def rR(t:TA):TE:=λσ H Q=>t σ H λxs H1=>xs.length<=sizeLine/\∀p,H1 p=none->Q (.ref p) (upd H1 p (.lst xs))
theorem L7{x1}(h:PA X es t):PE X (.Tuple es x1 pos) (abH t):=by
 intro ah s σ H Q I hq;refine wpAny_Tuple_spliced (cM (h pos ah s σ H _ I hq) ?_)
 rintro us s1 ⟨xs,H1,I1,r,z,q⟩
 refine⟨by rw[<- r.length];exact z,?_⟩;have hf:=I1.aK.fresh (abL _);refine⟨.ref s1.heap.objs.size,upd H1 s1.heap.objs.size (.tup xs),I1.laid (t':=s1.toks) (λb u e=>aax _ e) (abL _) ?_,rfl,q _ hf⟩;exact⟨z,us,r,⟨_,acC _ rfl,rfl,rfl,_,rfl⟩⟩
theorem Vr(h:PA X es t):PE X (.List es pos) (rR t):=by
 intro ah s σ H Q I hq;refine wpAny_List_spliced (cM (h pos ah s σ H _ I hq) ?_)
 rintro us s1 ⟨xs,H1,I1,r,z,q⟩
 refine⟨by rw[<- r.length];exact z,?_⟩;have hf:=I1.aK.fresh (abL _);refine⟨.ref s1.heap.objs.size,upd H1 s1.heap.objs.size (.lst xs),I1.laid (t':=s1.toks) (λb u e=>aax _ e) (abL _) ?_,rfl,q _ hf⟩;exact⟨z,us,0,r,acC _ rfl⟩
abbrev Sp:=List V->Hp->VK->XK->Prop
abbrev uu:=List Env->Hp->Shared->XK->Value->Shared->Prop
structure sV(P:Program)(w:World)(K:PySem.W.Frag)(mg:Str->Option Value)(base:Heap)(A:Around)(outer:List Env)(s:Shared)(H:Hp):Prop where
 frames:A.frames=some outer
 mod:Mod K mg base
 bs:∀b o,base.get? b=some o->s.heap.get? b=some o/\H b=none
 kF:base.objs.size<=s.heap.objs.size
 kq:s.heap.FunFrames base outer
 qU:∀b∈eV outer,H b=none
 aK:eF P w H s.heap
 bare:AllBare s.gens
 hq:Hq K A H
def CE(outer:List Env)(P:Program)(w:World)(H:Hp)(s:Shared)(Q:VK)(u:Value)(s':Shared):Prop:=
 ∃v H',s'.os=s.os/\AllBare s'.gens/\Un (eV outer) [] H H' s.heap s'.heap/\eF P w H' s'.heap/\RelV v u/\Q v H'
def CR(CX:uu)(outer:List Env)(P:Program)(w:World)(H:Hp)(s:Shared)(Q:VK)(E:XK)(r:Result)(s':Shared):Prop:=
 match r with
 |.ok (.ret u)=>CE outer P w H s Q u s'
 |.ok _=>False
 |.error e=>CX outer H s E e s'
structure cE(P:Program)(w:World)(K:PySem.W.Frag)(mg:Str->Option Value)(base:Heap)(CX:uu)(k:Nat)(f:Addr)(fd:FuncData)(ps:List Str)(sp:Sp)(cm:Bool:=true):Prop where
 len:∀vs H Q E,sp vs H Q E->vs.length=ps.length
 run:∀(A) (outer) (s) (H) (args) (us) (vs) (Q) (E),bH k A cm->sV P w K mg base A outer s H->BindsTo s fd args (ps.zip us)->aU vs us->sp vs H Q E->
  codeAny (model P w) A (.call (.ref f) args) (CR CX outer P w H s Q E) s
theorem cE.imp{K:PySem.W.Frag}(F:cE P w K mg base CX k f fd ps sp cm)
  (h:∀vs H Q E,sp' vs H Q E->sp vs H Q E):cE P w K mg base CX k f fd ps sp' cm:=
 ⟨λvs H Q E q=>F.len vs H Q E (h _ _ _ _ q),λA outer s H args us vs Q E hr he hb hv hs=>F.run A outer s H args us vs Q E hr he hb hv (h _ _ _ _ hs)⟩
theorem sV.make{K:PySem.W.Frag}(e:sV P w K mg base A outer s H)(C:Addr)(us:List Value)(kw:List (Str×Value)):
  sV P w K mg base (A.under (.builtin "type.__call__" ⟨.ref C::us,kw⟩)) outer s H:=⟨by first|exact e.frames|(simpa[Around.under,Code.envs,Code.isFrame,pushEnvs] using e.frames),e.mod,e.bs,e.kF,e.kq,e.qU,e.aK,e.bare,⟨e.hq.hd,e.hq.ok,e.hq.lm⟩⟩
theorem Inv.Oa(I:Inv X ah σ H s):sV X.prog X.w X.K X.mg X.base X.A X.stack s H:=
 ⟨I.ok.frames,I.ok.mod,I.bs,adk I.ok.kF I.sz,I.stack,I.GX,I.aK,I.bare,I.hq⟩
theorem Inv.after(I:Inv X ah σ H s)(h:CE X.stack X.prog X.w H s Q u s'):EP X ah σ Q u s':=by
 obtain⟨v,H',os,bare,un,aK,r,q⟩:=h;obtain⟨hh,g,d,t,os'⟩:=s';obtain rfl:os'=s.os:=os;exact⟨v,H',I.call (g':=g) (d':=d) (ch:=[]) un aK bare (λb z=>absurd z (by simp)),r,q⟩
def aaE(sp:Sp)(gS:List V)(E:XK)(t:TA):TE:=λσ H Q=>t σ H λvs H1=>sp (vs++gS) H1 Q E
def Aw(C:Addr)(m:Str)(sp:Sp)(gS:List V)(E:XK)(ta:TE)(t:TA):TE:=λσ H Q=>ta σ H λx H1=>∃a dx fs,x=.ref a/\H1 a=some (.ins C dx fs)/\fs.lookup m=none/\
 t σ H1 λvs H2=>sp (x::(vs++gS)) H2 Q E
def Dh(C:Addr)(sp:Sp)(gS:List V)(E:XK)(t:TA):TE:=λσ H Q=>t σ H λvs H1=>∀x dx,H1 x=none->H1 dx=none->dx≠x->
 sp (.ref x::(vs++gS)) (upd (upd H1 dx (.own x)) x (.ins C dx [])) (λv H2=>v=.az/\Q (.ref x) H2) E
def Binds(K:PySem.W.Frag)(fd:FuncData)(ps:List Str)(ds:List Value):Prop:=
 ∀(s) (us),K.In s.heap->(us++ds).length=ps.length->BindsTo s fd ⟨us,[]⟩ (ps.zip (us++ds))
theorem Binds.all{K:PySem.W.Frag}(h:∀us:List Value,us.length=ps.length->bindArgs fd ⟨us,[]⟩=pure (ps.zip us)):Binds K fd ps []:=λs us _ hl=>by
 rw[acG] at hl ⊢;exact .of_eq (h us hl)
def Passes(CX:uu)(X:Cx)(E:XK):Prop:=∀(ah) (σ) (H) (s) (e) (s'),Inv X ah σ H s->CX X.stack H s E e s'->X.xe e s'
theorem EW(F:cE X.prog X.w X.K X.mg X.base CX k f fd ps sp cm)(hr:bH k X.A cm)(hb:Binds X.K fd ps ds)(hd:aU gS ds)(hx:Passes CX X E)
  (I:Inv X ah σ H s) (r:aU vs us) (h:sp (vs++gS) H Q E):Y1 X X.A (call (.ref f) us) (EP X ah σ Q) X.xe s:=by
 have r2:=r.append hd;have hl:(us++ds).length=ps.length:=by rw[<- r2.length];exact F.len _ _ _ _ h
 refine wpAny_call (codeAny_mono (F.run X.A X.stack s H ⟨us,[]⟩ (us++ds) (vs++gS) Q E hr I.Oa (hb s us I.d_ hl) r2 h) λr s' hq=>?_);cases r with
 |error e=>exact hx ah σ H s e s' I hq
 |ok fl=>
  cases fl with
  |ret u=>exact I.after hq
  |next=>exact False.elim hq
  |brk=>exact False.elim hq
  |cont=>exact False.elim hq
theorem NK(F:cE X.prog X.w X.K X.mg X.base CX k f fd ps sp cm)(hr:bH k X.A cm)(hg:Gl X x)(hm:X.mg x=some (.ref f))(hk:PySem.W.keepIn X.K (.ref f)=true)(hb:Binds X.K fd ps ds)(hd:aU gS ds)(hx:Passes CX X E)
  (ha:PA X (e::es) t) (kO:(x==("__debug__":Str))=false:=by decide) (he:starEach (e::es) X.env=(false,eval e X.env)::starEach es X.env:=by rfl) (hpl:(backTo pos (starEach es X.env)).any (·.1)=false:=by rfl) :
  PE X (.Call (.Name x p) (e::es) [] pos) (aaE sp gS E t):=by
 exists 44;refine afS (B0 I hg hm ?_ kO);refine PySem.W.callWith_K (h₀:=X.base) I.ok.mod.yd hk (ha.n I h λus s1 vs H1 I1 r q=>⟨I1.d_,?_⟩) he hpl;exact EW F hr hb hd hx I1 r q
theorem CH(he:PE X o ta)(c:lH X.K C)(hm:l_ X.K C m f)(F:cE X.prog X.w X.K X.mg X.base CX k f fd ps sp cm)(hr:bH k X.A cm)(hb:Binds X.K fd ps ds)(hd:aU gS ds)(hx:Passes CX X E)(ha:PA X (e::es) t)
  (iP:starEach (e::es) X.env=(false,eval e X.env)::starEach es X.env:=by rfl) (hpl:(backTo pos (starEach es X.env)).any (·.1)=false:=by rfl)
  (ht:eval (.Call (.Attribute o m apos) (e::es) [] pos) X.env=(do
   let ov <- eval o X.env
   standAt apos.atName
   let(f,first) <- holding [ov] (getMethod ov m pl)
   callWith pos f first (backTo pos (starEach (e::es) X.env)) (backToKw pos (keywordEach [] X.env))):=by rfl) :
  PE X (.Call (.Attribute o m apos) (e::es) [] pos) (Aw C m sp gS E ta t):=by
 exists 44;refine PySem.W.methodCall_KW (pl:=pl) (he.n I h λu s1 x H1 I1 rx q=>?_) ht;obtain⟨a,dx,fs,ex,ea,l,q⟩:=q;subst ex;exists 59;refine Nq I1 ea c hm l ?_;refine PySem.W.callWith_K (first:=[.ref a]) (h₀:=X.base) I.ok.mod.yd hm.kp (ha.n I1 q λus s2 vs H2 I2 r q2=>⟨I2.d_,?_⟩) iP hpl;exact EW (us:=.ref a::us) (vs:=.ref a::vs) F hr hb hd hx I2 (.cons rfl r) q2
theorem P0(he:PE X o ta)(c:lH X.K C)(hm:l_ X.K C m f)(F:cE X.prog X.w X.K X.mg X.base CX k f fd ps sp cm)(hr:bH k X.A cm)(hb:Binds X.K fd ps ds)(hd:aU gS ds)(hx:Passes CX X E)
  (ht:eval (.Call (.Attribute o m apos) [] [] pos) X.env=(do
   let ov <- eval o X.env
   standAt apos.atName
   let(f,first) <- holding [ov] (getMethod ov m pl)
   callWith pos f first (backTo pos (starEach [] X.env)) (backToKw pos (keywordEach [] X.env))):=by rfl) :
  PE X (.Call (.Attribute o m apos) [] [] pos) (Aw C m sp gS E ta Az):=by
 exists 44;refine PySem.W.methodCall_KW (pl:=pl) (he.n I h λu s1 x H1 I1 rx q=>?_) ht;obtain⟨a,dx,fs,ex,ea,l,q⟩:=q;subst ex;exists 59;refine Nq I1 ea c hm l ?_;exact PySem.W.callWith_K0 (first:=[.ref a]) I1.d_ hm.kp (EW (us:=[.ref a]) (vs:=[.ref a]) F hr hb hd hx I1 (.cons rfl .nil) q)
structure Mk(K:PySem.W.Frag)(C f:Addr):Prop where
 makes:PySem.W.makesIn K C=true
 init:PySem.W.findIn K (.ref C) "__init__"=some (some (.ref f))
 fn:PySem.W.isFn K (.ref f)=true
 kp:PySem.W.keepIn K (.ref C)=true
theorem Sm(M:Mk X.K C f)(F:cE X.prog X.w X.K X.mg X.base CX k f fd ps sp cm)(hr:bH (k+1) X.A cm)(hb:Binds X.K fd ps ds)(hd:aU gS ds)
  (hx:Passes CX X E) (I:Inv X ah σ H s) (r:aU vs us)
  (h:∀x dx,H x=none->H dx=none->dx≠x->sp (.ref x::(vs++gS)) (upd (upd H dx (.own x)) x (.ins C dx [])) (λv H2=>v=.az/\Q (.ref x) H2) E) :
  Y1 X X.A (call (.ref C) us) (EP X ah σ Q) X.xe s:=by
 have hq:=h (s.heap.objs.size+1) s.heap.objs.size (I.aK.fresh (Nat.le_succ _)) (I.aK.fresh (abL _)) (acX (agl _));have I2:=Inv.made (C:=C) I;have r2:aU (V.ref (s.heap.objs.size+1)::(vs++gS)) (Value.ref (s.heap.objs.size+1)::(us++ds)):=.cons rfl (r.append hd);have hl:(Value.ref (s.heap.objs.size+1)::us++ds).length=ps.length:=by
  have e:=r2.length;rw[F.len _ _ _ _ hq] at e;exact e.symm
 refine wpAny_call (aeN I.d_ M.makes M.init (agF.mp M.fn) (codeAny_mono (F.run _ X.stack _ _ ⟨Value.ref (s.heap.objs.size + 1)::us,[]⟩ (Value.ref (s.heap.objs.size + 1)::(us++ds)) _ _ E (hr.make C us [])
  (I2.Oa.make C us []) (hb _ (Value.ref (s.heap.objs.size+1)::us) I2.d_ hl) r2 hq) λr s' oV=>?_))
 cases r with
 |error e=>exact hx ah σ _ _ e s' I2 oV
 |ok fl=>
  cases fl with
  |ret u=>
   obtain⟨v,H',I3,rv,ev,q3⟩:=I2.after oV;subst ev;exact⟨rv,⟨V.ref (s.heap.objs.size+1),H',I3,rfl,q3⟩⟩
  |next=>exact False.elim oV
  |brk=>exact False.elim oV
  |cont=>exact False.elim oV
theorem aaG(M:Mk X.K C f)(F:cE X.prog X.w X.K X.mg X.base CX k f fd ps sp cm)(hr:bH (k+1) X.A cm)(hg:Gl X x)(hm:X.mg x=some (.ref C))(hb:Binds X.K fd ps ds)(hd:aU gS ds)(hx:Passes CX X E)
  (ha:PA X (e::es) t) (kO:(x==("__debug__":Str))=false:=by decide) (he:starEach (e::es) X.env=(false,eval e X.env)::starEach es X.env:=by rfl) (hpl:(backTo pos (starEach es X.env)).any (·.1)=false:=by rfl) :
  PE X (.Call (.Name x p) (e::es) [] pos) (Dh C sp gS E t):=by
 exists 44;refine afS (B0 I hg hm ?_ kO);refine PySem.W.callWith_K (h₀:=X.base) I.ok.mod.yd M.kp (ha.n I h λus s1 vs H1 I1 r q=>⟨I1.d_,?_⟩) he hpl;exact Sm M F hr hb hd hx I1 r q
theorem aa4(M:Mk X.K C f)(F:cE X.prog X.w X.K X.mg X.base CX k f fd ps sp cm)(hr:bH (k+1) X.A cm)(hg:Gl X x)(hm:X.mg x=some (.ref C))(hb:Binds X.K fd ps ds)(hd:aU gS ds)(hx:Passes CX X E)
  (kO:(x==("__debug__":Str))=false:=by decide):PE X (.Call (.Name x p) [] [] pos) (Dh C sp gS E Az):=by
 exists 44;refine afS (B0 I hg hm ?_ kO);exact PySem.W.callWith_K0 I.d_ M.kp (Sm (us:=[]) M F hr hb hd hx I .nil h)
structure qK(N P:List Str)(sc:Scope):Prop where
 kind:sc.kind=.function
 co:sc.isCoroutine=false
 gen:sc.isGenerator=false
 nd:N.Nodup
 pre:N.take P.length=P
 par:∀x∈P,sc.names.lookup x=some .local\/sc.names.lookup x=some .cell
 Zs:∀y∈sc.names,y.2≠.free
theorem Pc{kindOf:Str->Option NameKind}:∀{binds} {m},(∀v,(x,v)∉binds)->bindL kindOf binds m x=m x
 |[],_,_=>rfl
 |(n,v)::r,m,h=>by
  unfold bindL;rw[Pc λw hw=>h w (aab _ hw)]
  split
  .have:x≠n:=by rintro rfl;exact h v aad
   simp[this]
  .rfl
theorem OP{kindOf:Str->Option NameKind}:∀{binds} {m},(∀v,(x,v)∉binds)->bindC kindOf binds m x=m x
 |[],_,_=>rfl
 |(n,v)::r,m,h=>by
  unfold bindC;rw[OP λw hw=>h w (aab _ hw)]
  split
  .rfl
  .have:x≠n:=by rintro rfl;exact h v aad
   simp[this]
theorem LC{kindOf:Str->Option NameKind}:∀{P:List Str} {vs}{i:Nat} {m},P.Nodup->P[i]? = some x->vs[i]? = some v->kindOf x=some .local->
  bindL kindOf (P.zip vs) m x=some v
 |[],_,_,_,_,h,_,_=>by simp at h
 |_::_,[],_,_,_,_,h,_=>by simp at h
 |p::P,w::vs,0,m,nd,h1,h2,hk=>by
  simp at h1 h2;subst h1;subst h2;show bindL kindOf ((p,w)::P.zip vs) m p=_;unfold bindL;rw[Pc λv hv=>(ab4.mp nd).1 (List.of_mem_zip hv).1,if_pos hk];simp
 |p::P,w::vs,i+1,m,nd,h1,h2,hk=>by
  unfold bindL;exact LC (ab4.mp nd).2 (by simpa using h1) (by simpa using h2) hk
theorem PK{kindOf:Str->Option NameKind}:∀{P:List Str} {vs}{i:Nat} {m},P.Nodup->P[i]? = some x->vs[i]? = some v->kindOf x≠some .local->
  bindC kindOf (P.zip vs) m x=some v
 |[],_,_,_,_,h,_,_=>by simp at h
 |_::_,[],_,_,_,_,h,_=>by simp at h
 |p::P,w::vs,0,m,nd,h1,h2,hk=>by
  simp at h1 h2;subst h1;subst h2;show bindC kindOf ((p,w)::P.zip vs) m p=_;unfold bindC;rw[OP λv hv=>(ab4.mp nd).1 (List.of_mem_zip hv).1,if_neg hk];simp
 |p::P,w::vs,i+1,m,nd,h1,h2,hk=>by
  unfold bindC;exact PK (ab4.mp nd).2 (by simpa using h1) (by simpa using h2) hk
noncomputable def start(N:List Str)(vs:List V):St:=vs.map some++List.replicate (N.length-vs.length) none
noncomputable def jm(CX:uu)(P:Program)(w:World)(K:PySem.W.Frag)(mg:Str->Option Value)(base:Heap)(N:List Str)(qual:Str)(scope:Scope)(f:Addr)(cd:Value)(A:Around)(outer:List Env)(s:Shared)(H:Hp)(E:XK)(cm:Bool:=true):Cx where
 prog:=P
 w:=w
 K:=K
 mg:=mg
 base:=base
 A:=A.deeper (envOfC qual scope s.heap.objs.size f cd)
 N:=N
 eT:=s
 v9:=H
 env:=envOfC qual scope s.heap.objs.size f cd
 outer:=outer
 stack:=envOfC qual scope s.heap.objs.size f cd::outer
 ex:=[]
 calm:=cm
 fn:=λ_=>true
 pn:=[]
 xe:=λe s'=>wpAny (model P w) (A.deeper (envOfC qual scope s.heap.objs.size f cd)) (leaving (envOfC qual scope s.heap.objs.size f cd) e) (λ_ tH=>CX outer H s E e tH) (λe' tH=>CX outer H s E e' tH) s'
theorem MY{sc:Scope}(h:sc.names.lookup x=some .cell):∃c,(cellsFrom n sc.names []).lookup x=some c:=by
 have q:=PySem.W.cellsFrom_some sc.names n [] (.inl h);exact agd.mp q
theorem adO{w:World}{K:PySem.W.Frag}{mg:Str->Option Value}
  (S:qK N ps scope) (hd:cm=true->A.handled=none) (e0:sV P w K mg base A outer s H) (hl:vs.length=ps.length) (r:aU vs us)
  (x:InCallC s s.heap.objs.size (bindL (envOfC qual scope s.heap.objs.size f cd).kindOf (ps.zip us) λ_=>none) (cellsFrom (s.heap.objs.size+1) scope.names []) (bindC (envOfC qual scope s.heap.objs.size f cd).kindOf (ps.zip us) λ_=>none) s1) :
  Inv (jm CX P w K mg base N qual scope f cd A outer s H E cm) [] (start N vs) H s1:=by
 have hpl:ps.length<=N.length:=by have:=congrArg List.length S.pre;rw[agW] at this;omega
 obtain⟨h1,tk,rfl,hk⟩:=x.done;have uw:∀b:Addr,b∉(jm CX P w K mg base N qual scope f cd A outer s H E cm).ex:=λb z=>absurd (show b∈([]:List Addr) from z) (by simp)
 refine⟨⟨e0.mod,S.kind,rfl,rfl,abL _,λy z c h1 h2=>?_,λy hy=>?_,λy c _ h=>?_,hd,Around.frames_deeper e0.frames,.inr ⟨rfl,rfl⟩,λb z=>absurd z (uw b),e0.bs,e0.kF,λb _ _=>uw b,λb z=>absurd z (uw b),e0.kq,e0.qU⟩,
  rfl,e0.bare,Un.kept hk,⟨_,x.toInCall.ns,λi y v h1 h2 h3=>?_⟩,λy c h=>⟨_,x.cell y c h⟩,e0.aK.fresh (abL _),λy c h=>?_,λp hp=>absurd (show p∈([]:List (Addr×Obj)) from hp) (by simp),e0.aK.kept hk,?_,⟨e0.hq.hd,e0.hq.ok,e0.hq.lm⟩⟩
 .exact name_of_addr x.apart (PySem.mem_of_lookup h1) (PySem.mem_of_lookup h2)
 .have hy:=hy;rcases hy with hy|hy
  .exact MY hy
  .exact absurd rfl (S.Zs _ (PySem.mem_of_lookup hy))
 .exact afY (x.above y c (PySem.mem_of_lookup h))
 .have hi:i<vs.length:=by
   unfold start at h2
   by_cases hi:i<vs.length
   .exact hi
   .rw[aeb (by simpa using hi)] at h2;rw[agy] at h2
    split at h2<;>cases h2
  have ha:vs[i]? = some v:=by
   unfold start at h2;rw[ad0 (by simpa using hi),acn] at h2;exists e,vs[i]?,a,h2;cases h2;rfl
  obtain⟨u,hu,rv⟩:=r.get ha;have hp:ps[i]? = some y:=by
   rw[<- S.pre,List.getElem?_take_of_lt (by omega)];exact h1
  have OX:ps.Nodup:=by rw[<- S.pre];exact S.nd.sublist (List.take_sublist _ _)
  refine⟨u,rv,?_⟩;rcases S.par y (adU hp) with k|k
  .exact .inl ⟨k,LC OX hp hu k⟩
  .obtain⟨c,e⟩:=MY k;refine .inr ⟨.inl k,c,e,?_⟩;have q:=x.cell y c e;rw[PK OX hp hu (by show scope.names.lookup y≠_;rw[k];decide)] at q;exact q
 .exact e0.aK.fresh (afY (x.above y c (PySem.mem_of_lookup h)))
 .unfold start;show _=N.length;rw[abD,List.length_map,List.length_replicate];omega
theorem T9{K:PySem.W.Frag}{dV kV doc pm aX ct oc:Value}
  (lk:K.lookup f=some ⟨oc,od,.func (PySem.W.fnOf name qual params body scope dV kV doc pm an aX ct),ue⟩) (o6:PySem.W.codeIn K aX qual=true) (S:qK N ps scope)
  (len:∀vs H Q E,sp vs H Q E->vs.length=ps.length)
  (HN:∀(A) (outer) (s) (H) (vs) (Q) (E),bH k (A.deeper (envOfC qual scope s.heap.objs.size f aX)) cm->sp vs H Q E->
   ∃t,iF (jm CX P w K mg base N qual scope f aX A outer s H E cm) body t/\t { nx:=λ_ H'=>Q .az H',rt:=Q } (start N vs) H) :
  cE P w K mg base CX (k+1) f (PySem.W.fnOf name qual params body scope dV kV doc pm an aX ct) ps sp cm:=by
 refine⟨len,λA outer s H args us vs Q E hr e0 hb r qS=>?_⟩;have hl:=len _ _ _ _ qS;have KX:=e0.mod.yd.keeps λb o e=>(e0.bs b o e).1
 have lim:=e0.mod.nolimit.keeps λb o e=>(e0.bs b o e).1
 have ab3:∀y∈ps.zip us,scope.names.lookup y.1=some .local\/(scope.names.lookup y.1=some .cell/\((cellsFrom (s.heap.objs.size+1) scope.names []).lookup y.1).isSome=true):=λ⟨n,v⟩ hy=>by
  rcases S.par n (List.of_mem_zip hy).1 with q|q
  .exact .inl q
  .exact .inr ⟨q,PySem.W.cellsFrom_some _ _ _ (.inl q)⟩
 refine codeAny_call_function hr.depth (KX _ _ lk) rfl S.co S.gen rfl (PySem.W.codeRec_of KX o6) (hb _ _ _ _ ?_);refine wpAny_newFunctionEnv_cells S.kind ab3 λenv he s1 x=>?_
 subst he;refine⟨lim.keeps x.toInCall.keep,codeAny_func ?_⟩;obtain⟨t,ht,hq⟩:=HN A outer s H vs Q E (hr.deeper _) qS;have I:Inv (jm CX P w K mg base N qual scope f aX A outer s H E cm) [] (start N vs) H s1:=adO S hr.hd e0 hl r x;refine ae0 (ht [] s1 (start N vs) H _ I hq) (λfl s' hs=>?_) λe s' hs=>hs
 have fin:∀{aI} {H'} {v} {u},Inv (jm CX P w K mg base N qual scope f aX A outer s H E cm) [] aI H' s'->RelV v u->Q v H'->CE outer P w H s Q u s':=
  λ{aI H' v u} J rv q=>⟨v,H',J.os,J.bare,J.base,J.aK,rv,q⟩
 cases fl with
 |ret u=>
  obtain⟨v,aI,H',J,rv,q⟩:=hs;exact fin J rv q
 |next=>
  obtain⟨aI,H',J,q⟩:=hs;exact fin (v:=V.az) (u:=Value.none) J rfl q
 |brk=>
  obtain⟨_,_,_,q⟩:=hs;exact False.elim q
 |cont=>
  obtain⟨_,_,_,q⟩:=hs;exact False.elim q
section
variable{id T:String}
def JC(r:List V->Hp->VK->Prop)(t:TA):TE:=λσ H Q=>t σ H λvs H1=>r vs H1 Q
theorem sI(hc:g_ X (.builtin id) r)(hg:Gl X x)(hm:X.mg x=none)(hv:bootBuiltins x=some (.builtin id))(ha:PA X (e::es) t)(hn:x≠"__name__":=by decide)(kO:(x==("__debug__":Str))=false:=by decide)
  (he:starEach (e::es) X.env=(false,eval e X.env)::starEach es X.env:=by rfl) (hpl:(backTo pos (starEach es X.env)).any (·.1)=false:=by rfl):PE X (.Call (.Name x p) (e::es) [] pos) (JC r t):=by
 exists 44;refine afS (pJ I hg hm hv ?_ hn kO);exact PyProof.Rows.callWith_builtin1 (ha.n I h λus s1 vs H1 I1 r1 q1=>hc ah s1 σ H1 vs us Q I1 r1 q1) he hpl
theorem Eh(hc:g_ X (.type T) r)(hg:Gl X x)(hm:X.mg x=none)(hv:bootBuiltins x=some (.type T))(ha:PA X (e::es) t)(hn:x≠"__name__":=by decide)(kO:(x==("__debug__":Str))=false:=by decide)
  (he:starEach (e::es) X.env=(false,eval e X.env)::starEach es X.env:=by rfl) (hpl:(backTo pos (starEach es X.env)).any (·.1)=false:=by rfl):PE X (.Call (.Name x p) (e::es) [] pos) (JC r t):=by
 exists 44;refine afS (pJ I hg hm hv ?_ hn kO);exact af0 (ha.n I h λus s1 vs H1 I1 r1 q1=>hc ah s1 σ H1 vs us Q I1 r1 q1) he hpl
end
end L2
namespace HT
open PySem PyProof.Rows
noncomputable def gW(n d:Nat):Option Int->Nat
 |none=>d
 |some v=>if v<0 then(v+(n:Int)).toNat else min v.toNat n
theorem J8(n d:Nat):gW n d none=d:=rfl
theorem JO(n d k:Nat):gW n d (some (k:Int))=min k n:=by
 show(if(k:Int)<0 then((k:Int)+(n:Int)).toNat else min (k:Int).toNat n)=min k n;rw[if_neg (by omega),Int.toNat_natCast]
end HT
namespace L2
open PySem PySem.Spec PyProof.Rows
abbrev TO:=St->Hp->(Option Int->Hp->Prop)->Prop
def PO(X:Cx)(e:Option Expr)(t:TO):Prop:=
 ∀(ah) (s) (σ) (H) (Q),Inv X ah σ H s->t σ H Q->
  Y1 X X.A (evalPart e X.env) (λu s'=>∃o H',Inv X ah σ H' s'/\IsPart u o/\Q o H') X.xe s
noncomputable def UK:TO:=λ_ H Q=>Q none H
noncomputable def Vz(t:TE):TO:=λσ H Q=>t σ H λx H1=>∃i,x=.int i/\Q (some i) H1
theorem intsAre_of:∀{us},aU (ns.map V.int) us->IntsAre us ns:=by
 induction ns with
 |nil=>intro us r;rw[agX] at r;cases r;exact .nil
 |cons n ns ih=>
  intro us r;rw[aao] at r;cases r with
  |cons r1 r2=>
   obtain⟨t,e⟩:=r1;subst e;exact .cons n t (ih r2)
section
variable{lo hi:Option Expr}
theorem Ge:PO X none UK:=by
 exists 44;rw[evalPart_none];exact ac1 ⟨none,H,I,.none,h⟩
theorem DV(h:PE X e te):PO X (some e) (Vz te):=by
 intro ah s σ H Q I hw;rw[evalPart_some];refine h.n I hw λu s1 x H1 I1 r1 q1=>?_
 obtain⟨i,rfl,q⟩:=q1;obtain⟨t,rfl⟩:=r1;exact⟨some i,H1,I1,.int i t,q⟩
def KE(X:Cx)(r:V->Option Int->Option Int->Hp->VK->Prop):Prop:=
 ∀(ah) (s) (σ) (H) (x) (v vl vu) (lo hi) (sl) (Q),Inv X ah σ H s->RelV x v->s.heap.IsSliceOf sl vl vu .none->IsPart vl lo->IsPart vu hi->r x lo hi H Q->
  ∃T id,typeLookup (.type T) "__getitem__"=pure (some (.builtin id))/\s.TypeIs v T/\Y1 X X.A (getItem v (.ref sl)) (EP X ah σ Q) X.xe s
def tSl(r:V->Option Int->Option Int->Hp->VK->Prop)(te:TE)(tl th:TO):TE:=λσ H Q=>te σ H λx H1=>tl σ H1 λl H2=>th σ H2 λu H3=>r x l u H3 Q
theorem E8(hr:KE X r)(he:PE X e te)(hl:PO X lo tl)(hu:PO X hi th):PE X (.Subscript e (.Slice lo hi none p2) pos) (tSl r te tl th):=by
 exists 44;refine Subscript_ (he.n I h λv s1 x H1 I1 r1 q1=>?_);refine wpAny_Slice (cM (hl ah s1 σ H1 _ I1 q1) ?_)
 rintro vl s2 ⟨l,H2,I2,pl,q2⟩
 refine cM (hu ah s2 σ H2 _ I2 q2) ?_
 rintro vu s3 ⟨u,H3,I3,pu,q3⟩
 rw[evalPart_none];refine ac1 ?_;have I4:Inv X ah σ H3 { s3 with heap:=s3.heap.push { cls:=.type "slice",data:=.fields #[vl,vu,.none] } }:=I3.kept (t':=s3.toks) λb ob q=>aax _ q
 obtain⟨T,id,hT,ht,hg⟩:=hr ah { s3 with heap:=s3.heap.push { cls:=.type "slice",data:=.fields #[vl,vu,.none] } } σ H3 x v vl vu l u s3.heap.objs.size Q I4 r1 (Heap.IsSliceOf.new ..) pl pu q3;show Y1 X X.A (subscriptTail e (.Slice lo hi none p2) v (.ref s3.heap.objs.size)) (EP X ah σ Q) X.xe { s3 with heap:=s3.heap.push { cls:=.type "slice",data:=.fields #[vl,vu,.none] } };exact tail_any (ops:=[.ref s3.heap.objs.size,v]) ht hT hg (by with_unfolding_all rfl)
def k9(xs:List V)(lo hi:Option Int):List V:=(xs.drop (HT.gW xs.length 0 lo)).take (HT.gW xs.length xs.length hi-HT.gW xs.length 0 lo)
theorem ZR(xs:List V)(lo hi:Option Int):(k9 xs lo hi).length<=xs.length:=by
 unfold k9;rw[agW,List.length_drop];omega
end
noncomputable def kM(n:Nat)(i:Int):Option Nat:=if 0<=i then(if i<n then some i.toNat else none) else if -(n:Int)<=i then some (i+n).toNat else none
def cB{α:Type}(xs:List α)(i:Int):Option α:=(kM xs.length i).bind λj=>xs[j]?
theorem TH(h:kM n i=some j):seqIndex? i n=some j/\j<n/\-(n:Int)<=i/\i<n:=by
 unfold kM at h
 by_cases h0:0<=i
 .rw[if_pos h0] at h;obtain⟨h1,h⟩:=ci h;have e:=acf h;exact⟨by rw[seqIndex_of h0 h1,e],by omega,by omega,h1⟩
 .rw[if_neg h0] at h;obtain⟨h1,h⟩:=ci h;have e:=acf h;exact⟨by rw[seqIndex_neg (by omega) h1,e],by omega,h1,by omega⟩
theorem JT(h:cB xs i=some v):∃j,seqIndex? i xs.length=some j/\xs[j]? = some v/\j<xs.length/\-(xs.length:Int)<=i/\i<xs.length:=by
 unfold cB at h;exists e,kM xs.length i,j,h;obtain⟨h1,h2,h3,h4⟩:=TH e;exact⟨j,h1,h,h2,h3,h4⟩
def Bc(b:Expr):Prop:=∀o i,subscripted b false o i=operate [o,i] (getItem o i)
def pO(X:Cx)(r:R2):Prop:=
 ∀(value slice) (ah) (s) (σ) (H) (x y) (v u) (Q),Inv X ah σ H s->RelV x v->RelV y u->r x y H Q->
  subscripted slice false v u=operate [v,u] (getItem v u)->Y1 X X.A (subscriptTail value slice v u) (EP X ah σ Q) X.xe s
def Jj(X:Cx)(id:String)(r:V->List V->Hp->VK->Prop):Prop:=
 ∀(ah) (s) (σ) (H) (x) (xs) (v) (us) (Q),Inv X ah σ H s->RelV x v->aU xs us->r x xs H Q->
  Y1 X X.A (call (.builtin id) (v::us)) (EP X ah σ Q) X.xe s
section
theorem pO.or(h:pO X r)(h':pO X r'):pO X (λx y H Q=>r x y H Q\/r' x y H Q):=by
 intro value slice ah s σ H x y v u Q I rx ry q hs;rcases q with q|q
 .exact h value slice ah s σ H x y v u Q I rx ry q hs
 .exact h' value slice ah s σ H x y v u Q I rx ry q hs
theorem Ds(hr:pO X r)(ha:PE X a ta)(hb:PE X b tb)(hs:Bc b):PE X (.Subscript a b pos) (uf r ta tb):=by
 exists 44;exact Subscript_ (JS ha hb I h λv u s2 x y H2 I2 rx ry q=>hr a b ah s2 σ H2 x y v u Q I2 rx ry q (hs _ _))
def IB(K:PySem.W.Frag):R2:=λx y H Q=>∃p xs i v,x=.ref p/\y=.int i/\bX K H p xs/\cB xs i=some v/\Q v H
def EU(K:PySem.W.Frag):R2:=λx y H Q=>∃p xs i v,x=.ref p/\y=.int i/\cg K H p xs/\cB xs i=some v/\Q v H
def DS:R2:=λx y H Q=>∃z i c,x=.str z/\y=.int i/\z.length<=sizeLine/\cB z.cps.toList i=some c/\Q (.str ⟨#[c]⟩) H
theorem aex:pO X (IB X.K):=by
 intro value slice ah s σ H x y v u Q I rx ry h hs;obtain⟨p,xs,i,z,rfl,rfl,hq,he,q⟩:=h;cases rx;obtain⟨t,rfl⟩:=ry;obtain⟨ay,r,pl,hz⟩:=I.list hq;obtain⟨j,h1,h2,h3,h4,h5⟩:=JT he;obtain⟨w,ew,fq⟩:=r.get h2;have hl:=r.length;have hn:=yQ;have fin:EP X ah σ Q w s:=⟨z,H,I,fq,q⟩
 by_cases h0:0<=i
 .have hj:i.toNat=j:=by
   rw[seqIndex_of h0 h5] at h1;exact acf h1
  exact item_listR pl.isList h0 (by omega) (by rw[hj];simpa using ew) fin hs
 .have hj:(i+(ay.toArray.size:Int)).toNat=j:=by
   rw[seqIndex_neg (by omega) h4] at h1;rw[ab5,<- hl];exact acf h1
  exact subscriptTail_builtinR pl.isList.typeIs slot_list_getitem.lookup
   (wpAny_getItem_list_neg pl.isList (by omega) (by rw[ab5]<;>omega) (by omega) (by rw[hj];simpa using ew) ⟨rfl,fin⟩) hs
theorem afu:pO X (EU X.K):=by
 intro value slice ah s σ H x y v u Q I rx ry h hs;obtain⟨p,xs,i,z,rfl,rfl,hq,he,q⟩:=h;cases rx;obtain⟨t,rfl⟩:=ry;obtain⟨ay,r,pl,hz⟩:=I.tuple hq;obtain⟨j,h1,h2,h3,h4,h5⟩:=JT he;obtain⟨w,ew,fq⟩:=r.get h2;have hl:=r.length;have hn:=yQ;have fin:EP X ah σ Q w s:=⟨z,H,I,fq,q⟩
 exact subscriptTail_builtinR pl.typeIs slot_tuple_getitem.lookup
  (getItem_tuple pl (by omega) (by omega) (by rw[ab5,<- hl];exact h1) (by simpa using ew) ⟨rfl,fin⟩) hs
theorem Xi:pO X DS:=by
 intro value slice ah s σ H x y v u Q I rx ry h hs;obtain⟨z,i,c,rfl,rfl,hz,he,q⟩:=h;exists 65;obtain⟨t',rfl⟩:=ry;obtain⟨j,h1,h2,h3,h4,h5⟩:=JT he;have hl:z.cps.toList.length=z.length:=by simp[Str.length]
 rw[hl] at h1 h4 h5;have hn:=yQ;exact tail_any (typeIs_str s z t) slot_str_getitem.lookup (getItem_str (by
  have e1:decide (i < -(2 ^ 63:Int))=false:=ab8 (by omega);have e2:decide (i >= 2 ^ 63)=false:=ab8 (by omega);rw[e1,e2,Bool.or_false]) (by rw[h1];simpa using h2) ⟨.str ⟨#[c]⟩,H,I.tok _,⟨_,rfl⟩,q⟩) hs
def Yo(K:PySem.W.Frag):R2:=λx y H Q=>IB K x y H Q\/EU K x y H Q\/DS x y H Q
theorem F1:pO X (Yo X.K):=aex.or (afu.or Xi)
theorem T_(lo hi:Option Int)(n:Nat):(sliceBounds lo hi none n).1=((HT.gW n 0 lo:Nat):Int)/\(sliceBounds lo hi none n).2.1=((HT.gW n n hi:Nat):Int)/\(sliceBounds lo hi none n).2.2=1:=by
 refine⟨?_,?_,rfl⟩
 .cases lo with
  |none=>simp[sliceBounds,HT.gW]
  |some i=>
   simp only[sliceBounds,HT.gW,Option.getD_none,show(1:Int) > 0 by decide,if_true]
   by_cases h:i<0
   .simp only[h,if_true]<;>omega
   .simp only[h,if_false]<;>omega
 .cases hi with
  |none=>simp[sliceBounds,HT.gW]
  |some i=>
   simp only[sliceBounds,HT.gW,Option.getD_none,show(1:Int) > 0 by decide,if_true]
   by_cases h:i<0
   .simp only[h,if_true]<;>omega
   .simp only[h,if_false]<;>omega
theorem acy(ay:List Value)(lo hi:Option Int):slicePick ay.toArray lo hi none=((ay.drop (HT.gW ay.length 0 lo)).take (HT.gW ay.length ay.length hi-HT.gW ay.length 0 lo)).toArray:=by
 obtain⟨h1,h2,h3⟩:=T_ lo hi ay.toArray.size;unfold slicePick;rw[h1,h2,h3];simp only[sliceRange_one,pick_run,ab5]<;>rfl
def OY(K:PySem.W.Frag):V->Option Int->Option Int->Hp->VK->Prop:=λx lo hi H Q=>∃a xs,x=.ref a/\bX K H a xs/\∀p,H p=none->Q (.ref p) (upd H p (.lst (k9 xs lo hi)))
theorem Di:KE X (OY X.K):=by
 intro ah s σ H x v vl vu lo hi sl Q I rx hs pl pu h;obtain⟨a,xs,rfl,hx,q⟩:=h;cases rx;obtain⟨ay,r,ht,hz⟩:=I.list hx;have hlen:=r.length;refine⟨"list",_,slot_list_getitem.lookup,ht.isList.typeIs,?_⟩;refine wpAny_getItem_list_slice ht.isList hs pl pu .none (by simp) ?_ (by rw[ab5]<;>omega);rw[acy,<- hlen];refine⟨.ref s.heap.objs.size,_,I.laid (λb ob q=>aax _ q) (abL _) ?_,rfl,q _ (I.aK.fresh (abL _))⟩;exact⟨adk (ZR xs lo hi) hz,_,0,(r.drop (HT.gW xs.length 0 lo)).take (HT.gW xs.length xs.length hi-HT.gW xs.length 0 lo),acC _ rfl⟩
noncomputable def oj:V->Bool
 |.az=>true
 |.bl _=>true
 |.int _=>true
 |.str _=>true
 |_=>false
noncomputable def qR:V->V->Bool
 |.az,.az=>true
 |.bl a,.bl b=>a==b
 |.bl a,.int b=>(if a then 1 else 0)==b
 |.int a,.bl b=>a==(if b then 1 else 0)
 |.int a,.int b=>a==b
 |.str a,.str b=>a==b
 |_,_=>false
theorem Y7(ry:RelV y u)(rx:RelV x v)(fy:oj y=true)(fx:oj x=true):SeqAt.EqAt A s u v (qR y x):=by
 cases y with
 |az=>
  cases ry;cases x with
  |az=>cases rx;exact SeqAt.EqAt.same _
  |bl b=>cases rx;exact SeqAt.EqAt.none_bool b
  |int b=>obtain⟨t,rfl⟩:=rx;exact SeqAt.EqAt.none_int b t
  |str b=>obtain⟨t,rfl⟩:=rx;exact SeqAt.EqAt.none_str b t
  |_=>exact absurd (show false=true from fx) abk
 |bl a=>
  cases ry;cases x with
  |az=>cases rx;exact SeqAt.EqAt.bool_none a
  |bl b=>cases rx;exact SeqAt.EqAt.bool_bool a b
  |int b=>obtain⟨t,rfl⟩:=rx;exact SeqAt.EqAt.bool_int a b t
  |str b=>obtain⟨t,rfl⟩:=rx;exact SeqAt.EqAt.bool_str a b t
  |_=>exact absurd (show false=true from fx) abk
 |int a=>
  obtain⟨t',rfl⟩:=ry;cases x with
  |az=>cases rx;exact SeqAt.EqAt.int_none a t'
  |bl b=>cases rx;exact SeqAt.EqAt.int_bool a t' b
  |int b=>obtain⟨t,rfl⟩:=rx;exact SeqAt.EqAt.int_int a t' b t
  |str b=>obtain⟨t,rfl⟩:=rx;exact SeqAt.EqAt.int_str a t' b t
  |_=>exact absurd (show false=true from fx) abk
 |str a=>
  obtain⟨t',rfl⟩:=ry;cases x with
  |az=>cases rx;exact SeqAt.EqAt.str_none a t'
  |bl b=>cases rx;exact SeqAt.EqAt.str_bool a t' b
  |int b=>obtain⟨t,rfl⟩:=rx;exact SeqAt.EqAt.str_int a t' b t
  |str b=>obtain⟨t,rfl⟩:=rx;exact SeqAt.EqAt.str_str a t' b t
  |_=>exact absurd (show false=true from fx) abk
 |_=>exact absurd (show false=true from fy) abk
def iT(x:V)(u:Value):Bool:=match u with
 |.none=>qR .az x
 |.bool b=>qR (.bl b) x
 |.int i _=>qR (.int i) x
 |.str z _=>qR (.str z) x
 |_=>false
theorem Qi(r:RelV y u)(f:oj y=true):iT x u=qR y x:=by
 cases y with
 |az=>cases r;rfl
 |bl b=>cases r;rfl
 |int i=>obtain⟨t,rfl⟩:=r;rfl
 |str z=>obtain⟨t,rfl⟩:=r;rfl
 |_=>exact absurd (show false=true from f) abk
theorem yr:∀{xs} {us},aU xs us->xs.all oj=true->us.any (iT x)=xs.any λy=>qR y x
 |_,_,.nil,_=>rfl
 |y::xs,u::us,.cons r t,f=>by
  rw[ag2,aaV] at f;rw[afV,afV,Qi r f.1,yr t f.2]
theorem wm(rx:RelV x v)(fx:oj x=true):∀{xs} {us},aU xs us->xs.all oj=true->∀u∈us,SeqAt.EqAt A s u v (iT x u)
 |_,_,.nil,_=>λu hu=>by cases hu
 |y::xs,u::us,.cons r t,f=>λu' hu=>by
  rw[ag2,aaV] at f;rcases aaA.mp hu with rfl|hu
  .rw[Qi r f.1];exact Y7 r rx f.1 fx
  .exact wm rx fx t f.2 u' hu
def vf(x:V)(xs:List V):Bool:=xs.any λy=>qR y x
def BO(K:PySem.W.Frag)(neg:Bool):R2:=λx y H Q=>∃p xs,y=.ref p/\(bX K H p xs\/cg K H p xs)/\oj x=true/\xs.all oj=true/\Q (.bl (if neg then !vf x xs else vf x xs)) H
theorem I_:di X (compareOp .In) (BO X.K false):=by
 exists 42;obtain⟨p,xs,rfl,hq,fx,fs,q⟩:=h;cases ry;rcases hq with hq|hq
 .obtain⟨ay,r,pl,hz⟩:=I.list hq;refine SeqAt.in_listAt (iT x) pl.isList (λw hw=>wm rx fx r fs w (by simpa using hw)) ⟨.bl _,H,I,rfl,?_⟩;exists 56;exact q
 .obtain⟨ay,r,pl,hz⟩:=I.tuple hq;refine SeqAt.in_tupleAt (iT x) pl (λw hw=>wm rx fx r fs w (by simpa using hw)) ⟨.bl _,H,I,rfl,?_⟩;exists 56;exact q
theorem Fg:di X (compareOp .NotIn) (BO X.K true):=by
 exists 42;obtain⟨p,xs,rfl,hq,fx,fs,q⟩:=h;cases ry;rcases hq with hq|hq
 .obtain⟨ay,r,pl,hz⟩:=I.list hq;refine SeqAt.notIn_listAt (iT x) pl.isList (λw hw=>wm rx fx r fs w (by simpa using hw)) ⟨.bl _,H,I,rfl,?_⟩;exists 56;exact q
 .obtain⟨ay,r,pl,hz⟩:=I.tuple hq;refine SeqAt.notIn_tupleAt (iT x) pl (λw hw=>wm rx fx r fs w (by simpa using hw)) ⟨.bl _,H,I,rfl,?_⟩;exists 56;exact q
theorem UJ:g_ X (.builtin "len") (λxs H Q=>∃p ys,xs=[.ref p]/\(bX X.K H p ys\/cg X.K H p ys)/\Q (.int ys.length) H):=by
 exists 43;obtain⟨p,ys,rfl,hq,q⟩:=h;obtain⟨u,rfl,rx⟩:=vals1 r;cases rx;have hn:=yQ;rcases hq with hq|hq
 .obtain⟨ay,r',pl,hz⟩:=I.list hq;have hlen:=r'.length;exact Calls.call_len_list pl.isList (by simp only[ab5]<;>omega) ⟨.int ys.length,H,I.tok _,⟨s.toks+1,by rw[ab5,hlen]⟩,q⟩
 .obtain⟨ay,r',pl,hz⟩:=I.tuple hq;have hlen:=r'.length;exact len_tuple pl (by simp only[ab5]<;>omega) ⟨.int ys.length,H,I.tok _,⟨s.toks+1,by rw[ab5,hlen]⟩,q⟩
theorem Zl:g_ X (.type "list") (λxs H Q=>∃p ys,xs=[.ref p]/\(bX X.K H p ys\/cg X.K H p ys)/\∀l,H l=none->Q (.ref l) (upd H l (.lst ys))):=by
 exists 43;obtain⟨p,ys,rfl,hq,q⟩:=h;obtain⟨u,rfl,rx⟩:=vals1 r;cases rx;have fin:∀(ay),aU ys ay->ys.length<=sizeLine->∀(h') (c'),(∀b o',s.heap.get? b=some o'->h'.get? b=some o')->
   h'.get? s.heap.objs.size=some { cls:=.type "list",dict:=none,data:=.seq ay.toArray c',slots:=#[] }->EP X ah σ Q (.ref s.heap.objs.size) { s with heap:=h' }:=λay r' hz h' c' kp e=>
  ⟨.ref s.heap.objs.size,_,I.laid kp (abL _) (show dM X.prog X.w _ h' _ (.lst ys) from⟨hz,ay,c',r',e⟩),rfl,q _ (I.aK.fresh (abL _))⟩
 rcases hq with hq|hq
 .obtain⟨ay,r',pl,hz⟩:=I.list hq;have hlen:=r'.length;obtain⟨o,ho,hc,n,hd⟩:=pl.isList;exact call_list_seq p (.inl rfl) ho hc hd (λh' c' kp e=>fin ay r' hz h' c' kp e) (by simp only[ab5]<;>omega)
 .obtain⟨ay,r',pl,hz⟩:=I.tuple hq;have hlen:=r'.length;obtain⟨o,ho,hc,n,hd⟩:=pl;exact call_list_seq p (.inr rfl) ho hc hd (λh' c' kp e=>fin ay r' hz h' c' kp e) (by simp only[ab5]<;>omega)
theorem aeS:g_ X (.type "tuple") (λxs H Q=>∃p ys,xs=[.ref p]/\((bX X.K H p ys/\∀l,H l=none->Q (.ref l) (upd H l (.tup ys)))\/(cg X.K H p ys/\Q (.ref p) H))):=by
 exists 43;obtain⟨p,ys,rfl,h⟩:=h;obtain⟨u,rfl,rx⟩:=vals1 r;cases rx;rcases h with⟨hq,q⟩|⟨hq,q⟩
 .obtain⟨ay,r',pl,hz⟩:=I.list hq;have hlen:=r'.length;refine call_tuple_list pl.isList (λh' kp=>?_) (by simp only[ab5]<;>omega);have I1:=I.kept (t':=s.toks) kp;have I2:Inv X ah σ (upd H h'.objs.size (.tup ys)) { s with heap:=h'.push { cls:=.type "tuple",data:=.seq ay.toArray } }:=
   I1.laid (λb o e=>aax _ e) (abL _) (show dM X.prog X.w _ _ _ (.tup ys) from⟨hz,ay,r',nq.new _ _⟩)
  exact⟨.ref h'.objs.size,_,I2,rfl,q _ (I1.aK.fresh (abL _))⟩
 .obtain⟨ay,r',pl,hz⟩:=I.tuple hq;exact call_tuple_same pl ⟨.ref p,H,I,rfl,q⟩
def DF(K:PySem.W.Frag)(T:String)(x:V)(H:Hp):Prop:=match x with
 |.str _=>T="str"
 |.int _=>T="int"
 |.ref p=>(T="list"/\∃xs,bX K H p xs)\/(T="tuple"/\∃o,K.lookup p=some o/\o.cls=.type "tuple"/\o.dict=none)\/
   (T="dict"/\((∃ak,H p=some (.dK ak))\/∃ak,H p=some (.dT ak)))\/(T="set"/\∃S n,H p=some (.set S n))
 |_=>False
theorem Mg(I:Inv X ah σ H s)(r:RelV x v)(ty:DF X.K T x H):
  s.TypeIs v T/\∀a,v=.ref a->∃ob,s.heap.get? a=some ob/\ob.dict=none:=by
 cases x with
 |str z=>
  obtain⟨t,rfl⟩:=r;cases(show T="str" from ty);exact⟨typeIs_str s z t,λ_ e=>nomatch e⟩
 |int i=>
  obtain⟨t,rfl⟩:=r;cases(show T="int" from ty);exact⟨typeIs_int s i t,λ_ e=>nomatch e⟩
 |ref p=>
  cases r;rcases ty with⟨rfl,xs,hq⟩|⟨rfl,o,hk,hc,hd⟩|⟨rfl,hk⟩|⟨rfl,S,n,hk⟩
  .obtain⟨ay,_,pl,_⟩:=I.list hq;refine⟨pl.isList.typeIs,λa e=>?_⟩;cases e;obtain⟨o,n,e,c,hd,_⟩:=pl;exact⟨o,e,hd⟩
  .refine⟨⟨o,I.d_ p o hk,hc⟩,λa e=>?_⟩;cases e;exact⟨o,I.d_ _ o hk,hd⟩
  .have z:∃o,s.heap.get? p=some o/\o.ExactDict:=by
    rcases hk with⟨ak,hk⟩|⟨ak,hk⟩
    .obtain⟨_,_,_,_,o,_,_,e,ex,_⟩:=I.aK p _ hk;exact⟨o,e,ex⟩
    .obtain⟨_,_,_,_,o,_,_,e,ex,_⟩:=I.aK p _ hk;exact⟨o,e,ex⟩
   obtain⟨o,e,ex⟩:=z;refine⟨⟨o,e,ex.1⟩,λa e2=>?_⟩;cases e2;exact⟨o,e,ex.2.1⟩
  .obtain⟨o,_,_,_,e,ex,_⟩:=I.aK p _ hk;refine⟨⟨o,e,ex.1⟩,λa e2=>?_⟩;cases e2;exact⟨o,e,ex.2.1⟩
 |_=>exact False.elim ty
def tBM(K:PySem.W.Frag)(T:String)(r:V->List V->Hp->VK->Prop)(to:TE)(t:TA):TE:=λσ H Q=>to σ H λx H1=>DF K T x H1/\t σ H1 λxs H2=>r x xs H2 Q
variable{T id:String}
theorem vO(pa:PlainAttrs T)(slot:Slot T name id)(xB:typeOf (.builtin id)=pure (.type "method_descriptor"))(hm:Jj X id r)(ho:PE X o to)(ha:PA X (e::es) t)
  (iQ:attributeBase o name X.env (eval o X.env)=eval o X.env:=by rfl)
  (iW:((backTo cpos (starEach (e::es) X.env)).all (λx=>!x.1)&&(backToKw cpos (keywordEach [] X.env)).all (λx=>x.1.isSome)
   && decide ((e::es).length+([]:List Keyword).length+(if([]:List Keyword).isEmpty then 0 else 1)<30))=true:=by rfl)
  (iS:(apos.endLine==cpos.line)=true:=by rfl) (hs:starEach (e::es) X.env=(false,eval e X.env)::starEach es X.env:=by rfl) (adG:(backTo cpos (starEach es X.env)).any (·.1)=false:=by rfl) :
  PE X (.Call (.Attribute o name apos) (e::es) [] cpos) (tBM X.K T r to t):=by
 exists 44;refine wpAny_Call_method_late iQ iW iS rfl (ho.n I h λv s1 x H1 I1 r1 q=>?_);obtain⟨ty,q1⟩:=q;obtain⟨h1,h2⟩:=Mg I1 r1 ty;refine⟨T,id,pa,slot,xB,h1,h2,?_⟩;have hA:=ha cpos ah s1 σ H1 _ I1 q1;rw[hs] at hA ⊢;refine agH (by show(false||(backTo cpos (starEach es X.env)).any (·.1))=false;rw[adG]<;>rfl) (agP ?_);refine cM hA ?_
 rintro us s2 ⟨vs,H2,I2,r2,q2⟩
 exact hm ah s2 σ H2 x vs v us Q I2 r1 r2 q2
end
def CJ(X:Cx)(id:String)(r:V->List V->Hp->VK->Prop):Prop:=
 ∀(ah) (s) (σ) (H) (x) (xs) (v) (us) (Q),Inv X ah σ H s->RelV x v->aU xs us->r x xs H Q->
  Y1 X X.A (call (.builtin id) (v::us)) (EP X ah σ Q) X.xe s
theorem aU.one(h:aU [x] us):∃u,us=[u]/\RelV x u:=by
 rcases h with _|⟨r,_|_⟩
 exact⟨_,rfl,r⟩
theorem aU.eraseIdx:∀{xs} {us} (i),aU xs us->aU (xs.eraseIdx i) (us.eraseIdx i)
 |_,_,_,.nil=>.nil
 |_,_,0,.cons _ t=>t
 |_,_,i+1,.cons r t=>.cons r (aU.eraseIdx i t)
theorem Inv.HZ{ay its':List Value}(I:Inv X ah σ H s)(hH:H l=some (.lst xs))
  (e:s.heap.get? l=some { cls:=.type "list",data:=.seq ay.toArray n }) (hf:f ay.toArray=its'.toArray) (hv:aU ys its') (hz:ys.length<=sizeLine) :
  Inv X ah σ (upd H l (.lst ys)) { s with heap:=s.heap.update l (Obj.mapSeq f),toks:=t' }:=by
 have q:=PySem.IsL.update e f;rw[hf] at q;refine I.write (by rw[hH];exact trivial) (.inl rfl) (λb' u hb hu=>(ad9 s.heap (Obj.mapSeq f) (afZ hb)).trans hu) ⟨_,q⟩ ?_;exact⟨hz,its',_,hv,q⟩
theorem Inv.abd(I:Inv X ah σ H s)(hv:aU ys ay)(hz:ys.length<=sizeLine):
  Inv X ah σ (upd H s.heap.objs.size (.lst ys)) { s with heap:=s.heap.push { cls:=.type "list",data:=.seq ay.toArray },toks:=t' }:=
 I.laid (λ_ _ q=>aax _ q) (abL _) ⟨hz,ay,0,hv,acC _ rfl⟩
theorem Inv.fresh(I:Inv X ah σ H s):H s.heap.objs.size=none:=I.aK.fresh (abL _)
theorem Inv.uP(I:Inv X ah σ H s)(hH:H l=some (.lst xs)):xs.length<=sizeLine/\∃(ay:List Value) (n:Nat),aU xs ay/\xs.length=ay.length/\s.heap.get? l=some { cls:=.type "list",data:=.seq ay.toArray n }:=by
 obtain⟨z,ay,n,r,e⟩:=I.aK l _ hH;exact⟨z,ay,n,r,r.length,e⟩
theorem ad3(h:n<=sizeLine):Builtin.List.listTooLong n=false:=by
 unfold Builtin.List.listTooLong;exact ab8 (by omega)
def abG:V->List V->Hp->VK->Prop:=λx vs H Q=>∃l xs y,x=.ref l/\vs=[y]/\H l=some (.lst xs)/\xs.length<sizeLine/\Q .az (upd H l (.lst (xs++[y])))
theorem BB:CJ X "list.append" abG:=by
 intro ah s σ H x vs v us Q I rx rv h;obtain⟨l,xs,y,rfl,rfl,hH,hz,q⟩:=h;cases rx;obtain⟨u,rfl,ru⟩:=rv.one;obtain⟨z,ay,n,r,hl,e⟩:=I.uP hH;refine call_meets F.slot_list_append ⟨_,e,rfl⟩ F.entry_list_append (F.args_list_append_2 _ _) (PySem.list_append l ay.toArray n u (by rw[ab5];omega)) ⟨e,?_⟩;refine⟨.az,_,I.HZ (its':=ay++[u]) hH e (by simp) (r.append (.cons ru .nil)) ?_,rfl,q⟩;rw[abD,adR];omega
def TR:V->List V->Hp->VK->Prop:=λx vs H Q=>∃l b xs zs,x=.ref l/\vs=[.ref b]/\H l=some (.lst xs)/\H b=some (.lst zs)/\xs.length+zs.length<=sizeLine/\Q .az (upd H l (.lst (xs++zs)))
theorem Yp:CJ X "list.extend" TR:=by
 intro ah s σ H x vs v us Q I rx rv h;obtain⟨l,b,xs,zs,rfl,rfl,hH,hB,hz,q⟩:=h;cases rx;obtain⟨u,rfl,ru⟩:=rv.one;cases ru;obtain⟨z,ay,n,r,hl,e⟩:=I.uP hH;obtain⟨z2,tX,n2,r2,qW,e2⟩:=I.uP hB;have hsz:ay.toArray.size+tX.toArray.size<=sizeLine:=by rw[ab5,ab5];omega
 have WR:¬(!ay.toArray.isEmpty&&Builtin.List.listTooLong (ay.toArray.size+tX.toArray.size))=true:=by
  rw[ad3 hsz,Bool.and_false];exact abk
 refine call_meets F.slot_list_extend ⟨_,e,rfl⟩ F.entry_list_extend (F.args_list_extend_2 _ _)
  (AutoSeq1.list_extend_list_list_0 l ay.toArray n b tX.toArray n2 WR (by rw[ab5];omega) (by omega)) ⟨e,e2,?_⟩
 refine⟨.az,_,I.HZ (its':=ay++tX) hH e (by simp) (r.append r2) ?_,rfl,q⟩;rw[abD];omega
def afL:R2:=λx y H Q=>∃l b xs zs,x=.ref l/\y=.ref b/\H l=some (.lst xs)/\H b=some (.lst zs)/\xs.length+zs.length<=sizeLine/\∀p,H p=none->Q (.ref p) (upd H p (.lst (xs++zs)))
theorem ac8:di X (binaryOp .Add) afL:=by
 exists 42;obtain⟨l,b,xs,zs,rfl,rfl,hH,hB,hz,q⟩:=h;cases rx;cases ry;obtain⟨z,ay,n,r,hl,e⟩:=I.uP hH;obtain⟨z2,tX,n2,r2,qW,e2⟩:=I.uP hB;refine PySem.P.add_list e e2 ?_ (by rw[ab5,ab5];omega);have ea:ay.toArray++tX.toArray=(ay++tX).toArray:=by simp
 rw[ea];exact⟨.ref _,_,I.abd (r.append r2) (by rw[abD];omega),rfl,q _ I.fresh⟩
section
variable[DecidableEq κ]
noncomputable def eX(ak:List (κ×V))(k:κ):Option V:=(ak.find? λkv=>decide (kv.1=k)).map (·.2)
noncomputable def putK(ak:List (κ×V))(k:κ)(v:V):List (κ×V):=
 if(ak.any λkv=>decide (kv.1=k))=true then ak.map (λkv=>if kv.1=k then(kv.1,v) else kv) else ak++[(k,v)]
theorem zq{k:κ}(e:p.1=k):eX (p::r) k=some p.2:=by simp[eX,adA,e]
theorem xM{k:κ}(e:¬p.1=k):eX (p::r) k=eX r k:=by simp[eX,adA,e]
theorem Ie(k:κ):∀ak:List (κ×V),(ak.any λkv=>decide (kv.1=k))=(eX ak k).isSome
 |[]=>rfl
 |p::r=>by
  rw[afV]
  by_cases e:p.1=k
  .simp only[zq e,aaq e,Bool.true_or,Option.isSome_some]
  .rw[xM e,ab8 e,Bool.false_or];exact Ie k r
theorem F0(ak:List (κ×V))(k:κ)(v:V):(putK ak k v).length<=ak.length+1:=by
 unfold putK
 split
 .rw[List.length_map];omega
 .rw[abD,acj,List.length_nil];omega
theorem iA.vt(r:iA o u):o.isSome=u.isSome:=by
 cases o with
 |none=>cases u with
  |none=>rfl
  |some _=>exact(show False from r).elim
 |some _=>cases u with
  |none=>exact(show False from r).elim
  |some _=>rfl
theorem iA.getD(r:iA o u)(rd:RelV d d'):RelV (o.getD d) (u.getD d'):=by
 cases o with
 |none=>cases u with
  |none=>exact rd
  |some _=>exact(show False from r).elim
 |some _=>cases u with
  |none=>exact(show False from r).elim
  |some _=>exact r
theorem KV.val(r:KV ak vs)(k:κ):iA (eX ak k) (valueAt vs k):=by
 unfold KV at r
 induction r with
 |nil=>exact True.intro
 | @cons p q ps qs h t ih=>
  obtain⟨h1,h2⟩:=h
  by_cases e:p.1=k
  .have e':=h1.symm.trans e;have b:valueAt (q::qs) k=some q.2:=by simp[valueAt,adA,e']
   rw[zq e,b];exact h2
  .have e':¬q.1=k:=λz=>e (h1.trans z)
   have b:valueAt (q::qs) k=valueAt qs k:=by simp[valueAt,adA,e']
   rw[xM e,b];exact ih
theorem KV.any(r:KV ak vs)(k:κ):(ak.any λkv=>decide (kv.1=k))=vs.any λkv=>decide (kv.1=k):=by
 unfold KV at r
 induction r with
 |nil=>rfl
 |cons h t ih=>rw[afV,afV,ih,h.1]
theorem KV.ED(r:KV ak vs)(k:κ)(ry:RelV y u):
  KV (ak.map λkv=>if kv.1=k then(kv.1,y) else kv) (vs.map λkv=>if kv.1=k then(kv.1,u) else kv):=by
 unfold KV at r ⊢
 induction r with
 |nil=>exact .nil
 | @cons p q ps qs h t ih=>
  rw[aao,aao];refine .cons ?_ ih;obtain⟨h1,h2⟩:=h
  by_cases e:p.1=k
  .rw[if_pos e,if_pos (h1.symm.trans e)];exact⟨h1,ry⟩
  .rw[if_neg e,if_neg (λz=>e (h1.trans z))];exact⟨h1,h2⟩
theorem KV.put(r:KV ak vs)(k:κ)(ry:RelV y u):KV (putK ak k y) (stored vs k u):=by
 unfold putK stored;rw[r.any k]
 by_cases e:(vs.any λkv=>decide (kv.1=k))=true
 .rw[if_pos e,if_pos e];exact r.ED k ry
 .rw[if_neg e,if_neg e];exact Paired.snoc r ⟨rfl,ry⟩
theorem KV.keys{vs:List (κ×Value)}(r:KV ak vs):ak.map (·.1)=vs.map (·.1):=by
 unfold KV at r
 induction r with
 |nil=>rfl
 |cons h t ih=>rw[aao,aao,ih,h.1]
theorem KV.length(r:KV ak vs):ak.length=vs.length:=Paired.length r
end
theorem rC(r:RelV (kV k) u):(gJ P w).is k u=true:=by
 cases k with
 |inl i=>obtain⟨t,e⟩:=(show ∃t,u=Value.int i t from r);subst e;exact Yd P w i t
 |inr x=>obtain⟨t,e⟩:=(show ∃t,u=Value.str x t from r);subst e;exact WJ P w x t
theorem Ib:∀{ks} {us},aU (ks.map kV) us->ItemsAre (gJ P w) ks us
 |[],_,r=>by rw[agX] at r;cases r;exact .nil
 |k::ks,_,r=>by
  rw[aao] at r;cases r with
  |cons h t=>exact .cons (rC h) (Ib t)
abbrev KT(H:Hp):List (List Key×V)->List (List Key×Addr×Value)->Prop:=Paired λp q=>p.1=q.1/\Tk H q.2.1 (p.1.map kV)/\RelV p.2 q.2.2
theorem KT.val(r:KT H ak xs)(k:List Key):iA (eX ak k) ((atKey xs k).map (·.2)):=by
 induction r with
 |nil=>exact True.intro
 | @cons p q ps qs h t ih=>
  obtain⟨h1,_,h2⟩:=h
  by_cases e:p.1=k
  .have e':=h1.symm.trans e;have b:atKey (q::qs) k=some q.2:=by simp[atKey,adA,e']
   rw[zq e,b];exact h2
  .have e':¬q.1=k:=λz=>e (h1.trans z)
   have b:atKey (q::qs) k=atKey qs k:=by simp[atKey,adA,e']
   rw[xM e,b];exact ih
theorem KT.ED(r:KT H ak xs)(k:List Key)(ry:RelV y u):
  KT H (ak.map λkv=>if kv.1=k then(kv.1,y) else kv) (xs.map (putAt k u)):=by
 induction r with
 |nil=>exact .nil
 | @cons p q ps qs h t ih=>
  rw[aao,aao];refine .cons ?_ ih;obtain⟨h1,h2,h3⟩:=h;unfold putAt
  by_cases e:p.1=k
  .rw[if_pos e,if_pos (h1.symm.trans e)];exact⟨h1,h2,ry⟩
  .rw[if_neg e,if_neg (λz=>e (h1.trans z))];exact⟨h1,h2,h3⟩
theorem KT.put(r:KT H ak xs)(k:List Key)(hb:Tk H b (k.map kV))(ry:RelV y u):
  KT H (putK ak k y) (storedH xs k b u):=by
 have e:(ak.any λkv=>decide (kv.1=k))=(atKey xs k).isSome:=by
  rw[Ie,(r.val k).vt,agg]
 unfold putK storedH;rw[e]
 by_cases q:(atKey xs k).isSome=true
 .rw[if_pos q,if_pos q];exact r.ED k ry
 .rw[if_neg q,if_neg q];exact Paired.snoc r ⟨rfl,hb,ry⟩
theorem KT.keeps(r:KT H ak xs)(ht:∀b (t:mS),H b=some t.ho->H' b=some t.ho):KT H' ak xs:=
 Paired.B9 r λ_ _ z=>⟨z.1,let⟨t,e,g⟩:=z.2.1;⟨t,e,ht _ t g⟩,z.2.2⟩
theorem Qs(ok:eF P w H h)(e:Rd H a u):dM P w H h a u:=e.ok ok
theorem m8(ok:eF P w H h)(e:Rd H a (.dK ak)):ak.length<=sizeLine/\(a==sysModules)=false/\∃vs,KV ak vs/\h.DictOf (gJ P w) a vs:=
 show dM P w H h a (.dK ak) from Qs ok e
theorem Pr(ok:eF P w H h)(e:H a=some (.dK ak)):ak.length<=sizeLine/\(a==sysModules)=false/\∃vs,KV ak vs/\h.DictOf (gJ P w) a vs:=m8 ok (.inl e)
theorem tP{ks:List Key}(ok:eF P w H h)(e:Tk H a (ks.map kV)):(tupleKind (gJ P w)).is h ks a:=by
 have q:dM P w H h a (.tup (ks.map kV)):=by
  obtain⟨t,e1,e2⟩:=e;cases t with
  |tup xs=>cases e1;exact ok a _ e2
  |vX o xs=>cases e1;exact(ok a _ e2).2
  |i8 _ _=>cases e1
  |jD _=>cases e1
 obtain⟨_,ay,r,o,h1,h2,_,n,h3⟩:=q;exact⟨o,ay.toArray,n,h1,h2,h3,by simpa using Ib r⟩
theorem nN(ok:eF P w H h)(e:Rd H a (.dT ak)):ak.length<=sizeLine/\(a==sysModules)=false/\
  ∃xs,KT H ak xs/\h.DictOfH (tupleKind (gJ P w)) a xs:=by
 obtain⟨z,y,xs,r,o,es,ep,h1,h2,h3,h4,h5⟩:=(show dM P w H h a (.dT ak) from Qs ok e)
 refine⟨z,y,xs,r,o,es,ep,h1,h2,h3,h4,λx hx=>?_,h5⟩;have all:∀{l} {m},KT H l m->∀x∈m,(tupleKind (gJ P w)).is h x.1 x.2.1:=by
  intro l m q
  induction q with
  |nil=>intro x hx;exact nomatch hx
  | @cons p q ps qs hq t ih=>
   intro x hx;rcases aaA.mp hx with e|hx
   .subst e;exact tP ok (by rw[<- hq.1];exact hq.2.1)
   .exact ih x hx
 exact all r x hx
theorem aac(ok:eF P w H h)(e:H a=some (.dT ak)):ak.length<=sizeLine/\(a==sysModules)=false/\
  ∃xs,KT H ak xs/\h.DictOfH (tupleKind (gJ P w)) a xs:=nN ok (.inl e)
def gj(H:Hp)(a:Addr)(y:V)(r:Option V):Prop:=
 (∃ak k,Rd H a (.dK ak)/\y=kV k/\r=eX ak k)\/∃ak k b,Rd H a (.dT ak)/\y=.ref b/\Tk H b (k.map kV)/\r=eX ak k
def nR(H:Hp)(a:Addr)(y v:V)(H':Hp):Prop:=
 (∃ak k,H a=some (.dK ak)/\y=kV k/\ak.length<sizeLine/\H'=upd H a (.dK (putK ak k v)))\/
 ∃ak k b,H a=some (.dT ak)/\y=.ref b/\Tk H b (k.map kV)/\ak.length<sizeLine/\H'=upd H a (.dT (putK ak k v))
theorem gj.k{k:Key}(e:H a=some (.dK ak)):gj H a (kV k) (eX ak k):=.inl ⟨ak,k,.inl e,rfl,rfl⟩
theorem gj.t{k:List Key}(e:H a=some (.dT ak))(eb:Tk H b (k.map kV)):gj H a (.ref b) (eX ak k):=.inr ⟨ak,k,b,.inl e,rfl,eb,rfl⟩
theorem nR.k{k:Key}(e:H a=some (.dK ak))(hl:ak.length<sizeLine):nR H a (kV k) v (upd H a (.dK (putK ak k v))):=.inl ⟨ak,k,e,rfl,hl,rfl⟩
theorem nR.t{k:List Key}(e:H a=some (.dT ak))(eb:Tk H b (k.map kV))(hl:ak.length<sizeLine):
  nR H a (.ref b) v (upd H a (.dT (putK ak k v))):=.inr ⟨ak,k,b,e,rfl,eb,hl,rfl⟩
theorem Inv.big(I:Inv X ah σ H s):sysModules<s.heap.objs.size:=by
 have h:=(I.mod.glob.keeps I.bk).lt;exact Nat.lt_trans (by decide) h
theorem afG(hu:A.units+1<cLine)(I:Inv X ah σ H s)(g:gj H a y (some v))(ry:RelV y u)(h:∀w' s',Inv X ah σ H s'->RelV v w'->Q w' s'):
  wpAny (model X.prog X.w) A (getItem (.ref a) u) Q E s:=by
 exists 54
 .subst ey;exists 58;obtain⟨w',hw,fq⟩:=iA.some_of (by rw[l];exact rel.val k);exact wpAny_getItem_of (rC ry) dd.mapOf hw (h w' _ (I.tok _) fq)
 .subst ey;exists 71;obtain⟨z,hd,xs,rel,dd⟩:=nN I.aK e;obtain⟨w',hw,fq⟩:=iA.some_of (by rw[l];exact rel.val k);obtain⟨p,hp,xT⟩:=ach.mp hw;refine wpAny_getItem_heap (af1 hu) (tP I.aK eb) dd hp ?_;rw[xT];exact h w' _ (I.tok _) fq
theorem afk(hu:A.units+1<cLine)(I:Inv X ah σ H s)(g:gj H a y o)(ry:RelV y u)(h:∀s',Inv X ah σ H s'->Q (.bool o.isSome) s'):
  wpAny (model X.prog X.w) A (compareOp .In u (.ref a)) Q E s:=by
 exists 54
 .subst ey;exists 58;refine wpAny_in_of (rC ry) hd dd.mapOf ?_;rw[<- (rel.val k).vt,<- l];exact h _ (I.tok _)
 .subst ey;exists 71;obtain⟨z,hd,xs,rel,dd⟩:=nN I.aK e;refine wpAny_in_heap (af1 hu) (tP I.aK eb) hd dd ?_;have q:=(rel.val k).vt;rw[agg] at q;rw[<- q,<- l];exact h _ (I.tok _)
theorem aeY(hu:A.units+1<cLine)(I:Inv X ah σ H s)(g:gj H a y o)(ry:RelV y u)(h:∀s',Inv X ah σ H s'->Q (.bool (!o.isSome)) s'):
  wpAny (model X.prog X.w) A (compareOp .NotIn u (.ref a)) Q E s:=by
 exists 54
 .subst ey;exists 58;refine wpAny_notIn_of (rC ry) hd dd.mapOf ?_;rw[<- (rel.val k).vt,<- l];exact h _ (I.tok _)
 .subst ey;exists 71;obtain⟨z,hd,xs,rel,dd⟩:=nN I.aK e;refine wpAny_notIn_heap (af1 hu) (tP I.aK eb) hd dd ?_;have q:=(rel.val k).vt;rw[agg] at q;rw[<- q,<- l];exact h _ (I.tok _)
theorem KU(I:Inv X ah σ H s)(mu:x_ (H a))(hs:Heap.SameBut a s.heap h')(he:∃q,h'.get? a=some q)(new:dM X.prog X.w (upd H a ob) h' a ob):
  Inv X ah σ (upd H a ob) { s with heap:=h',toks:=t' }:=
 I.write mu (.inl rfl) (λb q hb z=>(hs.2 b hb).trans z) he new
theorem Ja(z:ak.length<=sizeLine)(hd:(a==sysModules)=false)(rel:KV ak vs)(dd:h'.DictOf (gJ P w) a vs):
  dM P w H' h' a (.dK ak):=⟨z,hd,vs,rel,dd⟩
theorem T3(hu:A.units+1<cLine)(I:Inv X ah σ H s)(g:nR H a y v H')(ry:RelV y u)(rv:RelV v r)(h:∀s',Inv X ah σ H' s'->Q () s'):
  wpAny (model X.prog X.w) A (setItem (.ref a) u r) Q E s:=by
 rcases g with⟨ak,k,e,ey,l,eH⟩|⟨ak,k,b,e,ey,eb,l,eH⟩
 .subst ey eH;obtain⟨z,hd,vs,rel,dd⟩:=Pr I.aK e;have hz:vs.length<=sizeLine:=by rw[<- rel.length];exact z
  have hl:(putK ak k v).length<=sizeLine:=by have:=F0 ak k v;omega
  refine wpAny_setItem_pairs (hsz:=hz) (rC ry) dd λh' qY hs=>h _ ?_
  have he:∃q,h'.get? a=some q:=let⟨q,_,_,hq,_⟩:=qY;⟨q,hq⟩
  exact KU I (by rw[e];exact True.intro) hs he (Ja hl hd (rel.put k rv) qY)
 .subst ey eH;exists 71;obtain⟨z,hd,xs,rel,dd⟩:=aac I.aK e;have hz:xs.length<=sizeLine:=by rw[<- Paired.length rel];exact z
  have hl:(putK ak k v).length<=sizeLine:=by have:=F0 ak k v;omega
  refine wpAny_setItem_heap (hsz:=hz) (af1 hu) (tP I.aK eb) dd λh' qY hs=>h _ ?_
  obtain⟨q,es,ep,hq,h2,h3,h4,_,h5⟩:=qY;refine KU I (by rw[e];exact True.intro) hs ⟨q,hq⟩ ⟨hl,hd,_,(rel.put k eb rv).keeps λc ys ec=>?_,q,es,ep,hq,h2,h3,h4,h5⟩;rw[aP (Uw ec e (by cases ys<;>intro z<;>cases z))];exact ec
theorem Zj(I:Inv X ah σ H s)(e:Rd H a (.dK ak))(h:∀t s',Inv X ah σ H s'->Q (.int ak.length t) s'):wpAny (model X.prog X.w) A (call (.builtin "len") [.ref a]) Q E s:=by
 exists 58;refine call_len_dict hd dd (by rw[<- rel.length];rw[ae6] at z;omega) ?_;rw[<- rel.length];exact h _ _ (I.tok _)
def zA(i:Expr):Prop:=∀ov iv,subscripted i false ov iv=operate [ov,iv] (getItem ov iv)
theorem NX{T id:String}
  (hl:typeLookup (.type T) "__getitem__"=pure (some (.builtin id))) (hs:zA slice)
  (h:wpAny (model prog w) A (eval value env) (λo bS=>wpAny (model prog w) A (eval slice env) (λi qO=>qO.TypeIs o T/\wpAny (model prog w) A (getItem o i) Q E qO) E bS) E s) :
  wpAny (model prog w) A (eval (.Subscript value slice pos) env) Q E s:=by
 refine Subscript_ (ae0 h (λo bS Cd=>ae0 Cd (λi qO II=>?_) λ_ _ x=>x) λ_ _ x=>x);obtain⟨hT,II⟩:=II;unfold subscriptTail;refine abb ?_;rw[getitemInPython_of_ne hT.not_modules];refine abb (wpAny_specialOf hT hl ?_);have fin:wpAny (model prog w) A (subscripted slice false o i) (λr AY=>wpAny (model prog w) A (letTemporaryGo value o r >>= λ_=>pure r) Q E AY) E qO:=by
  rw[hs o i];exact wpAny_operating (ae0 II (λr AY aeT=>abb (wpAny_letTemporaryGo (ac1 aeT))) λ_ _ x=>x)
 first
  |exact ac1 (abb fin)
  |exact abb (ac1 (abb fin))
  |exact abb fin
theorem afA(I:Inv X ah σ H s)(g:gj H a y o):s.TypeIs (.ref a) "dict":=by
 rcases g with⟨ak,k,e,_,_⟩|⟨ak,k,b,e,_,_,_⟩
 .obtain⟨_,_,vs,_,dd⟩:=m8 I.aK e;exact dd.typeIs
 .obtain⟨_,_,xs,_,dd⟩:=nN I.aK e;exact dd.typeIs
def U4(td ty:TE):TE:=λσ H Q=>td σ H λx H1=>ty σ H1 λy H2=>∃a v,x=.ref a/\gj H2 a y (some v)/\Q v H2
def SV(ty td:TE):TE:=λσ H Q=>ty σ H λy H1=>td σ H1 λx H2=>∃a o,x=.ref a/\gj H2 a y o/\Q (.bl o.isSome) H2
def To(ty td:TE):TE:=λσ H Q=>ty σ H λy H1=>td σ H1 λx H2=>∃a o,x=.ref a/\gj H2 a y o/\Q (.bl (!o.isSome)) H2
def Xf(td ty tv:TE):TS:=λD σ H=>tv σ H λv H1=>td σ H1 λx H2=>ty σ H2 λy H3=>∃a H4,x=.ref a/\nR H3 a y v H4/\D.nx σ H4
theorem YW(hu:X.A.units+1<cLine)(ho:PE X o td)(hi:PE X i ty)(hs:zA i):PE X (.Subscript o i pos) (U4 td ty):=by
 exists 44;refine NX PySem.F.slot_dict_getitem.lookup hs (ho.n I h λu s1 x H1 I1 rx q1=>hi.n I1 q1 λiv s2 y H2 I2 ry q=>?_);obtain⟨a,v,ex,g,q2⟩:=q;subst ex;exists 59;exact⟨afA I2 g,afG hu I2 g ry λw' s3 I3 fq=>⟨v,H2,I3,fq,q2⟩⟩
theorem NY(hu:X.A.units+1<cLine)(hi:PE X i ty)(ho:PE X o td):PC X .In i o (SV ty td):=by
 exists 44;refine hi.n I h λiv s1 y H1 I1 ry q1=>ho.n I1 q1 λu s2 x H2 I2 rx q=>?_
 obtain⟨a,ov,ex,g,q2⟩:=q;subst ex;exists 59;exact afk hu I2 g ry λs3 I3=>⟨.bl ov.isSome,H2,I3,rfl,q2⟩
theorem MA(hu:X.A.units+1<cLine)(hi:PE X i ty)(ho:PE X o td):PC X .NotIn i o (To ty td):=by
 exists 44;refine hi.n I h λiv s1 y H1 I1 ry q1=>ho.n I1 q1 λu s2 x H2 I2 rx q=>?_
 obtain⟨a,ov,ex,g,q2⟩:=q;subst ex;exists 59;exact aeY hu I2 g ry λs3 I3=>⟨.bl (!ov.isSome),H2,I3,rfl,q2⟩
theorem w6(hu:X.A.units+1<cLine)(ho:PE X o td)(hi:PE X i ty)(hv:PE X value tv)(hs:swapsWith value (some (.Subscript o i pos')) pos.line X.env=pure false):
  PS X (.Assign [.Subscript o i pos'] value pos) (Xf td ty tv):=by
 exists 45;refine wpAny_Assign_Subscript (hv.n I h λr s1 v H1 I1 rv q1=>ho.n I1 q1 λu s2 x H2 I2 rx q2=>hi.n I2 q2 λiv s3 y H3 I3 ry q=>?_) hs;obtain⟨a,H4,ex,g,q3⟩:=q;subst ex;exists 59;exact T3 hu I3 g ry rv λs4 I4=>⟨σ,H4,I4,q3⟩
theorem Ti(h:Heap)(hb:sysModules<h.objs.size):dM P w H (h.push { cls:=.type "dict",data:=.dict #[] }) h.objs.size (.dK []):=
 ⟨aeK _,adz.mpr (afZ (acX hb)),[],.nil,Heap.DictOf.new h⟩
theorem ac6(h:Heap)(hb:sysModules<h.objs.size):dM P w H (h.push { cls:=.type "dict",data:=.dict #[] }) h.objs.size (.dT []):=
 ⟨aeK _,adz.mpr (afZ (acX hb)),[],.nil,_,#[],0,acC _ rfl,⟨rfl,rfl,rfl⟩,rfl,rfl,acW⟩
def XE:TE:=λ_ H Q=>∀p,H p=none->Q (.ref p) (upd H p (.dK []))
def ab1:TE:=λ_ H Q=>∀p,H p=none->Q (.ref p) (upd H p (.dT []))
theorem acU:PE X (.Dict [] [] pos) XE:=λah s σ H Q I h=>
 wpAny_Dict_empty ⟨.ref s.heap.objs.size,_,I.laid (λ_ _ q=>aax _ q) (abL _) (Ti s.heap I.big),rfl,h _ (I.aK.fresh (abL _))⟩
theorem ae5:PE X (.Dict [] [] pos) ab1:=λah s σ H Q I h=>
 wpAny_Dict_empty ⟨.ref s.heap.objs.size,_,I.laid (a:=s.heap.objs.size) (o:=.dT []) (t':=s.toks) (λ_ _ q=>aax _ q) (abL _) (ac6 s.heap I.big),rfl,h _ (I.aK.fresh (abL _))⟩
structure M1(X:Cx)(o:Expr)(m:Str)(apos:Pos)(e:Expr)(cpos:Pos):Prop where
 base:attributeBase o m X.env (eval o X.env)=eval o X.env
 few:((backTo cpos (starEach [e] X.env)).all (λx=>!x.1)&&(backToKw cpos (keywordEach [] X.env)).all (λx=>x.1.isSome)
  && decide (([e]:List Expr).length+([]:List Keyword).length+(if([]:List Keyword).isEmpty then 0 else 1)<30))=true
 line:(apos.endLine==cpos.line)=true
 trees:backTo cpos (starEach [e] X.env)=[(false,eval e X.env)]
structure M2(X:Cx)(o:Expr)(m:Str)(apos:Pos)(e f:Expr)(cpos:Pos):Prop where
 base:attributeBase o m X.env (eval o X.env)=eval o X.env
 few:((backTo cpos (starEach [e,f] X.env)).all (λx=>!x.1)&&(backToKw cpos (keywordEach [] X.env)).all (λx=>x.1.isSome)
  && decide (([e,f]:List Expr).length+([]:List Keyword).length+(if([]:List Keyword).isEmpty then 0 else 1)<30))=true
 line:(apos.endLine==cpos.line)=true
 trees:backTo cpos (starEach [e,f] X.env)=[(false,eval e X.env),(false,eval f X.env)]
def CP(H:Hp)(a:Addr):Prop:=(∃ak,Rd H a (.dK ak))\/∃ak,Rd H a (.dT ak)
theorem Mp(I:Inv X ah σ H s)(d:CP H a):
  s.TypeIs (.ref a) "dict"/\(∀b,Value.ref a=.ref b->∃ob,s.heap.get? b=some ob/\ob.dict=none)/\(a==sysModules)=false:=by
 rcases d with⟨ak,e⟩|⟨ak,e⟩
 .obtain⟨_,hd,vs,_,dd⟩:=m8 I.aK e;refine⟨dd.typeIs,λb q=>?_,hd⟩;cases q;obtain⟨ob,_,_,h1,h2,_⟩:=dd;exact⟨ob,h1,h2.2.1⟩
 .obtain⟨_,hd,xs,_,dd⟩:=nN I.aK e;refine⟨dd.typeIs,λb q=>?_,hd⟩;cases q;obtain⟨ob,_,_,h1,h2,_⟩:=dd;exact⟨ob,h1,h2.2.1⟩
theorem aa6(hu:A.units+1<cLine)(I:Inv X ah σ H s)(g:gj H a y o)(ry:RelV y u)(h:∀w' s',Inv X ah σ H s'->RelV (o.getD .az) w'->Q w' s'):
  wpAny (model X.prog X.w) A (call (.builtin "dict.get") [.ref a,u]) Q E s:=by
 exists 54
 .subst ey;exists 58;refine call_meetsIn PySem.F.slot_dict_get dd.typeIs PySem.F.entry_dict_get (PySem.F.args_dict_get_2 _ _) (meets_dict_get (gJ X.prog X.w) a (rC ry) hd) ⟨_,dd.mapOf,h _ _ (I.tok _) ?_⟩;rw[l];exact(rel.val k).getD rfl
 .subst ey;exists 71;obtain⟨z,hd,xs,rel,dd⟩:=nN I.aK e;refine call_meetsIn PySem.F.slot_dict_get dd.typeIs PySem.F.entry_dict_get (PySem.F.args_dict_get_2 _ _) (meetsH_dict_get (tupleKind (gJ X.prog X.w)) a b hd) ⟨af1 hu,k,xs,tP I.aK eb,dd,h _ _ (I.tok _) ?_⟩;rw[l];exact(rel.val k).getD rfl
theorem aa3(hu:A.units+1<cLine)(I:Inv X ah σ H s)(g:gj H a y o)(ry:RelV y u)(rd:RelV d r)(h:∀w' s',Inv X ah σ H s'->RelV (o.getD d) w'->Q w' s'):
  wpAny (model X.prog X.w) A (call (.builtin "dict.get") [.ref a,u,r]) Q E s:=by
 exists 54
 .subst ey;exists 58;refine call_meetsIn PySem.F.slot_dict_get dd.typeIs PySem.F.entry_dict_get (PySem.F.args_dict_get_3 _ _ _) (meets_dict_get_default (gJ X.prog X.w) a (rC ry) hd r) ⟨_,dd.mapOf,h _ _ (I.tok _) ?_⟩;rw[l];exact(rel.val k).getD rd
 .subst ey;exists 71;obtain⟨z,hd,xs,rel,dd⟩:=nN I.aK e;refine call_meetsIn PySem.F.slot_dict_get dd.typeIs PySem.F.entry_dict_get (PySem.F.args_dict_get_3 _ _ _) (meetsH_dict_get_default (tupleKind (gJ X.prog X.w)) a b hd r) ⟨af1 hu,k,xs,tP I.aK eb,dd,h _ _ (I.tok _) ?_⟩;rw[l];exact(rel.val k).getD rd
def ad4(td ty:TE):TE:=λσ H Q=>td σ H λx H1=>∃a,x=.ref a/\CP H1 a/\ty σ H1 λy H2=>∃o,gj H2 a y o/\Q (o.getD .az) H2
def abK(td ty tx:TE):TE:=λσ H Q=>td σ H λx H1=>∃a,x=.ref a/\CP H1 a/\ty σ H1 λy H2=>tx σ H2 λz H3=>∃o,gj H3 a y o/\Q (o.getD z) H3
theorem R8(hu:X.A.units+1<cLine)(ho:PE X o td)(he:PE X e ty)(m:M1 X o "get" apos e cpos):PE X (.Call (.Attribute o "get" apos) [e] [] cpos) (ad4 td ty):=by
 exists 44;exists 50;obtain⟨a,ex,d,q1⟩:=q;subst ex;exists 59;obtain⟨t1,t2,_⟩:=Mp I1 d;refine⟨t1,t2,?_⟩;rw[m.trees];refine agH rfl (agP (agJ (cM (he ah s1 σ H1 _ I1 q1) ?_)))
 rintro iv s2 ⟨y,H2,I2,ry,ov,g,q2⟩
 refine Calls.spliced_nil ?_;exact aa6 hu I2 g ry λw' s3 I3 fq=>⟨_,H2,I3,fq,q2⟩
theorem E7(hu:X.A.units+1<cLine)(ho:PE X o td)(he:PE X e ty)(hf:PE X f tx)(m:M2 X o "get" apos e f cpos):PE X (.Call (.Attribute o "get" apos) [e,f] [] cpos) (abK td ty tx):=by
 exists 44;exists 50;obtain⟨a,ex,d,q1⟩:=q;subst ex;exists 59;obtain⟨t1,t2,_⟩:=Mp I1 d;refine⟨t1,t2,?_⟩;rw[m.trees];refine agH rfl (agP (agJ (cM (he ah s1 σ H1 _ I1 q1) λiv s2 ⟨y,H2,I2,ry,q2⟩=>
  agJ (cM (hf ah s2 σ H2 _ I2 q2) λfv s3 ⟨z,H3,I3,rz,ov,g,q3⟩=>Calls.spliced_nil ?_))))
 exact aa3 hu I3 g ry rz λw' s4 I4 fq=>⟨_,H3,I4,fq,q3⟩
theorem VR(I:Inv X ah σ H s)(e:Rd H a (.dK ak))(h:∀p s',H p=none->Inv X ah σ (upd H p (.dK ak)) s'->Q (.ref p) s'):wpAny (model X.prog X.w) A (call (.type "dict") [.ref a]) Q E s:=by
 exists 58;refine kt_call_dict hd dd (by rw[<- rel.length];exact z) λh' qY hs=>?_
 refine h _ _ (I.aK.fresh (abL _)) (I.laid (λb q hq=>?_) (abL _) (Ja z (adz.mpr (afZ (acX I.big))) rel qY));exact(hs.2 b (acX (ab2 hq))).trans (aax _ hq)
end L2
namespace Nd
open PySem PySem.W PySem.Calls PyProof.Rows
theorem abt:∀(ns) (vs),WellAll P h vs (ns.map WData.int)->IntsAre vs ns:=by
 intro ns
 induction ns with
 |nil=>
  intro vs w;rw[agX] at w;cases w;exact .nil
 |cons n ns ih=>
  intro vs w;rw[aao] at w;cases w with
  |cons a b=>
   cases a;exact .cons _ _ (ih _ b)
theorem Xc{l:OpenLaw}(hn:l.most=some n)
  (AO:l.row.toRowW.claim.pre args=true) (Co:WellAll P h vals args) :
  ∃a vs ns,vals=[Value.ref a]/\args=[WData.list (ns.map WData.int)]/\h.get? a=some { cls:=.type "list",data:=.seq vs.toArray }/\IntsAre vs ns/\ns.length<=n:=by
 have hsh:=(pre_splitW AO).1;have hc:l.pre.holds [] { args:=args }=true:=(pre_splitW AO).2;obtain⟨d,r,rfl,h1,h2⟩:=hasAllW_cons hsh;obtain rfl:=hasAllW_nil h2;obtain⟨xs,rfl,h3⟩:=hasW_list h1;obtain⟨ns,rfl⟩:=items_int h3;have hlen:ns.length<=n:=by
  unfold OpenLaw.pre at hc;have h4:(WTm.not (.lt (.lit (.int (n:Int))) (.len (.arg 0)))).holds [] { args:=[.list (ns.map .int)] }=true:=by
   have h4:=(holds_andW hc).1;rw[hn] at h4;exact h4
  have h5:=condW_of h4 (w_not (w_lt w_lit (w_len_list (w_arg rfl))));rw[List.length_map] at h5;refine Nat.le_of_not_lt λq=>?_
  have q':(n:Int)<((ns.length:Nat):Int):=by omega
  first
   |(rw[aaq q'] at h5;exact absurd h5 (by decide))
   |(simp at h5;omega)
 cases Co with
 |cons w1 w2=>
  cases w2;cases w1 with
  |list ho IA=>exact⟨_,_,ns,rfl,rfl,ho,abt ns _ IA,hlen⟩
theorem aaI(l:OpenLaw)(args:List WData):l.row.toRowW.claim.post args (.bool true) args=true:=
 postW_of (r:=l.row.toRowW) (X:=(true==true))
  (show WShape.has [] (.bool true) .bool=true by first|rfl|decide|simp[WShape.has,WShape.arms,WShape.armsAll])
  (show(WTm.eq .res (.lit (.bool true))).value [] { args:=args,res:=some (.bool true),after:=args }=some (.bool (true==true)) from w_eq_bool (w_res rfl) w_lit) rfl
theorem V_{l:OpenLaw}
  (hn:l.most=some n) (yP:d.params.defaults=[])
  (call:∀(w) (eT bS) (mg mb) (fa) (o) (pm cd doc) (a) (vs) (ns),
   Ground q loose [] XP w eT mg mb bS.heap->YP w bS.heap->
   bS.heap.get? fa=some o->o.data=.func (docDef d.name d.params d.body d.scope pm cd doc)->bS.heap.CodeRec cd d.name->mg d.name=some (.ref fa)->
   bS.heap.get? a=some { cls:=.type "list",data:=.seq vs.toArray }->IntsAre vs ns->ns.length<=n->bS.gens=#[]->
   codeAny (model l.prog w) callerA (.call (.ref fa) ⟨[.ref a],[]⟩) (λr s'=>r=.ok (.ret (.bool true))/\OldK bS.heap s'.heap/\s'.os=bS.os/\AllBare s'.gens) bS) :
  WalkO q loose XP YP l.row.toRowW d [] (λf vs=>PySem.call f vs):=by
 intro w eT bS mg mb G Y fa o pm cd doc dV kV ho hd o6 hD zg hg args vals as AO aga nA Co yg;obtain rfl:dV=.none:=Dflts.none hD yP;obtain rfl:kV=.none:=Dflts.noKw hD;obtain⟨a,vs,ns,rfl,rfl,Hw,hints,hlen⟩:=Xc hn AO Co;refine enter_call (codeAny_mono (call w eT bS mg mb fa o pm cd doc a vs ns G Y ho (fd_plain hd) o6 zg Hw hints hlen hg) λr s' hq=>?_);obtain⟨rfl,h2,h3,h4⟩:=hq;exact⟨.inl ⟨.bool true,.bool true,[],rfl,λ_=>rfl,.bool true,aaI l _,λ_=>⟨List.Pairwise.nil,λ_ hm=>(nomatch hm)⟩⟩,h2,h3,h4⟩
end Nd
namespace L2
open PySem PySem.Spec PyProof.Rows
theorem GU:∀{vs} {ns},IntsAre vs ns->aU (ns.map V.int) vs
 |_,_,.nil=>.nil
 |_,_,.cons n t h=>.cons ⟨t,rfl⟩ (GU h)
noncomputable abbrev dF:uu:=λ_ _ _ _ _ _=>False
noncomputable abbrev E0:XK:=λ_ _ _=>False
theorem n_:Passes dF X E0:=λ_ _ _ _ _ _ _ h=>h.elim
structure jR(K:PySem.W.Frag)(x qual:Str)(st:Stmt)(f:Addr)(fd:FuncData):Prop where
 ex:∃(oc:Value) (od:Option Addr) (kV doc pm:Value) (an:Option Addr) (aX ct:Value) (ue:Array (Option Value)),
  fd=PySem.W.fnOf x qual (mD st) (ie st) (cT st) .none kV doc pm an aX ct/\K.lookup f=some ⟨oc,od,.func fd,ue⟩/\PySem.W.codeIn K aX qual=true
 kp:PySem.W.keepIn K (.ref f)=true
section
variable{K:PySem.W.Frag}
theorem jR.ok{st:Stmt}(F:jR K x qual st f fd)(S:qK N ps (cT st))(len:∀vs H Q E,sp vs H Q E->vs.length=ps.length)
  (HN:∀(aX:{c:Value // c=fd.code}) (A) (outer) (s) (H) (vs) (Q) (E),bH k (A.deeper (envOfC qual (cT st) s.heap.objs.size f aX)) cm->sp vs H Q E->
   ∃t,iF (jm dF P w K mg base N qual (cT st) f aX A outer s H E cm).gb (ie st) t/\t { nx:=λ_ H'=>Q .az H',rt:=Q } (start N vs) H):cE P w K mg base dF (k+1) f fd ps sp cm:=by
 obtain⟨oc,od,kV,doc,pm,an,aX,ct,ue,rfl,lk,o6⟩:=F.ex;refine T9 lk o6 S len λA outer s H vs Q E hr qS=>?_
 obtain⟨t,h,q⟩:=HN ⟨aX,rfl⟩ A outer s H vs Q E hr qS;exact⟨t,h.gb,q⟩
theorem jR.binds{st:Stmt}(F:jR K x qual st f fd)
  (h:∀(kV doc pm) (an) (aX ct) (us),us.length=ps.length->bindArgs (PySem.W.fnOf x qual (mD st) (ie st) (cT st) .none kV doc pm an aX ct) ⟨us,[]⟩=pure (ps.zip us)):Binds K fd ps []:=by
 obtain⟨oc,od,kV,doc,pm,an,aX,ct,ue,rfl,lk,o6⟩:=F.ex;exact .all (h kV doc pm an aX ct)
theorem Pz{st:Stmt}{kV doc pm aX ct:Value}(l:K.lookup f=some ⟨oc,od,.func (PySem.W.fnOf x qual (mD st) (ie st) (cT st) .none kV doc pm an aX ct),ue⟩)
  (c:PySem.W.codeIn K aX qual=true) (k:PySem.W.keepIn K (.ref f)=true):jR K x qual st f (PySem.W.fnOf x qual (mD st) (ie st) (cT st) .none kV doc pm an aX ct):=⟨⟨oc,od,kV,doc,pm,an,aX,ct,ue,rfl,l,c⟩,k⟩
end
theorem cH(hr:bH k A cm):A.units+1<cLine:=agp (Nat.add_le_add_left (by decide:1<=64) _) hr.units
theorem BJ(h:n<=1000):n<sizeLine:=agp h (by decide)
theorem aeF{A B:Prop}(h:B):if false=true then A else B:=by
 rw[if_neg abk];exact h
theorem S7{A B:Prop}(h:A):if true=true then A else B:=by
 rw[if_pos rfl];exact h
def aJ(H H':Hp):Prop:=∀b o,H b=some o->H' b=some o
theorem aJ.refl(H:Hp):aJ H H:=λ_ _ h=>h
theorem aJ.trans(a:aJ H H1)(b:aJ H1 H2):aJ H H2:=λc o h=>b c o (a c o h)
theorem aJ.free(e:aJ H H')(h:H' l=Option.none):H l=Option.none:=by
 cases q:H l with
 |none=>rfl
 |some o=>
  rw[e l o q] at h;cases h
theorem V2:g_ X (.builtin "len") (λxs H Q=>∃a ak,xs=[V.ref a]/\H a=some (.dK ak)/\Q (.int ak.length) H):=by
 exists 43;obtain⟨a,ak,rfl,ha,q⟩:=h;obtain⟨u,rfl,ru⟩:=vals1 r;cases ru;exact Zj I (.inl ha) λt s' I'=>⟨.int ak.length,H,I',⟨t,rfl⟩,q⟩
noncomputable def abr(a:Addr)(cls:Value)(de:Option Addr):HO:=.ext λh=>∃oe,h.get? a=some oe/\oe.cls=cls/\(∀dx,de=some dx->oe.dict=some dx/\PySem.W.notCls oe=true)
def G7(ob:Obj)(a:Addr)(cls:Value)(de:Option Addr):HO:=.fM ob (abr a cls de)
noncomputable def Mf(n:Nat)(t:Tok):Str->Option Value:=λy=>if y="slot" then some (.int n t) else none
def MB(dx:Addr)(n:Nat):HO:=.ext λh=>∃t,h.Ns1 dx (Mf n t)
noncomputable def zF(o:Obj):Option Value:=match o.data with
 |.fields vs=>vs[2]?
 |_=>none
def Kd(h h':Heap):Prop:=∀(a:Nat) (o),h.objs[a]? = some o->∃o',h'.objs[a]? = some o'/\o'.dict=o.dict/\zF o'=zF o
theorem Kd.at(k:Kd h h')(e:h.get? a=some o)(e':h'.get? a=some o'):o'.dict=o.dict/\zF o'=zF o:=by
 have raw:∀{h:Heap} {o},h.get? a=some o->h.objs[a]? = some o:=λ{h o} e=>by
  unfold Heap.get? at e
  split at e
  .cases e
  .exact e
 obtain⟨u,q,d⟩:=k a o (raw e);rw[raw e'] at q;cases q;exact d
def abF(h:Heap)(H:Hp)(nw:Addr->Prop)(e:Addr):Option Addr->Prop
 |none=>True
 |some n=>∃oe dx t,h.get? e=some oe/\oe.dict=some dx/\h.Ns1 dx (Mf n t)/\H dx=none/\nw dx
def RY(h:Heap)(H:Hp)(nw:Addr->Prop)(e:Addr)(fP:Option Addr):Prop:=(∃oe,h.get? e=some oe/\zF oe=some .none)/\abF h H nw e fP
structure Vo(h:Heap)(H:Hp)(h0:Heap)(e:Addr)(cls:Value)(fP:Option Addr):Prop where
 py:RY h H (λa=>h0.get? a=none) e fP
 nw:h0.get? e=none
 fr:H e=none
 ob:∃oe vs a0,h.get? e=some oe/\oe.cls=cls/\vs[0]? = some a0/\oe.data=.fields vs/\vs[1]? = some .none
theorem Un.dead(u:Un fs [] H H' h h')(n:h'.get? a=none):h.get? a=none:=by
 cases q:h.get? a with
 |none=>rfl
 |some o=>
  obtain⟨o',e⟩:=u.there a o q (by simp);rw[n] at e;cases e
abbrev XS:=Value->Option Addr->St->Hp->Prop
def aag(X:Cx)(E:XS):Prop:=∀(ah) (σ) (H) (s) (e) (cls) (fP),Inv X ah σ H s->Vo s.heap H X.eT.heap e cls fP->E cls fP σ H->X.xe (.ref e) s
theorem Inv.apart(I:Inv X ah σ H s)(hx:X.ex=[])(n:s.heap.get? x=none):X.eT.heap.get? x=none/\x≠X.env.locals/\(∀y c,X.env.cells.lookup y=some c->c≠x)/\∀p∈X.pn++ah,p.1≠x:=by
 refine⟨?_,λz=>?_,λy c e z=>?_,λp hp z=>?_⟩
 .have u:=I.base;rw[hx] at u;exact u.dead n
 .obtain⟨m,⟨o,_,_,ho,_⟩,_⟩:=I.loc;rw[<- z,n] at ho;cases ho
 .obtain⟨v,o,ho,_⟩:=I.cell y c e;rw[z,n] at ho;cases ho
 .have:=(I.pin p hp).1;rw[z,n] at this;cases this
noncomputable abbrev Apart(X:Cx)(ah:List (Addr×Obj))(a:Addr):Prop:=X.eT.heap.get? a=none/\a≠X.env.locals/\(∀y c,X.env.cells.lookup y=some c->c≠a)/\∀p∈X.pn++ah,p.1≠a
structure PR(X:Cx)(ah:List (Addr×Obj))(σ:St)(H:Hp)(e:Addr)(cls:Value)(fP:Option Addr)(s:Shared):Prop where
 py:RY s.heap H (Apart X ah) e fP
 inv:Inv X ah σ H s
 fr:H e=none
 ap:X.eT.heap.get? e=none/\e≠X.env.locals/\(∀y c,X.env.cells.lookup y=some c->c≠e)/\∀p∈X.pn++ah,p.1≠e
 ob:∃oe vs a0 T oT ts,s.heap.get? e=some oe/\oe.cls=cls/\vs[0]? = some a0/\oe.data=.fields vs/\vs[1]? = some (.ref T)/\T≠e/\H T=none/\(X.eT.heap.get? T=none/\T≠X.env.locals/\(∀y c,X.env.cells.lookup y=some c->c≠T)/\∀p∈X.pn++ah,p.1≠T)/\s.heap.get? T=some oT/\oT.data=.fields ts/\(ts[3]? = some .none\/ts[3]? = some (rawInt X.env.locals))
def zj(X:Cx)(E:XS):Prop:=∀(ah) (σ) (H) (s) (e) (cls) (fP),PR X ah σ H e cls fP s->E cls fP σ H->X.xe (.ref e) s
def QS(X:Cx)(ah:List (Addr×Obj))(σ:St)(E:XK)(e:Value)(s':Shared):Prop:=∃a cls fP H',e=.ref a/\PR X ah σ H' a cls fP s'/\E cls fP H'
abbrev TX:=St->Hp->VK->XK->Prop
def PX(X:Cx)(e:Expr)(t:TX):Prop:=
 ∀(ah) (s) (σ) (H) (Q) (E),Inv X ah σ H s->t σ H Q E->Y1 X X.A (eval e X.env) (EP X ah σ Q) (QS X ah σ E) s
theorem adm(ha:PE X.gb o ta)(I:Inv X ah σ H s)(h:ta σ H Q):
  Y1 X X.A (eval o X.env) (EP X ah σ Q) E' s:=
 ae0 (ha ah s σ H Q (I.kR _) h) (λus s1 ⟨vs,H1,I1,q⟩=>⟨vs,H1,I1.lY,q⟩) λ_ _ z=>False.elim z
theorem Kg(th:zj X ES)(h:QS X ah σ (λcls fP H=>ES cls fP σ H) v s):X.xe v s:=by
 obtain⟨a,cls,fP,H',rfl,L,q⟩:=h;exact th ah σ H' s a cls fP L q
def abg(i:Nat)(ES:XS)(t:TX):TS:=λD σ H=>t σ H (λv H1=>D.nx (σ.set i (some v)) H1) λcls fP H'=>ES cls fP σ H'
theorem Ot(th:zj X ES)(hN:X.N.Nodup)(hi:X.N[i]? = some x)(hx:Loc X.env.scope x)(he:PX X e t)(hs:swapsWith e (some (.Name x pos')) pos.line X.env=pure false:=by rfl)(hf:v6 X x:=by first|exact .inl rfl|exact .inr rfl|assumption):
  PS X (.Assign [.Name x pos'] e pos) (abg i ES t):=by
 exists 45;refine wpAny_Assign_Name (ae0 (he ah s σ H _ _ I h) (?_) λ_ _ z=>Kg th z) hs
 rintro v s1 ⟨y,H1,I1,r1,q1⟩
 exact GA I1 hN hi hx r1 (λs2 I2=>⟨_,H1,I2,q1⟩) hf
def UB(ES:XS)(t:TX):TS:=λD σ H=>t σ H (λ_ H1=>D.nx σ H1) λcls fP H'=>ES cls fP σ H'
theorem Xn(th:zj X ES)(he:PX X e t)(hs:swapsWith e none pos.line X.env=pure false:=by rfl):PS X (.Expr e pos) (UB ES t):=by
 exists 45;refine wpAny_Expr_any (ae0 (he ah s σ H _ _ I h) (?_) λ_ _ z=>Kg th z) I.quiet hs
 rintro v s1 ⟨x,H1,I1,r1,q1⟩
 exact⟨σ,H1,I1,q1⟩
theorem Inv.YB(I:Inv X ah σ H s)(fr:H e=none)(ap:Apart X ah e)(ok:dM X.prog X.w (upd H e u) s.heap e u):Inv X ah σ (upd H e u) s:=by
 obtain⟨a1,a2,a3,a4⟩:=ap;have ne:∀{b} {o},H b=some o->b≠e:=λ{b o} q z=>by rw[z,fr] at q;cases q
 refine⟨I.ok,I.os,I.bare,⟨I.base.keep,I.base.slot,λb o q n hx=>?_,I.base.there,λb xs q=>?_,λb o u q=>?_,λb ps q=>?_⟩,I.loc,I.cell,?_,λx c q=>?_,λp hp=>?_,λb o q=>?_,I.len,I.hq.mono (λb o u q=>by rw[aP (ne q)];exact q) λb t q=>by rw[aP (ne q)];exact q⟩
 .rw[aP λz=>by rw[z,a1] at q;cases q];exact I.base.free b o q n hx
 .have w:=I.base.lP b xs q;rw[aP (ne w)];exact w
 .have w:=I.base.k8 b o u q;rw[aP (ne w)];exact w
 .obtain⟨more,w⟩:=I.base.nQ b ps q;exact⟨more,by rw[aP (ne w)];exact w⟩
 .rw[aP λz=>a2 z.symm];exact I.free
 .rw[aP (a3 x c q)];exact I.jZ x c q
 .obtain⟨p1,p2,p3⟩:=I.pin p hp;exact⟨p1,by rw[aP (a4 p hp)];exact p2,p3⟩
 .by_cases z:b=e
  .subst z;rw[cD] at q;cases q;exact ok
  .rw[aP z] at q;exact(I.aK b o q).nO (λ_ _ _ q=>q) (λc q=>by rw[aP (ne q)];exact q) λc xs q=>by rw[aP (ne q)];exact q
def Ra(H H':Hp)(a:Addr)(cls:Value)(fP:Option Addr):Prop:=∃ob vs,ob.data=.fields vs/\vs[2]? = some .none/\match fP with
 |none=>H'=upd H a (G7 ob a cls none)
 |some n=>∃dx,dx≠a/\H dx=none/\H'=upd (upd H dx (MB dx n)) a (G7 ob a cls (some dx))
theorem Ra.same(k:Ra H H' a cls fP)(fr:H a=none)(q:H b=some o):H' b=some o:=by
 obtain⟨ob,vs,_,_,k⟩:=k;cases fP with
 |none=>subst k;rw[aP (cV q fr)];exact q
 |some n=>obtain⟨dx,ne,d,rfl⟩:=k;rw[aP (cV q fr),aP (cV q d)];exact q
theorem adQ(Iv:Nat->Shared->Prop)
  (turn:∀n s,Iv n s->wpAny (model prog w) A (pyNext it) (λr s1=>match r with
   |none=>R (.ok .next) s1
   | some v=>wpAny (model prog w) A (letOwnedTupleGo tg it v) (λ_ qB=>wpAny (model prog w) A (assign tg env v) (λ_ s2=>
     wpAny (model prog w) A (forIn ifs true λc r=>if r=true then do let ok <- isTrue c env (eval c env);pure (ForInStep.yield ok) else pure (ForInStep.yield r)) (λok s3=>
      if ok=true then wpAny (model prog w) A (eval elt env) (λx s4=>
       wpAny (model prog w) A (call (.builtin "list.append") [acc,x]) (λ_ s5=>∃m,m<n/\Iv m s5) (λ_ _=>False) s4) (λ_ _=>False) s3
      else ∃m,m<n/\Iv m s3) (λ_ _=>False) s2) (λ_ _=>False) qB) (λ_ _=>False) s1) (λ_ _=>False) s)
  (n:Nat) (hn:Iv n s):codeAny (model prog w) A (.compLoop (.ListComp elt [⟨tg,iter,ifs,0⟩] scope pos) 0 it acc env) R s:=by
 have ff:∀{E:Value->Shared->Prop} (x) (s),False->E x s:=λ_ _ f=>f.elim
 refine codeAny_loop rfl Iv (λk s0 hI=>?_) n hn;refine wpAny_noted ?_;rw[compTurn_list];refine abb (wpAny_standAt (abb (ae0 (turn k s0 hI) (λr s1 h1=>?_) ff)));cases r with
 |none=>exact ac1 h1
 |some v=>
  refine abb (ae0 h1 (λ_ qB iB=>abb (ae0 iB (λ_ s2 h2=>abb (ae0 h2 (λok s3 h3=>?_) ff)) ff)) ff);cases ok with
  |false=>exact ac1 ⟨rfl,h3⟩
  |true=>exact abb (abb (ae0 h3 (λx s4 h4=>abb (ae0 h4 (λ_ s5 h5=>ac1 (ac1 ⟨rfl,h5⟩)) ff)) ff))
noncomputable def frees(sc:Scope):List Str:=(sc.names.filter λx=>x.2 == .free).map (·.1)
noncomputable def mH(env:Env):List (Str×NameKind)->List (Str×Addr)->List (Str×Addr)
 |[],cs=>cs
 |(n,k)::r,cs=>mH env r (if k == .free then(n,(env.cells.lookup n).getD 0)::cs else cs)
theorem Mv(h:∀x∈frees sc,∃c,env.cells.lookup x=some c):closureFor sc env=pure (mH env sc.names []):=by
 have key:∀(l) (cs),(∀x∈(l.filter λx=>x.2 == .free).map (·.1),∃c,env.cells.lookup x=some c)->
   (forIn l cs λx r=>(do
    let(name,kind):=x
    if kind == .free then do
     let a <- cellOf env name
     pure (ForInStep.yield ((name,a)::r))
    else pure (ForInStep.yield r):Sem (ForInStep (List (Str×Addr)))))=pure (mH env l cs):=by
  intro l
  induction l with
  |nil=>intro cs _;rfl
  |cons p r ih=>
   obtain⟨n,k⟩:=p;intro cs h;rw[List.forIn_cons]
   by_cases hk:(k==NameKind.free)=true
   .obtain⟨c,hc⟩:=h n (by simp[hk]);have HR:=ih ((n,c)::cs) λx hx=>h x (by simp only[agA,hk,if_true,aao,aaA];exact Or.inr hx)
    have e:cellOf env n=pure c:=by unfold cellOf;rw[hc]
    simp only[hk,if_true,e,pure_bind,mH,hc,agB];exact HR
   .have HR:=ih cs λx hx=>h x (by simp only[agA,hk];exact hx)
    simp only[hk,mH,agq,if_false,pure_bind];exact HR
 unfold closureFor;have k:=key sc.names [] h;simp only[bind_pure] at k ⊢
 first
  |exact k
  |(simp only[pure_bind];exact k)
theorem Q8:∀{l} {cs} {x} {c},(mH env l cs).lookup x=some c->
  cs.lookup x=some c\/((x,NameKind.free)∈l/\c=(env.cells.lookup x).getD 0)
 |[],_,_,_,h=>.inl h
 |(n,k)::r,cs,x,c,h=>by
  rcases Q8 (l:=r) h with q|⟨q,e⟩
  .by_cases hk:(k==NameKind.free)=true
   .rw[if_pos hk,aeg] at q
    by_cases hx:(x==n)=true
    .rw[hx] at q;have e:=eq_of_beq hx;subst e;have Wl:k=.free:=by cases k<;>first|rfl|exact absurd hk (by decide)
     subst Wl;exact .inr ⟨aad,(acf q).symm⟩
    .rw[Bool.not_eq_true] at hx;rw[hx] at q;exact .inl q
   .rw[if_neg hk] at q;exact .inl q
  .exact .inr ⟨aab _ q,e⟩
theorem IL:∀{l} {cs} {x},(∃c,cs.lookup x=some c)\/(x,NameKind.free)∈l->∃c,(mH env l cs).lookup x=some c
 |[],_,_,h=>h.elim id λz=>nomatch z
 |(n,k)::r,cs,x,h=>by
  refine IL (l:=r) ?_;rcases h with⟨c,h⟩|h
  .left
   by_cases hk:(k==NameKind.free)=true
   .rw[if_pos hk,aeg]
    by_cases hx:(x==n)=true
    .rw[hx];exact⟨_,rfl⟩
    .rw[Bool.not_eq_true] at hx;rw[hx];exact⟨c,h⟩
   .rw[if_neg hk];exact⟨c,h⟩
  .rcases aaA.mp h with e|h
   .left
    cases e;rw[if_pos (by decide),aeg,aen];exact⟨_,rfl⟩
   .exact .inr h
def fT(X:Cx)(N:List Str)(sc:Scope)(s3:Shared)(H3:Hp)(fp:List Addr):Cx:=
 { X with N:=N,eT:=s3,v9:=H3,env:=compEnvC sc (mH X.env sc.names []) s3.heap.objs.size X.env,outer:=X.stack,stack:=X.stack,ex:=fp,fn:=λ_=>false,pn:=[],xe:=λ_ _=>False }
noncomputable def l9(js:List (Option Nat))(σ:St):St:=js.map λj=>match j with
 |none=>none
 |some j=>(σ[j]?).join
noncomputable def oW(N:List Str)(sc:Scope):List Str->List (Option Nat)->Bool
 |[],[]=>true
 |x::r,none::js=>oW N sc r js
 |x::r,some j::js=>decide (N[j]? = some x)&&decide (sc.names.lookup x=some .free)&&oW N sc r js
 |_,_=>false
theorem BF:∀{M} {js},oW N sc M js=true->js.length=M.length
 |[],[],_=>rfl
 |_::r,none::js,h=>by
  have:=BF (js:=js) h;simp[this]
 |_::r,some j::js,h=>by
  unfold oW at h;have:=BF ((aaV _ _).mp h).2;simp[this]
 |[],_::_,h=>by cases h
 |_::_,[],h=>by cases h
theorem Jo:∀{M} {js}{i j:Nat} {x},oW N sc M js=true->M[i]? = some x->js[i]? = some (some j)->N[j]? = some x/\sc.names.lookup x=some .free
 |[],_,_,_,_,_,h,_=>by simp at h
 |_::_,[],_,_,_,h,_,_=>by cases h
 |y::r,none::js,0,j,x,h,h1,h2=>by simp at h2
 |y::r,some q::js,0,j,x,h,h1,h2=>by
  simp at h1 h2;subst h1 h2;unfold oW at h;obtain⟨a,b⟩:=(aaV _ _).mp ((aaV _ _).mp h).1;exact⟨aaC a,aaC b⟩
 |y::r,none::js,i+1,j,x,h,h1,h2=>Jo (js:=js) h (by simpa using h1) (by simpa using h2)
 |y::r,some q::js,i+1,j,x,h,h1,h2=>by
  unfold oW at h;exact Jo ((aaV _ _).mp h).2 (by simpa using h1) (by simpa using h2)
structure oS(X:Cx)(M:List Str)(js:List (Option Nat))(sc:Scope):Prop where
 kind:sc.kind=.function
 w_:∀y∈sc.names,y.2≠.cell
 loc:∀y∈sc.names,y.2=.local->sc.names.lookup y.1=some .local
 EG:oW X.N sc M js=true
 free:∀x∈frees sc,X.env.kindOf x=some .cell\/X.env.kindOf x=some .free
 nd:M.Nodup
def Ji(wi:TI)(js:List (Option Nat))(g:TG)(tt:TT)(te:TE):TE:=λσ H Q=>wi σ H λJ H1=>∀D,H1 D=none->
 ∃W:Nat->Nat->St->Hp->Prop,(∃m,W 0 m (l9 js σ) (upd H1 D (.lst [])))/\∀i m aI H',W i m aI H'->
  (J.stop i H'/\Q (.ref D) H')\/(J.go i H'/\∀x H2,J.zJ i H' x H2->g x aI H2 λcZ H3=>tt cZ H3 λb H4=>
   if b=true then te cZ H4 λy H5=>∃xs,H5 D=some (.lst xs)/\xs.length<sizeLine/\∃m',m'<m/\W (i+1) m' cZ (upd H5 D (.lst (xs++[y])))
   else ∃m',m'<m/\W (i+1) m' cZ H4)
def ym(X:Cx)(ifs:List Expr)(t:TT):Prop:=
 ∀(ah) (s) (σ) (H) (Q),Inv X ah σ H s->t σ H Q->
  Y1 X X.A (forIn ifs true λc r=>if r=true then do let ok <- isTrue c X.env (eval c X.env);pure (ForInStep.yield ok) else pure (ForInStep.yield r)) (TP X ah σ Q) X.xe s
theorem UP(h:PT X c t):ym X [c] t:=λah s σ H Q I q=>wpAny_tests_one (h ah s σ H Q I q)
theorem Inv.comp(S:oS X M js sc)(I:Inv X ah σ H3 s3)
  (hf:∀b∈fp,iE X ah H3 b) (cU:∀b∈fp,b<s3.heap.objs.size) (hn:h'.Ns s3.heap.objs.size λ_=>none) (hk:∀b o,s3.heap.get? b=some o->h'.get? b=some o) :
  Inv (fT X M sc s3 H3 fp) [] (l9 js σ) H3 { s3 with heap:=h',toks:=tk }:=by
 have cl:∀{x} {c},(mH X.env sc.names []).lookup x=some c->X.env.cells.lookup x=some c:=λ{x c} e=>by
  rcases Q8 e with q|⟨q,e'⟩
  .cases q
  .obtain⟨c',hc⟩:=I.ok.has x (S.free x (abY.mpr ⟨(x,.free),acO.mpr ⟨q,rfl⟩,rfl⟩));rw[hc] at e' ⊢;rw[e'];rfl
 have kF:=adk I.ok.kF I.sz;have lk:∀{x},sc.names.lookup x=some .free->(relabel sc X.env).names.lookup x=some .cell\/(relabel sc X.env).names.lookup x=some .free:=λ{x} e=>by
  have key:∀(l:List (Str×NameKind)),l.lookup x=some .free->(l.map λ(n,k)=>if(k==NameKind.free&&X.env.scope.kind == .function&&X.env.kindOf n==some .cell) then(n,NameKind.cell) else(n,k)).lookup x=some .cell\/
    (l.map λ(n,k)=>if(k==NameKind.free&&X.env.scope.kind == .function&&X.env.kindOf n==some .cell) then(n,NameKind.cell) else(n,k)).lookup x=some .free:=by
   intro l
   induction l with
   |nil=>intro e;cases e
   |cons p r ih=>
    obtain⟨n,k⟩:=p;intro e;rw[aeg] at e;rw[aao]
    by_cases hx:(x==n)=true
    .rw[hx] at e;have e':=acf e;subst e';dsimp only
     split
     .left;rw[aeg,hx]
     .right;rw[aeg,hx]
    .rw[Bool.not_eq_true] at hx;rw[hx] at e;dsimp only
     split<;>(rw[aeg,hx];exact ih e)
  exact key sc.names e
 have kf:∀{x},((relabel sc X.env).names.lookup x=some .cell\/(relabel sc X.env).names.lookup x=some .free)->(x,NameKind.free)∈sc.names:=λ{x} e=>by
  have key:∀(l:List (Str×NameKind)),(∀y∈l,y.2≠.cell)->((l.map λ(n,k)=>if(k == NameKind.free&&X.env.scope.kind == .function&&X.env.kindOf n == some .cell) then(n,NameKind.cell) else(n,k)).lookup x=some .cell\/
    (l.map λ(n,k)=>if(k==NameKind.free&&X.env.scope.kind == .function&&X.env.kindOf n==some .cell) then(n,NameKind.cell) else(n,k)).lookup x=some .free)->(x,NameKind.free)∈l:=by
   intro l
   induction l with
   |nil=>intro _ e;rcases e with e|e<;>cases e
   |cons p r ih=>
    obtain⟨n,k⟩:=p;intro nc e;rw[aao] at e
    by_cases hx:(x==n)=true
    .have e0:=eq_of_beq hx;subst e0;have YH:k=.free:=by
      exists 68
      split at e
      .rename_i hc;have:=((aaV _ _).mp ((aaV _ _).mp hc).1).1;cases k<;>first|rfl|exact absurd this (by decide)
      .rw[aeg,aen] at e;rcases e with e|e
       .exact absurd (acf e) (nc _ aad)
       .exact acf e
     rw[YH];exact aad
    .rw[Bool.not_eq_true] at hx;refine aab _ (ih (λy hy=>nc y (aab _ hy)) ?_);dsimp only at e
     split at e<;>(rw[aeg,hx] at e;exact e)
  exact key sc.names S.w_ e
 refine⟨⟨I.ok.mod,S.kind,I.ok.glob,I.ok.blt,abL _,λx y c h1 h2=>I.ok.inj x y c (cl h1) (cl h2),λx hx=>IL (.inr (kf hx)),(λx c h _=>by cases h),I.ok.hd,I.ok.frames,.inl rfl,λb hb=>⟨acX (cU b hb),λx c e=>(hf b hb).2.2.2.2.1 x c (cl e)⟩,
   I.bs,kF,λb o e hb=>?_,λb hb yG=>?_,I.stack,I.GX⟩,
  rfl,I.bare,Un.kept hk,⟨_,hn,λi x v h1 h2 h3=>?_⟩,λx c e=>?_,I.aK.fresh (abL _),λx c e=>I.jZ x c (cl e),λp hp=>absurd (show p∈([]:List (Addr×Obj)) from hp) (by simp),I.aK.kept hk,?_,I.hq⟩
 .rcases(hf b hb).2.2.2.1 with z|z
  .exact I.ok.vE b o e z
  .exact absurd (ac3 (ab2 e) (adk I.ok.kF z)) (afe _)
 .rcases aaA.mp (I.Fx b yG) with z|z
  .exact(hf b hb).2.1 z
  .exact(hf b hb).2.2.1 z
 .have hlen:=BF S.EG;have hi:i<js.length:=by rw[hlen];exact(abP.mp h1).1
  unfold l9 at h2;rw[acn,aa9 hi,Option.map_some] at h2;exists hj,js[i],j,h2;have nh:(σ[j]?).join=some v:=acf h2;obtain⟨a,b⟩:=Jo S.EG h1 (by rw[aa9 hi,hj]);have hs:σ[j]? = some (some v):=by
   exists q,σ[j]?,z,nh;rw[show z=some v from nh]
  have LJ:=S.free x (abY.mpr ⟨(x,.free),acO.mpr ⟨PySem.mem_of_lookup b,rfl⟩,rfl⟩);obtain⟨m,hm,hl⟩:=I.loc;obtain⟨u,ru,l⟩:=hl j x v a hs (LJ.elim (λz=>.inr (.inl z)) λz=>.inr (.inr z));refine⟨u,ru,.inr ⟨lk b,?_⟩⟩;rcases l with⟨k,_⟩|⟨_,c,e,hc⟩
  .rcases LJ with z|z<;>(rw[z] at k;cases k)
  .obtain⟨c',sJ⟩:=IL (.inr (PySem.mem_of_lookup b));have e':=cl sJ;rw[e] at e';have e2:=acf e';subst e2;obtain⟨o,ho,hd⟩:=hc;exact⟨c,sJ,o,hk _ _ ho,hd⟩
 .obtain⟨v,o,ho,hd⟩:=I.cell x c (cl e);exact⟨v,o,hk _ _ ho,hd⟩
 .unfold l9;rw[List.length_map];exact BF S.EG
theorem Inv.KZ(I:Inv X ah σ H3 s3)(hf:∀b∈fp,iE X ah H3 b)
  (J:Inv (fT X M sc s3 H3 fp) Pq aI H' s') (hs:Heap.SameBut s3.heap.objs.size s'.heap h'):Inv X ah σ H' { s' with heap:=h' }:=by
 have B:=J.base;have ne:∀{b} {o},s3.heap.get? b=some o->b≠s3.heap.objs.size:=λe=>acX (ab2 e)
 have B':Un (eV X.stack) fp H3 H' s3.heap h':=⟨λb o e n hb hx=>(hs.2 b (ne e)).trans (B.keep b o e n hb hx),λb o e n hb hx=>let⟨sl,q⟩:=B.slot b o e n hb hx;⟨sl,(hs.2 b (ne e)).trans q⟩,B.free,
  λb o e hx=>let⟨o',q⟩:=B.there b o e hx;⟨o',(hs.2 b (ne e)).trans q⟩,B.lP,B.k8,B.nQ⟩
 have fr:H' s3.heap.objs.size=none:=J.free;refine I.afJ J.os B' (λb u e=>?_) J.bare λb hb=>⟨(hf b hb).2.2.2.1,(hf b hb).2.1,(hf b hb).2.2.2.2.1,(hf b hb).2.2.2.2.2⟩
 refine(J.aK b u e).nO (λc v hc q=>(hs.2 c ?_).trans q) (λ_ q=>q) λ_ _ q=>q
 rintro rfl
 rcases hc with rfl|hc
 .rw[fr] at e;cases e
 .rw[fr] at hc;cases hc
theorem K4
  {Q:VK}{RR:Value->Addr->Result->Shared->Prop} (S:oS X M js sc) (hc:X.calm=true\/J.rg=true) (I2:Inv X ah σ H2 s2) (T:Turn X.prog X.w X.K tg J fp it tn) (st:tn 0 s2.heap) (hf:∀b∈fp,iE X ah H2 b)
  (hb:∀s3 H3 fp,PG (fT X M sc s3 H3 fp) tg g/\ym (fT X M sc s3 H3 fp) ifs tt/\PE (fT X M sc s3 H3 fp) elt te)
  (h:∀D,H2 D=none->∃W:Nat->Nat->St->Hp->Prop,(∃m,W 0 m (l9 js σ) (upd H2 D (.lst [])))/\∀i m aI H',W i m aI H'->
   (J.stop i H'/\Q (.ref D) H')\/(J.go i H'/\∀x H2,J.zJ i H' x H2->g x aI H2 λcZ H3=>tt cZ H3 λb H4=>
    if b=true then te cZ H4 λy H5=>∃xs,H5 D=some (.lst xs)/\xs.length<sizeLine/\∃m',m'<m/\W (i+1) m' cZ (upd H5 D (.lst (xs++[y])))
    else ∃m',m'<m/\W (i+1) m' cZ H4))
  (hR:∀D s3 H3 s' aI H',Inv X ah σ H3 s3->(∀b∈fp,iE X ah H3 b)->Inv (fT X M sc s3 H3 fp) [] aI H' s'->Q (.ref D) H'->RR (.ref D) s3.heap.objs.size (.ok .next) s') :
  Y1 X X.A (newList []) (λacc AY=>Y1 X X.A (newFunctionEnv sc X.env.globals (mH X.env sc.names []) [] X.env.qual none .none (some X.env)) (λQ6 ad6=>
   codeAny (model X.prog X.w) X.A (.compStart (.ListComp elt [⟨tg,iter,ifs,0⟩] sc pos) 0 (.ref it) acc { Q6 with scope:=relabel sc X.env }) (RR acc Q6.locals) ad6) X.xe AY) X.xe s2:=by
 have aaZ:=I2.aK.fresh (abL _);obtain⟨W,⟨m0,w0⟩,turn⟩:=h _ aaZ;have I3:Inv X ah σ (upd H2 s2.heap.objs.size (.lst [])) { s2 with heap:=s2.heap.push { cls:=.type "list",data:=.seq ([]:List Value).toArray } }:=
  I2.laid (λ_ _ q=>aax _ q) (abL _) ⟨aeK _,[],0,.nil,acC _ rfl⟩
 have J5:∀b∈fp,b<s2.heap.objs.size:=λb hb=>let⟨_,e,_⟩:=T.obj _ _ st b hb;ab2 e
 have EE:∀b∈fp,iE X ah (upd H2 s2.heap.objs.size (.lst [])) b:=λb hb=>⟨by rw[aP (acX (J5 b hb))];exact(hf b hb).1,(hf b hb).2⟩
 have hsz:(s2.heap.push { cls:=.type "list",data:=.seq ([]:List Value).toArray }).objs.size=s2.heap.objs.size+1:=agG ..;refine agL (wpAny_newFunctionEnv S.w_ (λy hy=>nomatch hy) (λh1 C0 Y9=>?_) S.kind);generalize Ba:({ s2 with heap:=s2.heap.push { cls:=.type "list",dict:=none,data:=.seq ([]:List Value).toArray } }:Shared)=s3 at *;have OZ:∀b o,s3.heap.get? b=some o->h1.get? b=some o:=λb o e=>(Y9.2 b (acX (ab2 e))).trans (aax _ e)
 have Px:∀b∈fp,b<s3.heap.objs.size:=λb hb=>by rw[<- Ba];show b<(s2.heap.push _).objs.size;rw[hsz];exact ag5 (J5 b hb)
 have I4:Inv (fT X M sc s3 (upd H2 s2.heap.objs.size (.lst [])) fp) [] (l9 js σ) (upd H2 s2.heap.objs.size (.lst [])) { s3 with heap:=h1,toks:=s3.toks+([]:List (Str×Value)).length }:=I3.comp S EE Px C0 OZ;obtain⟨hg,ht,he⟩:=hb s3 (upd H2 s2.heap.objs.size (.lst [])) fp;have tK:∀{H'},(∀b∈fp,H' b=none)->∀b∈fp,iE (fT X M sc s3 (upd H2 s2.heap.objs.size (.lst [])) fp) [] H' b:=λ{H'} hn b hb=>
  ⟨hn b hb,acX (Px b hb),I4.ok.vR b hb,.inl hb,(I4.ok.zV b hb).2,λp hp=>absurd (show p∈([]:List (Addr×Obj)) from hp) (by simp)⟩
 have Po:=T.keep _ _ _ st λb hb o e=>OZ b o (by rw[<- Ba];exact aax _ e)
 have W_:∀b∈fp,upd H2 s2.heap.objs.size (.lst []) b=none:=λb hb=>(EE b hb).1
 have loop:codeAny (model X.prog X.w) X.A (.compLoop (.ListComp elt [⟨tg,iter,ifs,0⟩] sc pos) 0 (.ref it) (.ref s2.heap.objs.size) (compEnvC sc (mH X.env sc.names []) s3.heap.objs.size X.env)) (RR (.ref s2.heap.objs.size) s3.heap.objs.size)
   { s3 with heap:=h1,toks:=s3.toks+([]:List (Str×Value)).length }:=by
  refine adQ (λn s'=>∃i aI H',Inv (fT X M sc s3 (upd H2 s2.heap.objs.size (.lst [])) fp) [] aI H' s'/\tn i s'.heap/\(∀b∈fp,H' b=none)/\W i n aI H') ?_ m0 ⟨0,_,_,I4,Po,W_,w0⟩
  rintro n s5 ⟨i,AX,H5,I5,vp,mK,w5⟩
  rcases turn i n AX H5 w5 with⟨stop,q⟩|⟨go,step⟩
  .refine cM (T.done (fT X M sc s3 (upd H2 s2.heap.objs.size (.lst [])) fp) rfl rfl rfl hc i [] s5 AX H5 _ I5 (tK mK) vp stop) ?_
   rintro r s6 ⟨hr,I6⟩
   subst hr;exact hR _ _ _ _ _ _ I3 EE I6 q
  .refine cM (T.item (fT X M sc s3 (upd H2 s2.heap.objs.size (.lst [])) fp) rfl rfl rfl hc i [] s5 AX H5 _ I5 (tK mK) vp go) ?_
   rintro r s6 ⟨u,hr,h6⟩
   subst hr;refine cM h6 ?_
   rintro _ s7 ⟨x,H7,I7,r7,y7,C7,WL⟩
   have YV:=I7.pinned (tK WL) (T.obj _ _ C7);have back:∀{qZ} {H8} {s8},Inv (fT X M sc s3 (upd H2 s2.heap.objs.size (.lst [])) fp) ([]++xG fp s7.heap) qZ H8 s8->tn (i+1) s8.heap/\(∀b∈fp,H8 b=none):=λ{qZ H8 s8} I8=>
    ⟨T.keep _ _ _ C7 λb hb o e=>(I8.pin (b,o) (aas _ (aas _ (Bl hb e)))).1,λb hb=>by
     obtain⟨o,e,_⟩:=T.obj _ _ C7 b hb;exact(I8.pin (b,o) (aas _ (aas _ (Bl hb e)))).2.1⟩
   refine cM (hg _ s7 AX H7 x u _ YV r7 (step x H7 y7)) ?_
   rintro _ s8 ⟨qZ,H8,I8,q8⟩
   refine Jx (ht _ s8 qZ H8 _ I8 q8) λok s9 H9 I9 q9=>?_
   cases ok with
   |false=>
    rw[if_neg abk] at q9 ⊢;obtain⟨m',hm,w9⟩:=q9;obtain⟨a9,b9⟩:=back I9;exact⟨m',hm,i+1,qZ,H9,I9.wW,a9,b9,w9⟩
   |true=>
    rw[if_pos rfl] at q9 ⊢;refine cM (he _ s9 qZ H9 _ I9 q9) λy iC hq=>?_
    obtain⟨yv,Py,I10,Zw,xs,hD,hz,m',hm,w10⟩:=hq;refine Fb (BB _ iC qZ Py (.ref s2.heap.objs.size) [yv] (.ref s2.heap.objs.size) [y] (λv Lz=>v=.az/\Lz=upd Py s2.heap.objs.size (.lst (xs++[yv]))) I10 rfl (.cons Zw .nil) ⟨_,xs,yv,rfl,rfl,hD,hz,rfl,rfl⟩) λ_ jd v11 Lz L4 _ q=>?_
    obtain⟨_,Kf⟩:=q;subst Kf;obtain⟨a9,b9⟩:=back L4;exact⟨m',hm,i+1,qZ,_,L4.wW,a9,b9,w10⟩
 exact codeAny_compStart_list loop (T.self _ 0 _ _ _ Po loop)
theorem abS{g:TG}(S:oS X M js sc)(hc:X.calm=true)(hi:PI X tg iter wi)
  (hb:∀s3 H3 fp,PG (fT X M sc s3 H3 fp) tg g/\ym (fT X M sc s3 H3 fp) ifs tt/\PE (fT X M sc s3 H3 fp) elt te) (hs:∀x,foldedSetIterable iter X.env x=pure x:=by intro _;rfl) :
  PE X (.ListComp elt [⟨tg,iter,ifs,0⟩] sc pos) (Ji wi js g tt te):=by
 exists 44;rw[eval_ListComp];refine wpAny_comprehension_free rfl hs (Mv λx hx=>I.ok.has x (S.free x hx)) S.kind S.loc ?_;refine cM (hi ah s σ H _ I h) λv s1 h1=>cM h1 λBR s2 hq=>?_
 obtain⟨it,fp,tn,J,H2,e,I2,T,sM,f2,h2⟩:=hq;subst e;refine K4 S (.inl hc) I2 T sM f2 hb h2 λD s3 H3 s' aI H' I3 f3 J' q=>?_
 obtain⟨m,hm,_⟩:=J'.loc;exact⟨m,hm,λh' bR=>⟨.ref D,H',I3.KZ f3 J' bR,rfl,q⟩⟩
theorem afn(hN:X.N.Nodup)(hy:X.N[i]? = some y)(hl:X.env.scope.names.lookup y=some .local)
  (S:oS X M js sc) (hc:X.calm=true) (hi:PI X tg iter wi) (hb:∀s3 H3 fp,PG (fT X M sc s3 H3 fp) tg g/\ym (fT X M sc s3 H3 fp) ifs tt/\PE (fT X M sc s3 H3 fp) elt te)
  (iY:swapsWith (.ListComp elt [⟨tg,iter,ifs,0⟩] sc pos) (some (.Name y py)) Eu.line X.env=pure true:=by rfl) (hs:∀x,foldedSetIterable iter X.env x=pure x:=by intro _;rfl) :
  PS X (.Assign [.Name y py] (.ListComp elt [⟨tg,iter,ifs,0⟩] sc pos) Eu) (Ol (Ji wi js g tt te) (Aj i)):=by
 exists 45;rw[exec_Assign_Name_used _ _ _ _ iY];refine abb (wpAny_standAt (abb ?_));refine abb (ae0 (wpAny_comprehension_free rfl hs (Mv λx hx=>I.ok.has x (S.free x hx)) S.kind S.loc ?_) (λ_ s' q=>ac1 (ac1 q)) λ_ _ e=>e);refine cM (hi ah s σ H _ I h) λv s1 h1=>cM h1 λBR s2 hq=>?_
 obtain⟨it,fp,tn,J,H2,e,I2,T,sM,f2,h2⟩:=hq;subst e;refine K4 (Q:=λx H1=>Aj i x σ H1 D.nx) S (.inl hc) I2 T sM f2 hb h2 λDa s3 H3 s' aI H' I3 f3 J' q=>?_
 have sb:Heap.SameBut s3.heap.objs.size s'.heap s'.heap:=⟨rfl,λ_ _=>rfl⟩
 have I5:=I3.KZ f3 J' sb;obtain⟨m,hm,_⟩:=J'.loc;have ne:=acX I3.lt;refine wpAny_assign_Name (R5 I5 hN hy (.inl hl) (show RelV (.ref Da) (.ref Da) from rfl) (λs6 I6 ⟨a,GY,ha⟩=>?_) (.inr hl));have oq:∀x c,X.env.cells.lookup x=some c->c≠s3.heap.objs.size:=λx c e=>by
  obtain⟨v',jP⟩:=I3.cell x c e;exact acX jP.lt
 have na:=ha.elim (λe=>by rw[e];exact ne) λz=>oq y a z
 refine⟨m,hm.sameBut GY (afZ na),λh' bR=>⟨_,H',I6.turned (λb o hb e=>(bR.2 b hb).trans e) J'.free (afZ ne) (.inr I3.sz) oq (λp hp=>?_),q⟩⟩;exact acX (ab2 (I3.pin p hp).1)
theorem adV:typeLookup (.type "dict") "__len__"=pure (some (.builtin "dict.__len__")):=by rw[typeLookup_type,builtinLookup_eq_fast];kernel_rfl
section
variable{prog:Program}{w:World}{A:Around}{E:Value->Shared->Prop}{s:Shared}
theorem Yc{κ:Type}[DecidableEq κ]{knd:KeyKind prog w κ}{ak:List (κ×Value)}{Q:List Value->Shared->Prop}(hh:A.handled=none)(hd:(d==sysModules)=false)(hm:s.heap.DictOf knd d ak)(hz:ak.length<=sizeLine)
  (hQ:∀s' acc,s.heap.objs.size<=s'.heap.objs.size->(∀b o,s.heap.get? b=some o->s'.heap.get? b=some o)->s'.gens=s.gens->s'.drawn=s.drawn->s'.os=s.os->ItemsOf (λi v=>∃k x,ak[i]? = some (k,x)/\knd.is k v=true) acc ak.length->Q acc.toList s') :
  wpAny (model prog w) A (collect (.ref d)) Q E s:=by
 obtain⟨ep,hm⟩:=hm.dictAt;have cU:=hm.lt_size;unfold collect;refine abb (wpAny_runValue (agh F.entry_proto_collect ?_));rw[af4 F.plain_proto_collect _];refine abb (agL ?_);refine ac1 ⟨agz F.plain_list_iadd _,agh F.entry_list_iadd ?_⟩;rw[af4 F.plain_list_iadd _];have oB:=hm.push { cls:=.type "list",data:=.seq ([]:List Value).toArray };have hT1:({ s with heap:=s.heap.push { cls:=.type "list",data:=.seq ([]:List Value).toArray } }:Shared).TypeIs (.ref d) "dict":=oB.dictOf.typeIs;show wpAny (model prog w) A.in1 (Builtin.List.listExtendWith (.ref s.heap.objs.size) (.ref d) (.ref s.heap.objs.size)) _ _ _;unfold Builtin.List.listExtendWith;refine abb (wpAny_typeOf hT1 ?_);have h1:Builtin.List.listSameRef (.ref s.heap.objs.size) (.ref d)=false:=by simp[Builtin.List.listSameRef,af5 cU]
 have h2:(Value.type "dict" == Value.type "list")=false:=by decide
 have h3:(Value.type "dict" == Value.type "tuple")=false:=by decide
 simp only[h1,h2,h3,Bool.or_false,agq,if_false];refine abb (wpAny_pyIter_dict hd oB ?_);refine abb (agn ?_);have vB:=oB.push { cls:=.type "dict_keyiterator",data:=.fields #[.ref d,.int 0 0,.int ak.length 0,.int ep 0] };have Fd:({ s with heap:=(s.heap.push { cls:=.type "list",data:=.seq ([]:List Value).toArray }).push { cls:=.type "dict_keyiterator",data:=.fields #[.ref d,.int 0 0,.int ak.length 0,.int ep 0] } }:Shared).TypeIs (.ref d) "dict":=vB.dictOf.typeIs;unfold Builtin.List.listLengthHint;refine abb (wpAny_specialOf Fd adV ?_);generalize G4:("dict.__len__":String)=Ro
 (fail_if_success (clear G4 Ro))
 wp_delta
 rw[show splitId Ro=some ("dict","__len__") from by subst G4;decide +kernel];subst G4;refine abb (wpAny_isInstance (b:=true) Fd (by rw[isSubtype_type];kernel_rfl) ?_);refine abb (wpAny_typeOf Fd ?_);refine ac1 ?_;refine abb (wpAny_rule ?_);have hsz:(s.heap.push { cls:=.type "list",data:=.seq ([]:List Value).toArray }).objs.size=s.heap.objs.size+1:=agG ..;generalize yD:s.heap.push { cls:=.type "list",data:=.seq ([]:List Value).toArray }=h1 at *;have hS1:h1.get? s.heap.objs.size=some { cls:=.type "list",data:=.seq ([]:List Value).toArray }:=by rw[<- yD];exact acC _ rfl
 have aba:∀b o,s.heap.get? b=some o->h1.get? b=some o:=λb o e=>by rw[<- yD];exact aax _ e
 dsimp only;have hI2:(h1.push { cls:=.type "dict_keyiterator",data:=.fields #[.ref d,.int 0 0,.int ak.length 0,.int ep 0] }).get? h1.objs.size=some { cls:=.type "dict_keyiterator",data:=.fields #[.ref d,.int 0 0,.int ak.length 0,.int ep 0] }:=acC _ rfl;have Mq:(h1.push { cls:=.type "dict_keyiterator",data:=.fields #[.ref d,.int 0 0,.int ak.length 0,.int ep 0] }).get? s.heap.objs.size=some { cls:=.type "list",data:=.seq ([]:List Value).toArray }:=aax _ hS1;have WY:∀b o,s.heap.get? b=some o->(h1.push { cls:=.type "dict_keyiterator",data:=.fields #[.ref d,.int 0 0,.int ak.length 0,.int ep 0] }).get? b=some o:=λb o e=>aax _ (aba b o e)
 generalize hh2:h1.push { cls:=.type "dict_keyiterator",data:=.fields #[.ref d,.int 0 0,.int ak.length 0,.int ep 0] }=h2 at *;have Ly:s.heap.objs.size≠h1.objs.size:=by rw[hsz];exact acX (agl _)
 have R6:=af5 cU;have Yz:d≠h1.objs.size:=by rw[hsz];exact acX (ag5 cU)
 refine abb ?_;refine abb (ag3 Mq rfl ?_);have OJ:=ago (Obj.mapSeq (·.push Value.none)) Mq rfl;refine ag3 OJ rfl ?_;have Ve:=ago (Obj.mapSeq (·.pop)) OJ rfl;have D5:∀b o,b≠s.heap.objs.size->h2.get? b=some o->((h2.update s.heap.objs.size (Obj.mapSeq (·.push Value.none))).update s.heap.objs.size (Obj.mapSeq (·.pop))).get? b=some o:=
  λb o hb e=>(ad9 _ _ (afZ hb)).trans ((ad9 _ _ (afZ hb)).trans e)
 have W:=(Walks.dictKeys (A:=A.in1) (knd:=knd) hh h1.objs.size d Yz ak ep).toS;refine ac1 ⟨agz F.plain_extend_loop _,codeAny_extend_loopS W hz s.heap.objs.size (by simp;exact⟨Ly,R6⟩) _ ak.length 0 _ _ _ rfl (aeK _) ?_ Ve (ItemsOf.nil _) λs' ae4 c' BD ON SQ=>?_⟩
 .exact⟨⟨_,D5 _ _ (afZ Ly) hI2,rfl,rfl⟩,vB.at' λo e=>D5 _ _ (afZ R6) e⟩
 .show wpAny (model prog w) A (load s.heap.objs.size >>= _) _ _ s';refine abb (wpAny_load ON ?_);refine ac1 (hQ s' ae4 (afY (ab2 ON)) (λb o e=>?_) BD.gens BD.drawn BD.os SQ);have hb:=ab2 e;refine BD.heap b o ?_ (D5 b o (acX hb) (WY b o e));intro m;rcases aaA.mp m with z|z
  .exact absurd hb (by rw[z];exact afe _)
  .have z:=aaU.mp z;rw[hsz] at z;exact absurd hb (by rw[z];exact Nat.not_lt.mpr (Nat.le_succ _))
theorem S_{x:Value}{Q:Value->Shared->Prop}(hc:∀(Q':List Value->Shared->Prop),(∀vs s',(∃ns,IntsAre vs ns/\∀(out:Array Value) (eY:List Int),IntsAre out.toList eY->eY.Perm ns->eY.Pairwise (·<=·)->
    Q (.ref s'.heap.objs.size) { s' with heap:=sortedHeap (s'.heap.push (seqObj "list" vs.toArray 0)) s'.heap.objs.size vs out })/\vs.length<64->Q' vs s')->wpAny (model prog w) A.in1 (collect x) Q' E s):wpAny (model prog w) A (call (.builtin "sorted") [x]) Q E s:=by
 refine call_function_tree kind_sorted plain_sorted entry_sorted (args_sorted1 _) ?_;unfold Builtin.«sorted»;refine abb (ac1 ?_);refine abb (hc _ ?_)
 rintro vs s' ⟨⟨ns,hI,h⟩,l5⟩
 refine abb (wpAny_newList ?_);have Av:(s'.heap.push (seqObj "list" vs.toArray 0)).get? s'.heap.objs.size=some (seqObj "list" vs.toArray 0):=acC _ rfl;refine abb (agn (wpAny_call_entry slot_list_sort ⟨_,Av,rfl⟩ entry_list_sort (list_sort_tree Av hI l5 λout eY a1 a2 a3=>⟨_,rfl,?_⟩) (args_list_sort _)));exact ac1 (h out eY a1 a2 a3)
end
section
variable{X:Cx}
theorem L5:∀{ks:List Int}{ak:List (Key×Value)}{vs:List Value},ak.map (·.1)=ks.map Sum.inl->vs.length=ak.length->(∀(i:Nat) v,vs[i]? = some v->∃k x,ak[i]? = some (k,x)/\(gJ P w).is k v=true)->IntsAre vs ks
 |[],[],vs,_,hl,_=>by cases vs with
  |nil=>exact .nil
  |cons _ _=>simp at hl
 |[],_::_,_,e,_,_=>by simp at e
 |_::_,[],_,e,_,_=>by simp at e
 |k::ks,(q,x)::ak,vs,e,hl,h=>by
  simp only[aao,af2] at e;obtain⟨rfl,e⟩:=e;cases vs with
  |nil=>simp at hl
  |cons v vs=>
   obtain⟨k',x',e0,hk⟩:=h 0 v rfl;have e0':=acf e0;cases e0';rcases nV (show sP (Sum.inl k) v=true from hk) with⟨i,t,e1,e2⟩|⟨y,t,e1,e2⟩
   .cases e1;subst e2;exact .cons k t (L5 e (by simpa using hl) λi v hv=>h (i+1) v (by simpa using hv))
   .cases e1
def Ky(K:PySem.W.Frag):List V->Hp->VK->Prop:=λxs H Q=>∃(p:Addr) (ks:List Int),xs=[.ref p]/\ks.length<64/\((∃ak:List (Key×V),H p=some (.dK ak)/\ak.map (·.1)=ks.map Sum.inl)\/bX K H p (ks.map V.int))/\
 ∀(l:Addr) (oz:List Int),H l=none->oz.Perm ks->oz.Pairwise (·<=·)->Q (.ref l) (upd H l (.lst (oz.map V.int)))
theorem aeE(hc:X.calm=true):g_ X (.builtin "sorted") (Ky X.K):=by
 exists 43;obtain⟨p,ks,rfl,l5,Dc,q⟩:=h;obtain⟨u,rfl,ru⟩:=vals1 r;cases ru;have fin:∀(vs:List Value) (s':Shared),s.heap.objs.size<=s'.heap.objs.size->(∀b o,s.heap.get? b=some o->s'.heap.get? b=some o)->s'.gens=s.gens->s'.drawn=s.drawn->s'.os=s.os->∀(out:Array Value) (eY:List Int),IntsAre out.toList eY->eY.Perm ks->eY.Pairwise (·<=·)->
   EP X ah σ Q (.ref s'.heap.objs.size) { s' with heap:=sortedHeap (s'.heap.push (seqObj "list" vs.toArray 0)) s'.heap.objs.size vs out }:=by
  intro vs s' hle hk e1 e2 e3 out eY a1 a2 a3;obtain⟨h',g',d',t',o'⟩:=s';dsimp only at e1 e2 e3 hk hle;subst e1 e2 e3;obtain⟨e,he⟩:=sortedHeap_at (show(h'.push (seqObj "list" vs.toArray 0)).get? h'.objs.size=some (seqObj "list" vs.toArray 0) from acC _ rfl);have hlen:eY.length<64:=by rw[a2.length_eq];exact l5
  refine⟨.ref h'.objs.size,upd H h'.objs.size (.lst (eY.map V.int)),I.laid (λb o eb=>?_) hle ?_,rfl,q _ eY (I.aK.fresh hle) a2 a3⟩
  .have hb:b<h'.objs.size:=ab2 (hk b o eb);rw[sortedHeap_old (acX hb) (by rw[agG];exact ag5 hb)];exact aax _ (hk b o eb)
  .exact⟨by rw[List.length_map];exact afY (BJ (by omega)),out.toList,e,GU a1,by rw[he]⟩
 have hh:X.A.handled=none:=I.ok.hd hc;refine S_ λQ' P_=>?_
 rcases Dc with⟨ak,hp,hk⟩|hp
 .obtain⟨hz,hd,vs,rel,dd⟩:=Pr I.aK hp;refine Yc hh hd dd (by rw[<- rel.length];exact hz) λs' acc hle kp e1 e2 e3 it=>P_ _ s' ⟨⟨ks,?_,λout eY a1 a2 a3=>fin _ s' hle kp e1 e2 e3 out eY a1 a2 a3⟩,?_⟩
  .refine L5 (by rw[<- rel.keys];exact hk) (by rw[afI];exact it.1) λi v hv=>it.2 i v (by rw[<- Array.getElem?_toList];exact hv)
  .rw[afI,it.1,<- rel.length];have:=congrArg List.length hk;exists 64;omega
 .obtain⟨ay,rv,pl,hz⟩:=I.list hp;have hi:=intsAre_of rv;have k1:s.heap.objs.size<=((s.heap.push (seqObj "list" #[] 0)).update s.heap.objs.size (Obj.mapSeq (·++ay.toArray))).objs.size:=by
   rw[Heap.size_update,agG];exact Nat.le_succ _
  have k2:∀b o,s.heap.get? b=some o->((s.heap.push (seqObj "list" #[] 0)).update s.heap.objs.size (Obj.mapSeq (·++ay.toArray))).get? b=some o:=λb o e=>
   (ad9 _ _ (af5 (ab2 e))).trans (aax _ e)
  refine collect_list pl.isList (P_ _ _ ⟨⟨ks,hi,λout eY a1 a2 a3=>fin ay { s with heap:=(s.heap.push (seqObj "list" #[] 0)).update s.heap.objs.size (Obj.mapSeq (·++ay.toArray)) } k1 k2 rfl rfl rfl out eY a1 a2 a3⟩,?_⟩) (by rw[<- rv.length];exact hz);rw[<- rv.length,List.length_map];exact l5
end
theorem T6(a d:Value):argsOk "min" ⟨[a],[("default",d)]⟩:=by unfold argsOk;kernel_rfl
theorem z8:(toString "min"++toString ".loop":String)="min.loop":=by decide
theorem UT(W:Walks prog w A.in1 it f7 jt n P T)(bt:Nat->Nat->Bool)(Ht:CmpOf prog w A.in1 .Lt P bt)(kw:List (Str×Value))(B:Addr)(hB:B∉f7):
  ∀(k j) (s) (vb) (c),n-(j+1)=k->j+1<=n->T (j+1) s.heap->P (argBest bt j) vb->s.heap.get? B=some { cls:=.type "list",dict:=none,data:=.seq #[vb,vb] c,slots:=#[] }->
   (∀v h' tk,P (argBest bt (n-1)) v->(∀b o,b∉jt->b≠B->s.heap.get? b=some o->h'.get? b=some o)->R (.ok (.ret v)) { s with heap:=h',toks:=tk })->
   codeAny (model prog w) A (.builtin "min.loop" ⟨[.ref it,.none,.ref B],kw⟩) R s:=by
 have nB:B∉jt:=λm=>hB (W.sub _ m)
 intro k
 induction k with
 |zero=>
  intro j s vb c e1 e2 st pb gB fin;have en:j+1=n:=by omega
  refine agh F.entry_min_loop ?_;rw[af4 agm _];refine abb (wpAny_seqItems gB rfl ?_);refine abb (agT (W.done s _ _ (en ▸ st) λh1 t1 kp=>?_));have qC:=kp B _ nB gB;refine abb (ag3 qC rfl (abb (wpAny_letGo (ac1 ?_))));exact fin vb _ t1 (by rw[<- en];exact pb) λb o m1 m2 e=>(ad9 _ _ (afZ m2)).trans (kp b o m1 e)
 |succ k ih=>
  intro j s vb c e1 e2 st pb gB fin;have lt:j+1<n:=by omega
  refine agh F.entry_min_loop ?_;rw[af4 agm _];refine abb (wpAny_seqItems gB rfl ?_);refine abb (agT (W.item (j+1) s _ _ lt st λv h1 t1 pv u9 kp=>?_));have qC:=kp B _ nB gB;show wpAny (model prog w) A.in1 (tryCatch (holding [v,v] (richCompare .Lt v vb >>= _)) _ >>= _) _ _ _;refine abb (agT (agn (abb (Ht (j+1) (argBest bt j) v vb _ _ _ pv pb ?_))));refine abb (agn (afR (abb (wpAny_letGo (ac1 ?_)))));cases hb:bt (j+1) (argBest bt j) with
  |true=>
   simp only[if_true];refine abb (ag3 qC rfl (abb (wpAny_letGo ?_)));rw[z8];refine ac1 ⟨agz agm _,ih (j + 1) _ v _ (by omega) lt (W.frame _ _ _ u9 λb m o e=>(ad9 _ _ (λz:B=b=>hB (by rw[z];exact m))).trans e)
    (by simp only[argBest,hb,if_true];exact pv) (ago _ qC rfl) λv2 h2 t2 p2 k2=>?_⟩
   exact fin v2 h2 t2 p2 λb o m1 m2 e=>k2 b o m1 m2 ((ad9 _ _ (afZ m2)).trans (kp b o m1 e))
  |false=>
   simp only[agq,if_false];refine abb (wpAny_letGo ?_);rw[z8];refine ac1 ⟨agz agm _,ih (j+1) _ vb c (by omega) lt u9 (by simp only[argBest,hb,agq,if_false];exact pb) qC λv2 h2 t2 p2 k2=>?_⟩;exact fin v2 h2 t2 p2 λb o m1 m2 e=>k2 b o m1 m2 (kp b o m1 e)
theorem aer(W:Walks prog w A.in1 it f7 jt n P T)(bt:Nat->Nat->Bool)(Ht:CmpOf prog w A.in1 .Lt P bt)(key:Str)(dv:Value)(B:Addr)(hB:B∉f7){s:Shared}{c:Nat}(st:T 0 s.heap)
  (gB:s.heap.get? B=some { cls:=.type "list",dict:=none,data:=.seq #[] c,slots:=#[] })
  (fin:∀v h' tk,(n=0/\v=dv\/0<n/\P (argBest bt (n-1)) v)->(∀b o,b∉jt->b≠B->s.heap.get? b=some o->h'.get? b=some o)->R (.ok (.ret v)) { s with heap:=h',toks:=tk }) :
  codeAny (model prog w) A (.builtin "min.loop" ⟨[.ref it,.none,.ref B],[(key,dv)]⟩) R s:=by
 have nB:B∉jt:=λm=>hB (W.sub _ m)
 refine agh F.entry_min_loop ?_;rw[af4 agm _];refine abb (wpAny_seqItems gB rfl ?_)
 by_cases hn:0<n
 .refine abb (agT (W.item 0 s _ _ hn st λv h1 t1 pv u9 kp=>?_));have qC:=kp B _ nB gB;show wpAny (model prog w) A.in1 (updateSeq B (λ_=>#[v,v]) >>= _) _ _ _;refine abb (ag3 qC rfl ?_);rw[z8];refine ac1 ⟨agz agm _,UT W bt Ht _ B hB _ 0 _ v _ rfl hn (W.frame _ _ _ u9 λb m o e=>(ad9 _ _ (λz:B=b=>hB (by rw[z];exact m))).trans e) pv (ago _ qC rfl) λv2 h2 t2 p2 k2=>?_⟩;exact fin v2 h2 t2 (.inr ⟨hn,p2⟩) λb o m1 m2 e=>k2 b o m1 m2 ((ad9 _ _ (afZ m2)).trans (kp b o m1 e))
 .have en:n=0:=by lia
  refine abb (agT (W.done s _ _ (en ▸ st) λh1 t1 kp=>?_));exact abb (wpAny_rule (ac1 (fin dv h1 t1 (.inl ⟨en,rfl⟩) λb o m1 _ e=>kp b o m1 e)))
theorem Uk{id:String}{b:Builtin}{kw:List (Str×Value)}(hk:builtinKind id=none)(hp:plainId id=true)(hb:entryFor table id=some b)(ha:argsOk id ⟨args,kw⟩)
  (hc:wpAny (model prog w) A.in1 (b ⟨args,kw⟩) (λfin s'=>match fin with
   |.done f=>(match(Except.ok f:Result) with|.ok (.ret v)=>Q v s'|.ok _=>False|.error e=>E e s')
   |.again c=>c.quiet=true/\codeAny (model prog w) A c (λr s'=>match r with|.ok (.ret v)=>Q v s'|.ok _=>False|.error e=>E e s') s') E s):wpAny (model prog w) A (call (.builtin id) args kw) Q E s:=by
 refine wpAny_call (codeAny_call_builtin hp hb ?_);simp only[checkBuiltinCall,hk];cases TN:Manifest.signature? id with
 |none=>exact ac1 hc
 |some sig=>
  have h2:Bind.checkArgs id sig ⟨args,kw⟩=pure ():=by simpa only[argsOk,TN] using ha
  simp only[h2];exact ac1 hc
theorem Sf:∀{vs} {ns} {i} {v},IntsAre vs ns->vs[i]? = some v->∃t,v=Value.int (ns.getD i 0) t
 |_,_,_,_,.nil,e=>by simp at e
 |_,_,0,_,.cons n t h,e=>by
  have e':=acf e;subst e';exact⟨t,rfl⟩
 |_,_,i+1,v,.cons n t h,e=>by
  obtain⟨u,eu⟩:=Sf h (by simpa using e);exact⟨u,by simpa using eu⟩
theorem Vf{ns:List Int}(h:i<ns.length):ns.getD i 0∈ns:=by
 rw[adb,aa9 h];exact List.getElem_mem h
theorem UY{l:Addr}{vs:List Value}{ns:List Int}{dv:Value}{Q:Value->Shared->Prop}(hh:A.handled=none)(hl:s.heap.IsList l vs.toArray)(hi:IntsAre vs ns)
  (fin:∀v h' tk,(ns=[]/\v=dv\/∃m t,v=.int m t/\m∈ns/\∀x∈ns,m<=x)->(∀b o,s.heap.get? b=some o->h'.get? b=some o)->Q v { s with heap:=h',toks:=tk }) :
  wpAny (model prog w) A (call (.builtin "min") [.ref l] [("default",dv)]) Q E s:=by
 refine Uk F.kind_min F.plain_min F.entry_min (T6 _ _) ?_;refine abb (wpAny_of_eq (show Builtin.Builtins.bindParams "min" ["key","default"] 0 ⟨[],[("default",dv)]⟩=pure [none,some dv] from rfl) ?_);refine abb (ac1 (abb (wpAny_pyIter_list hl ?_)));refine abb (agL ?_);rw[z8];have Q0:l<s.heap.objs.size:=let⟨_,ho,_⟩:=hl;ab2 ho
 have hsz:(s.heap.push { cls:=.type "list_iterator",data:=.fields #[.ref l,.int 0 0] }).objs.size=s.heap.objs.size+1:=agG ..;have hv:∀(i) (v),vs.toArray[i]? = some v->∃t,v=Value.int (ns.getD i 0) t:=λi v e=>Sf hi (by simpa using e)
 have hlen:=hi.length;generalize yD:s.heap.push { cls:=.type "list_iterator",data:=.fields #[.ref l,.int 0 0] }=h1 at *;have g1:h1.get? s.heap.objs.size=some { cls:=.type "list_iterator",data:=.fields #[.ref l,.int 0 0] }:=by rw[<- yD];exact acC _ rfl
 have old:∀b o,s.heap.get? b=some o->h1.get? b=some o:=λb o e=>by rw[<- yD];exact aax _ e
 have nl:=acX Q0;have W:=Walks.list (prog:=prog) (w:=w) (A:=A.in1.in1) hh s.heap.objs.size l nl vs.toArray;have hB:h1.objs.size∉[s.heap.objs.size,l]:=by
  intro m;rcases aaA.mp m with z|z
  .rw[hsz] at z;exact absurd z (af5 (agl _))
  .have z:=aaU.mp z;rw[hsz] at z;exact absurd z (af5 (ag5 Q0))
 refine ac1 ⟨agz agm _,aer W.of_in1 (λi j=>decide (ns.getD i 0<ns.getD j 0)) (CmpOf.ints_lt (λi=>ns.getD i 0) hv) _ dv h1.objs.size hB ?_ (acC _ rfl) λv h' tk B4 kp=>?_⟩
 .exact⟨⟨_,aax _ g1,rfl,rfl⟩,hl.at λo e=>aax _ (old l o e)⟩
 .refine fin v h' tk ?_ λb o e=>kp b o ?_ ?_ (aax _ (old b o e))
  .have c_:vs.toArray.size=ns.length:=by rw[ab5,hlen]
   rw[c_] at B4;rcases B4 with⟨h0,e⟩|⟨h0,pv⟩
   .exact .inl ⟨agC h0,e⟩
   .obtain⟨t,e⟩:=hv _ v pv;obtain⟨a1,a2⟩:=argBest_lt (λi=>ns.getD i 0) (ns.length-1);refine .inr ⟨_,t,e,Vf (by omega),λx hx=>?_⟩;obtain⟨j,hj,rfl⟩:=List.getElem_of_mem hx;have:=a2 j (by omega);rw[show ns[j]=ns.getD j 0 by rw[adb,aa9 hj];rfl];exact this
  .intro m;exact absurd (ab2 e) (by rw[aaU.mp m];exact afe _)
  .intro z;exact absurd (ab2 e) (by rw[z,hsz];exact Nat.not_lt.mpr (Nat.le_succ _))
def adZ(K:PySem.W.Frag)(ta td:TE):TE:=λσ H Q=>ta σ H λx H1=>td σ H1 λy H2=>∃(l:Addr) (ns:List Int),x=.ref l/\bX K H2 l (ns.map V.int)/\((ns=[]/\Q y H2)\/ns≠[]/\∀m,m∈ns->(∀n∈ns,m<=n)->Q (.int m) H2)
theorem ae3{b:Expr}{kp:Pos}(hc:X.calm=true)(hm:X.mg "min"=none)(ha:PE X a ta)(hb:PE X b td)(hg:Gl X "min":=by rfl)(hs:Y2 X a:=by rfl)
  (h1:backTo pos (starEach [a] X.env)=(false,eval a X.env)::backTo pos (starEach [] X.env):=by rfl) (h2:(backTo pos (starEach [a] X.env)).any (·.1)=false:=by rfl)
  (h3:(backToKw pos (keywordEach [⟨some "default",b,kp⟩] X.env)).all (·.1.isSome)=true:=by rfl) (h4:(backToKw pos (keywordEach [⟨some "default",b,kp⟩] X.env)).any (·.1.isNone)=false:=by rfl)
  (h5:(backToKw pos (keywordEach [⟨some "default",b,kp⟩] X.env)).filterMap (·.1)=[("default":Str)]:=by rfl) :
  PE X (.Call (.Name "min" p) [a] [⟨some "default",b,kp⟩] pos) (adZ X.K ta td):=by
 exists 44;refine afS (pJ I hg hm (show bootBuiltins "min"=some (.builtin "min") by decide +kernel) ?_ (by decide) (by decide));refine callWith_kw ?_ h1 h2 h3 h4;rw[h5];refine JH (d8 ha fY hs pos ah s σ H (λvs H1=>match vs with|[x]=>td σ H1 λy H2=>∃(l:Addr) (ns:List Int),x=.ref l/\bX X.K H2 l (ns.map V.int)/\((ns=[]/\Q y H2)\/ns≠[]/\∀m,m∈ns->(∀n∈ns,m<=n)->Q (.int m) H2)|_=>False) I h) λus s1 vs H1 I1 rv q1=>?_
 rcases vs with _|⟨x,_|⟨x2,r2⟩⟩
 .exact q1.elim
 .obtain⟨u,rfl,ru⟩:=vals1 rv;refine kws_cons (cM (hb ah s1 σ H1 _ I1 q1) ?_)
  rintro dv s2 ⟨y,H2,I2,ry,l,ns,ex,hq,q2⟩
  refine kws_nil ?_;subst ex;cases ru;obtain⟨ay,ri,pl,hz⟩:=I2.list hq;refine UY (I2.ok.hd hc) pl.isList (intsAre_of ri) λv h' tk B4 kp=>?_
  rcases B4 with⟨en,ev⟩|⟨m,t,ev,oB,vB⟩
  .subst ev;rcases q2 with⟨_,q2⟩|⟨ne,_⟩
   .exact⟨y,H2,I2.kept kp,ry,q2⟩
   .exact absurd en ne
  .subst ev;rcases q2 with⟨en,_⟩|⟨_,q2⟩
   .rw[en] at oB;cases oB
   .exact⟨.int m,H2,I2.kept kp,⟨t,rfl⟩,q2 m oB vB⟩
 .exact q1.elim
end L2
namespace PySem
theorem U1:typeLookup (.type "list") "keys"=pure none:=by rw[typeLookup_type,builtinLookup_eq_fast];kernel_rfl
theorem aa7:typeLookup (.type "tuple") "keys"=pure none:=by rw[typeLookup_type,builtinLookup_eq_fast];kernel_rfl
theorem SY(hx:s.heap.get? a=some { cls:=.type "list",dict:=none,data:=.seq xs k,slots:=sl })(hA:A.handled=none)
  (h:∀h' tk,(∀b o,s.heap.get? b=some o->h'.get? b=some o)->Q none { s with heap:=h',toks:=tk }):wpAny (model prog w) A (getAttr? (.ref a) "keys") Q E s:=by
 obtain⟨hp,g,d,tk,os⟩:=s;have hT:∀yc,(⟨hp,g,d,yc,os⟩:Shared).TypeIs (.ref a) "list":=λ_=>⟨_,hx,rfl⟩
 have f1:=sub_AttributeError;have f3:=F.slot_list_getattribute.lookup;have f4:=F.slot_list_getattribute.bind (.ref a);have f5:=am_list_getattr_none;unfold getAttr? getAttrBy? getAttrBy
 repeat (any_goals (first|assumption|exact hT _|((with_reducible show wpAny _ _ (call (Value.builtin "list.__getattribute__") _ _) _ _ _);refine call_meets F.slot_list_getattribute (hT _) am_entry_list_getattribute (F.args_list_getattribute_2 _ _) (meets_getattribute_miss_list a xs k sl "keys" _ U1 (by decide +kernel)) ⟨hx,hA,λh' yc e jE=>?_⟩)|wp_step))
 obtain⟨t',u',he⟩:=jE.there;unfold getattributeRaised
 repeat (any_goals (first|assumption|wp_step))
 all_goals exact h _ _ jE.keeps
theorem Tt(hx:s.heap.get? a=some { cls:=.type "tuple",dict:=none,data:=.seq xs k,slots:=sl })(hA:A.handled=none)
  (h:∀h' tk,(∀b o,s.heap.get? b=some o->h'.get? b=some o)->Q none { s with heap:=h',toks:=tk }):wpAny (model prog w) A (getAttr? (.ref a) "keys") Q E s:=by
 obtain⟨hp,g,d,tk,os⟩:=s;have hT:∀yc,(⟨hp,g,d,yc,os⟩:Shared).TypeIs (.ref a) "tuple":=λ_=>⟨_,hx,rfl⟩
 have f1:=sub_AttributeError;have f3:=F.slot_tuple_getattribute.lookup;have f4:=F.slot_tuple_getattribute.bind (.ref a);have f5:=am_tuple_getattr_none;unfold getAttr? getAttrBy? getAttrBy
 repeat (any_goals (first|assumption|exact hT _|((with_reducible show wpAny _ _ (call (Value.builtin "tuple.__getattribute__") _ _) _ _ _);refine call_meets F.slot_tuple_getattribute (hT _) am_entry_tuple_getattribute (F.args_tuple_getattribute_2 _ _) (meets_getattribute_miss_tuple a xs k sl "keys" _ aa7 (by decide +kernel)) ⟨hx,hA,λh' yc e jE=>?_⟩)|wp_step))
 obtain⟨t',u',he⟩:=jE.there;unfold getattributeRaised
 repeat (any_goals (first|assumption|wp_step))
 all_goals exact h _ _ jE.keeps
end PySem
namespace L2
open PySem PySem.Spec PyProof.Rows
theorem Cn:plainId "dict.update.loop"=true:=by decide +kernel
theorem Qy:entryFor table "dict.update.loop"=some Builtin.«dict.update.loop»:=entryFor_of_fast (by kernel_rfl)
def pairAt{prog:Program}{w:World}{κ:Type}[DecidableEq κ](knd:KeyKind prog w κ)(h:Heap)(no:List Addr)(v:Value)(p:κ×Value):Prop:=∃a key,v=.ref a/\a∉no/\IsTup h a #[key,p.2]/\knd.is p.1 key=true
section
variable[DecidableEq κ]{knd:KeyKind prog w κ}
theorem adE(W:Walks prog w A.in1 it f7 jt n P T)(hd:d∉f7)(h0:Heap)(ps:List (κ×Value))(hn:ps.length=n)(hP:∀i v,P i v->∃p,ps[i]? = some p/\pairAt knd h0 (d::jt) v p)(res:Value):
  ∀(k i) (s) (m) (Jc),n-i=k->i<=n->T i s.heap->s.heap.DictOf knd d m->m.length+(n-i)<=sizeLine->(∀b o,b∉d::jt->h0.get? b=some o->s.heap.get? b=some o)->
   (∀h' tk,h'.DictOf knd d ((ps.drop i).foldl (λm p=>stored m p.1 p.2) m)->(∀b o,b∉d::jt->h0.get? b=some o->h'.get? b=some o)->R (.ok (.ret res)) { s with heap:=h',toks:=tk })->
   codeAny (model prog w) A (.builtin "dict.update.loop" ⟨[.ref d,.ref it,.int i Jc,res],[]⟩) R s:=by
 have nd:d∉jt:=λm=>hd (W.sub _ m)
 intro k
 induction k with
 |zero=>
  intro i s m Jc e1 e2 st dm hz kp fin;have en:i=n:=by lia
  subst en;refine agh Qy ?_;rw[af4 Cn _];refine abb (W.done s _ _ st λh1 t1 k1=>?_);refine abb (ac1 (ac1 (fin h1 t1 ?_ λb o mb e=>k1 b o (λz=>mb (aab _ z)) (kp b o mb e))));rw[List.drop_eq_nil_of_le (by lia)];obtain⟨o,es,ep,ho,r⟩:=dm;exact⟨o,es,ep,k1 d o nd ho,r⟩
 |succ k ih=>
  intro i s m Jc e1 e2 st dm hz kp fin;have lt:i<n:=by lia
  refine agh Qy ?_;rw[af4 Cn _];refine abb (W.item i s _ _ lt st λv h1 t1 pv u9 k1=>?_);obtain⟨p,ep,a,key,rfl,na,hpt,zI⟩:=hP i v pv;have WI:h1.DictOf knd d m:=by
   obtain⟨o,es,ep,ho,r⟩:=dm;exact⟨o,es,ep,k1 d o nd ho,r⟩
  obtain⟨oa,hoa,UZ,na',S4⟩:=hpt;have ga:=k1 a oa (λz=>na (aab _ z)) (kp a oa na hoa);refine abb (agn ?_);refine abb (agT ?_);unfold Builtin.Dict.pairItems;refine abb (wpAny_typeOf ⟨oa,ga,UZ⟩ ?_);rw[if_pos (by decide)];refine abb (wpAny_seqItems ga S4 (ac1 ?_));refine agn (wpAny_dictSet_pairs zI WI (λh2 dm2 sb=>?_) (by lia));have Q7:∀b o,b≠d->h1.get? b=some o->h2.get? b=some o:=λb o hb e=>(sb.2 b hb).trans e
  have sM:=W.frame _ _ _ u9 λb mb o e=>Q7 b o (λz=>hd (by rw[<- z];exact mb)) e
  have qW:(stored m p.1 p.2).length<=m.length+1:=by
   unfold stored
   split
   .rw[List.length_map];exact Nat.le_succ _
   .rw[abD];exact abL _
  refine ac1 ⟨agz Cn _,?_⟩;refine ih (i+1) _ (stored m p.1 p.2) 0 (by lia) lt sM dm2 (by lia) (λb o mb e=>Q7 b o (λz=>mb (by rw[z];exact aad)) (k1 b o (λz=>mb (aab _ z)) (kp b o mb e))) λh3 t3 Js k3=>?_
  refine fin h3 t3 ?_ k3;have hi:i<ps.length:=by lia
  have xN:ps[i]=p:=by rw[aa9 hi] at ep;exact acf ep
  rw[agU hi,afa,xN];exact Js
theorem O0(ps:List (κ×Value))(hz:ps.length<=sizeLine)(T0:String)(Z3:(Value.type T0 != Value.type "dict")=true)
  (xB:∀o,({ s with heap:=s.heap.push o }:Shared).TypeIs x T0)
  (hk:∀(o) (Q') (E'),(∀h' tk,(∀b ob,(s.heap.push o).get? b=some ob->h'.get? b=some ob)->Q' none { s with heap:=h',toks:=tk })->wpAny (model prog w) A.in1.in1 (getAttr? x "keys") Q' E' { s with heap:=s.heap.push o })
  (hi:∀(s2) (Q') (E'),(∀b ob,s.heap.get? b=some ob->s2.heap.get? b=some ob)->(∃o,s2.heap.get? s.heap.objs.size=some o)->
   (∀I f7 jt n P T h3,Walks prog w A.in1.in1 I f7 jt n P T->T 0 h3->ps.length=n->s.heap.objs.size∉f7->(∀b ob,s2.heap.get? b=some ob->h3.get? b=some ob)->(∀b∈jt,s.heap.get? b=none)->(∀i v,P i v->∃p,ps[i]? = some p/\pairAt knd s.heap (s.heap.objs.size::jt) v p)->Q' (.ref I) { s2 with heap:=h3 })->
   wpAny (model prog w) A.in1.in1 (pyIter x) Q' E' s2)
  (h:∀h' tk,h'.DictOf knd s.heap.objs.size (ps.foldl (λm p=>stored m p.1 p.2) [])->(∀b o,s.heap.get? b=some o->h'.get? b=some o)->Q (.ref s.heap.objs.size) { s with heap:=h',toks:=tk }) :
  wpAny (model prog w) A (call (.type "dict") [x]) Q E s:=by
 refine callType_codes (Q₁:=λobj bS=>obj=.ref s.heap.objs.size/\bS={ s with heap:=s.heap.push { cls:=.type "dict",data:=.dict #[] } }) F.kt_called_dict (F.kt_typeCall_dict_1 _) F.entry_dict_init (kt_code_dict_new _ ⟨rfl,rfl⟩) ?_
 rintro obj bS ⟨rfl,rfl⟩
 have Ez:(s.heap.push { cls:=.type "dict",data:=.dict #[] }).DictOf knd s.heap.objs.size []:=Heap.DictOf.new s.heap;refine⟨Ez.typeIs,F.args_dict_init_2 _ _,?_⟩;unfold Builtin.«dict.__init__»;refine abb ?_;unfold Builtin.Dict.selfAndRest;refine abb (wpAny_notOrdered_dict Ez.typeIs ?_);refine ac1 ?_;show wpAny (model prog w) _ (Builtin.Dict.updateFrom "dict.__init__" s.heap.objs.size x [] .none) _ _ _;unfold Builtin.Dict.updateFrom;refine abb (wpAny_typeOf (xB _) ?_);rw[if_pos Z3];refine abb (hk _ _ _ λh1 t1 k1=>?_);refine abb (wpAny_rule (abb ?_));have o1:∀b ob,s.heap.get? b=some ob->h1.get? b=some ob:=λb ob e=>k1 b ob (aax _ e)
 refine hi { s with heap:=h1,toks:=t1 } _ _ o1 ⟨_,k1 _ _ (acC _ rfl)⟩ (λI f7 jt n P T h3 W st hn hd k3 hw hP=>?_);have Js:h3.DictOf knd s.heap.objs.size []:=by
  obtain⟨o,es,ep,ho,r⟩:=Ez;exact⟨o,es,ep,k3 _ o (k1 _ o ho),r⟩
 refine ac1 ⟨agz Cn _,adE W hd s.heap ps hn hP .none n 0 _ [] 0 rfl (aeK _) st Js (by rw[List.length_nil];lia) (λb o _ e=>k3 b o (o1 b o e)) λh4 t4 dm4 k4=>?_⟩;refine⟨rfl,h h4 t4 (by simpa using dm4) λb o e=>k4 b o (λm=>?_) e⟩;rcases aaA.mp m with z|z
 .exact absurd (ab2 e) (by rw[z];exact afe _)
 .rw[hw b z] at e;cases e
end
theorem N_[DecidableEq κ]:∀{ps} {qs} {m}{r:List (κ×Value)},KV ps qs->KV m r->KV (ps.foldl (λm p=>putK m p.1 p.2) m) (qs.foldl (λm p=>stored m p.1 p.2) r)
 |_,_,_,_,.nil,h=>h
 |_,_,_,_,.cons (a:=p) e t,h=>by
  rw[afa,afa];refine N_ t ?_;rw[<- e.1];exact h.put p.1 e.2
def Jz(K:PySem.W.Frag):List V->Hp->VK->Prop:=λxs H Q=>∃(p:Addr) (ys:List V) (ps:List (Key×V)),xs=[.ref p]/\(bX K H p ys\/cg K H p ys)/\Paired (λy (q:Key×V)=>∃a,y=.ref a/\cg K H a [kV q.1,q.2]) ys ps/\
 ∀l,H l=none->Q (.ref l) (upd H l (.dK (ps.foldl (λm q=>putK m q.1 q.2) [])))
theorem Hh(I:Inv X ah σ H s):∀{ys} {ps} {ay},Paired (λy (q:Key×V)=>∃a,y=.ref a/\cg X.K H a [kV q.1,q.2]) ys ps->aU ys ay->
  ∃qs:List (Key×Value),KV ps qs/\∀(i:Nat) (v),ay[i]? = some v->∃q,qs[i]? = some q/\∃a key,v=.ref a/\IsTup s.heap a #[key,q.2]/\(gJ X.prog X.w).is q.1 key=true
 |_,_,_,.nil,.nil=>⟨[],.nil,λi v e=>by simp at e⟩
 |_,_,_,.cons (b:=q) ⟨a,ey,hr⟩ t,.cons (b:=u) r rs=>by
  obtain⟨qs,h1,h2⟩:=Hh I t rs;subst ey;cases r;obtain⟨us,ru,pt,_⟩:=I.tuple hr;obtain⟨key,x,rfl,rk,rx⟩:=vals2 ru;refine⟨(q.1,x)::qs,.cons ⟨rfl,rx⟩ h1,λi v e=>?_⟩;cases i with
  |zero=>
   have e':=acf e;subst e';exact⟨_,rfl,a,key,rfl,pt,rC rk⟩
  |succ i=>
   obtain⟨q',e1,e2⟩:=h2 i v (by simpa using e);exact⟨q',by simpa using e1,e2⟩
theorem aek(hc:X.calm=true):g_ X (.type "dict") (Jz X.K):=by
 exists 43;obtain⟨p,ys,ps,rfl,Dc,tU,q⟩:=h;obtain⟨u,rfl,ru⟩:=vals1 r;cases ru;have hh:=I.ok.hd hc;have big:=I.big;have fin:∀(ay:List Value) (qs:List (Key×Value)),KV ps qs->ys.length<=sizeLine->∀h' tk,h'.DictOf (gJ X.prog X.w) s.heap.objs.size (qs.foldl (λm p=>stored m p.1 p.2) [])->(∀b o,s.heap.get? b=some o->h'.get? b=some o)->
   EP X ah σ Q (.ref s.heap.objs.size) { s with heap:=h',toks:=tk }:=by
  intro ay qs qj hz h' tk dm kp;have rel:=N_ qj .nil;have r_:∀(l:List (Key×V)) (m),(l.foldl (λm q=>putK m q.1 q.2) m).length<=m.length+l.length:=by
   intro l
   induction l with
   |nil=>intro m;exact abL _
   |cons a l ih=>
    intro m;rw[afa];have h1:=ih (putK m a.1 a.2);have h2:=F0 m a.1 a.2;rw[acj]
    lia
  have hl:=(Paired.length tU).symm;refine⟨.ref s.heap.objs.size,_,I.laid kp (abL _) (Ja ?_ (adz.mpr (afZ (acX big))) rel dm),rfl,q _ (I.aK.fresh (abL _))⟩;have:=r_ ps [];rw[List.length_nil] at this
  lia
 have Ci:∀{qs},KV ps qs->qs.length=ys.length:=λh=>by rw[<- h.length];exact(Paired.length tU).symm
 have rK:∀{s2:Shared},(∃o,s2.heap.get? s.heap.objs.size=some o)->s.heap.objs.size<s2.heap.objs.size:=λ⟨_,e⟩=>ab2 e
 rcases Dc with hq|hq
 .obtain⟨ay,rv,pl,hz⟩:=I.list hq;obtain⟨qs,qj,uU⟩:=Hh I tU rv;obtain⟨o,n,ho,lN,yx,tM⟩:=pl;have hp:=ab2 ho;refine O0 qs (by rw[Ci qj];exact hz) "list" (by decide) (λob=>⟨o,aax _ ho,lN⟩) (λob Q' E' k=>?_) (λs2 Q' E' o2 hS k=>?_) (λh' tk dm kp=>fin ay qs qj hz h' tk dm kp)
  .obtain⟨c0,d0,XO,sl0⟩:=o;dsimp only at lN yx tM;subst lN yx tM;exact SY (aax _ ho) hh λh1 t1 kp=>k h1 t1 kp
  .have qW:s2.heap.IsList p ay.toArray:=⟨o,o2 p o ho,lN,n,tM⟩
   refine wpAny_pyIter_list qW (k s2.heap.objs.size [s2.heap.objs.size,p] [s2.heap.objs.size] _ _ _ _ (Walks.list (A:=X.A.in1.in1) hh s2.heap.objs.size p (acX (Nat.lt_trans hp (rK hS))) ay.toArray) ⟨⟨_,acC _ rfl,rfl,rfl⟩,qW.push _⟩ (by rw[Ci qj,ab5,<- rv.length]) ?_ (λb ob e=>aax _ e) ?_ λi v e=>?_)
   .intro m;rcases aaA.mp m with z|z
    .exact absurd z (acX (rK hS))
    .exact absurd (aaU.mp z) (af5 hp)
   .intro b m;rw[aaU.mp m];exact agO (afY (rK hS))
   .obtain⟨q',e1,a,key,e2,e3,e4⟩:=uU i v (by simpa using e);refine⟨q',e1,a,key,e2,λm=>?_,e3,e4⟩;obtain⟨oa,ha,_⟩:=e3;rcases aaA.mp m with z|z
    .exact absurd (ab2 ha) (by rw[z];exact afe _)
    .exact absurd (ab2 ha) (by rw[aaU.mp z];exact Nat.not_lt.mpr (afY (rK hS)))
 .obtain⟨ay,rv,⟨o,ho,lN,yx,n,tM⟩,hz⟩:=I.Oc hq;obtain⟨qs,qj,uU⟩:=Hh I tU rv;have hp:=ab2 ho;refine O0 qs (by rw[Ci qj];exact hz) "tuple" (by decide) (λob=>⟨o,aax _ ho,lN⟩) (λob Q' E' k=>?_) (λs2 Q' E' o2 hS k=>?_) (λh' tk dm kp=>fin ay qs qj hz h' tk dm kp)
  .obtain⟨c0,d0,XO,sl0⟩:=o;dsimp only at lN yx tM;subst lN yx tM;exact Tt (aax _ ho) hh λh1 t1 kp=>k h1 t1 kp
  .have qW:s2.heap.IsTuple p ay.toArray:=⟨o,o2 p o ho,lN,n,tM⟩
   refine wpAny_pyIter_tuple qW (k s2.heap.objs.size [s2.heap.objs.size,p] [s2.heap.objs.size] _ _ _ _ (Walks.tuple (A:=X.A.in1.in1) hh s2.heap.objs.size p (acX (Nat.lt_trans hp (rK hS))) ay.toArray) ⟨⟨_,acC _ rfl,rfl,rfl⟩,qW.push _⟩ (by rw[Ci qj,ab5,<- rv.length]) ?_ (λb ob e=>aax _ e) ?_ λi v e=>?_)
   .intro m;rcases aaA.mp m with z|z
    .exact absurd z (acX (rK hS))
    .exact absurd (aaU.mp z) (af5 hp)
   .intro b m;rw[aaU.mp m];exact agO (afY (rK hS))
   .obtain⟨q',e1,a,key,e2,e3,e4⟩:=uU i v (by simpa using e);refine⟨q',e1,a,key,e2,λm=>?_,e3,e4⟩;obtain⟨oa,ha,_⟩:=e3;rcases aaA.mp m with z|z
    .exact absurd (ab2 ha) (by rw[z];exact afe _)
    .exact absurd (ab2 ha) (by rw[aaU.mp z];exact Nat.not_lt.mpr (afY (rK hS)))
end L2
namespace L2.Ev
open PySem PySem.Spec PyProof.Rows
structure VA(X:Cx)(i:Nat)(x:Str):Prop where
 N:X.N[i]? = some x
 v:J4 X.env.scope x
 d:(x==("__debug__":Str))=false
 c:(x==("__classdict__":Str))=false
theorem VA.pe(h:VA X i x):PE X (.Name x p) (Dw i):=MJ h.N h.v h.d h.c
def yq(X:Cx)(o:Expr)(m:Str)(apos:Pos)(as:List Expr)(pos:Pos)(pl:Sem Bool):Prop:=eval (.Call (.Attribute o m apos) as [] pos) X.env=(do
   let ov <- eval o X.env
   standAt apos.atName
   let(f,first) <- holding [ov] (getMethod ov m pl)
   callWith pos f first (backTo pos (starEach as X.env)) (backToKw pos (keywordEach [] X.env)))
def SE(X:Cx)(e:Expr)(es:List Expr)(pos:Pos):Prop:=starEach (e::es) X.env=(false,eval e X.env)::starEach es X.env/\(backTo pos (starEach es X.env)).any (·.1)=false
def GD(X:Cx)(x:Str):Prop:=Gl X x/\(x==("__debug__":Str))=false
noncomputable abbrev XN:=Str×Option Nat
inductive D where
 |az|bl (b:Bool)|int (i:Int)|str (x:Str)|tup (ds:List D)|lst (ds:List D)|gP (ds:List D)|bf (ak:List (Key×D))|cj (ak:List (List Key×D))|ins (cn:Str) (fs:List (Str×D))|exc (cn:XN)
def qm(K:PySem.W.Frag)(H:Hp)(a:Addr)(xs:List V):Prop:=(∃o,H a=some (.fM o (.lst xs)))\/
 ∃(o:Obj) (ay:Array Value) (n:Nat),K.lookup a=some o/\o.cls=.type "list"/\o.dict=none/\o.data=.seq ay n/\ay.size<=sizeLine/\aU xs ay.toList
theorem qm.sq{K:PySem.W.Frag}(h:qm K H a xs):bX K H a xs:=h.elim (λz=>.inl (.inr z)) .inr
mutual
inductive Rep(K:PySem.W.Frag)(H:Hp):D->V->List Addr->Prop
 |az:Rep K H .az .az []
 |bl (b:Bool):Rep K H (.bl b) (.bl b) []
 |int (i:Int):Rep K H (.int i) (.int i) []
 |str (x:Str):Rep K H (.str x) (.str x) []
 |tup {a:Addr}{xs:List V}{ds:List D}{fp:List Addr}:cg K H a xs->aC K H ds xs fp->Rep K H (.tup ds) (.ref a) fp
 |lst {a:Addr}{xs:List V}{ds:List D}{fp:List Addr}:H a=some (.lst xs)->aC K H ds xs fp->Rep K H (.lst ds) (.ref a) (a::fp)
 |BI {a:Addr}{xs:List V}{ds:List D}{fp:List Addr}:qm K H a xs->aC K H ds xs fp->Rep K H (.gP ds) (.ref a) fp
 |bf {a:Addr}{ak:List (Key×V)}{es:List (Key×D)}{fp:List Addr}:H a=some (.dK ak)->es.map (·.1)=ak.map (·.1)->aC K H (es.map (·.2)) (ak.map (·.2)) fp->Rep K H (.bf es) (.ref a) (a::fp)
 |cj {a:Addr}{ak:List (List Key×V)}{es:List (List Key×D)}{fp:List Addr}:H a=some (.dT ak)->es.map (·.1)=ak.map (·.1)->aC K H (es.map (·.2)) (ak.map (·.2)) fp->Rep K H (.cj es) (.ref a) (a::fp)
 |ins {cn:Str}{a C dx:Addr}{fs:List (Str×V)}{es:List (Str×D)}{fp:List Addr}:PySem.W.nsIn K mainGlobals cn=some (some (.ref C))->H a=some (.ins C dx fs)->H dx=some (.own a)->es.map (·.1)=fs.map (·.1)->aC K H (es.map (·.2)) (fs.map (·.2)) fp->Rep K H (.ins cn es) (.ref a) (a::dx::fp)
 |exc {cn:XN}{a C:Addr}{de:Option Addr}{ob:Obj}:PySem.W.nsIn K mainGlobals cn.1=some (some (.ref C))->H a=some (G7 ob a (.ref C) de)->(∀n,cn.2=some n->∃dx,de=some dx/\H dx=some (MB dx n))->Rep K H (.exc cn) (.ref a) []
inductive aC(K:PySem.W.Frag)(H:Hp):List D->List V->List Addr->Prop
 |nil:aC K H [] [] []
 |cons {d:D}{v:V}{ds:List D}{vs:List V}{f1 f2:List Addr}:Rep K H d v f1->aC K H ds vs f2->aC K H (d::ds) (v::vs) (f1++f2)
end
def aV(H H':Hp):Prop:=(∀a xs,H a=some (.tup xs)->H' a=some (.tup xs))/\(∀a o u,H a=some (.fM o u)->H' a=some (.fM o u))/\∀a φ,H a=some (.ext φ)->H' a=some (.ext φ)
theorem aV.XJ{K:PySem.W.Frag}(i:aV H H')(h:cg K H a xs):cg K H' a xs:=by
 rcases h with(h|⟨o,h⟩)|h
 .exact .inl (.inl (i.1 _ _ h))
 .exact .inl (.inr ⟨o,i.2.1 _ _ _ h⟩)
 .exact .inr h
theorem aV.fM{K:PySem.W.Frag}(i:aV H H')(h:qm K H a xs):qm K H' a xs:=by
 rcases h with⟨o,h⟩|h
 .exact .inl ⟨o,i.2.1 _ _ _ h⟩
 .exact .inr h
theorem aV.of(h:aJ H H'):aV H H':=⟨λ_ _ e=>h _ _ e,λ_ _ _ e=>h _ _ e,λ_ _ e=>h _ _ e⟩
theorem aV.trans(a:aV H H1)(b:aV H1 H2):aV H H2:=⟨λ_ _ e=>b.1 _ _ (a.1 _ _ e),λ_ _ _ e=>b.2.1 _ _ _ (a.2.1 _ _ _ e),λ_ _ e=>b.2.2 _ _ (a.2.2 _ _ e)⟩
noncomputable def jl:HO->Bool
 |.lst _|.dK _|.dT _|.ins _ _ _|.own _=>true
 |_=>false
theorem aV.upd(h:H p=some o)(m:jl o=true):aV H (upd H p o'):=by
 refine⟨λa xs e=>?_,λa q u e=>?_,λa q e=>?_⟩
 .rw[aP]
  .exact e
  .rintro rfl;rw[h] at e;cases e;cases m
 .rw[aP]
  .exact e
  .rintro rfl;rw[h] at e;cases e;cases m
 .rw[aP]
  .exact e
  .rintro rfl;rw[h] at e;cases e;cases m
section
variable{K:PySem.W.Frag}
theorem Rep.frame(r:Rep K H d v fp)(k:∀a∈fp,H' a=H a)(i:aV H H'):Rep K H' d v fp:=
 Rep.rec (motive_2:=λd v fp _=>(∀a∈fp,H' a=H a)->aC K H' d v fp) (λ_=>.az) (λb _=>.bl b) (λn _=>.int n) (λx _=>.str x) (λh _ r k=>.tup (i.XJ h) (r k))
  (λh _ r k=>.lst ((k _ (.head _)).trans h) (r λa m=>k a (.tail _ m))) (λh _ r k=>.BI (i.fM h) (r k)) (λh e _ r k=>.bf ((k _ (.head _)).trans h) e (r λa m=>k a (.tail _ m))) (λh e _ r k=>.cj ((k _ (.head _)).trans h) e (r λa m=>k a (.tail _ m)))
  (λg h h2 e _ r k=>.ins g ((k _ (.head _)).trans h) ((k _ (.tail _ (.head _))).trans h2) e (r λa m=>k a (.tail _ (.tail _ m)))) (λg h p _=>.exc g (i.2.1 _ _ _ h) λn e=>(p n e).imp λ_ q=>⟨q.1,i.2.2 _ _ q.2⟩)
  (λ_=>.nil) (λ_ _ h t k=>.cons (h λa m=>k a (abj _ m)) (t λa m=>k a (aas _ m))) r k
theorem aC.frame:∀{ds} {vs} {fp},aC K H ds vs fp->(∀a∈fp,H' a=H a)->aV H H'->aC K H' ds vs fp
 |_,_,_,.nil,_,_=>.nil
 |_,_,_,.cons h t,k,i=>.cons (h.frame (λa m=>k a (abj _ m)) i) (aC.frame t (λa m=>k a (aas _ m)) i)
theorem Rep.cG(r:Rep K H d v fp):∀a∈fp,∃o,H a=some o/\jl o=true:=by
 have c:∀{b} {o} {f},H b=some o->jl o=true->(∀a∈f,∃o,H a=some o/\jl o=true)->∀a∈b::f,∃o,H a=some o/\jl o=true:=λh m r a=>λ| .head _=>⟨_,h,m⟩|.tail _ z=>r a z
 have n:∀a∈([]:List Addr),∃o,H a=some o/\jl o=true:=λ_ m=>nomatch m
 exact Rep.rec n (λ_=>n) (λ_=>n) (λ_=>n) (λ_ _ r=>r) (λh _ r=>c h rfl r) (λ_ _ r=>r) (λh _ _ r=>c h rfl r) (λh _ _ r=>c h rfl r)
  (λ_ h h2 _ _ r=>c h rfl (c h2 rfl r)) (λ_ _ _=>n) n (λ_ _ h t a m=>(abl.mp m).elim (h a) (t a)) r
theorem aC.cG:∀{ds} {vs} {fp},aC K H ds vs fp->∀a∈fp,∃o,H a=some o/\jl o=true
 |_,_,_,.nil,_,m=>nomatch m
 |_,_,_,.cons h t,a,m=>(abl.mp m).elim (h.cG a) (aC.cG t a)
theorem Rep.same(h:Rep K H d v fp)(s:aJ H H'):Rep K H' d v fp:=
 h.frame (λa m=>let⟨o,e,_⟩:=h.cG a m;(s a o e).trans e.symm) (.of s)
theorem aC.same(h:aC K H ds vs fp)(s:aJ H H'):aC K H' ds vs fp:=
 h.frame (λa m=>let⟨o,e,_⟩:=h.cG a m;(s a o e).trans e.symm) (.of s)
theorem aC.length:∀{ds} {vs} {fp},aC K H ds vs fp->ds.length=vs.length
 |_,_,_,.nil=>rfl
 |_,_,_,.cons _ t=>by rw[acj,acj,aC.length t]
theorem aC.get:∀{ds} {vs} {fp}{i:Nat} {d},aC K H ds vs fp->ds[i]? = some d->∃v f,vs[i]? = some v/\Rep K H d v f/\∀a∈f,a∈fp
 |_,_,_,_,_,.nil,e=>by simp at e
 |_,_,_,0,_,.cons h t,e=>by
  have e':=acf e;subst e';exact⟨_,_,rfl,h,λa m=>abj _ m⟩
 |_,_,_,i+1,d,.cons h t,e=>by
  obtain⟨v,f,e1,r,s⟩:=aC.get t (by simpa using e);exact⟨v,f,by simpa using e1,r,λa m=>aas _ (s a m)⟩
theorem aC.append:∀{ds es} {vs ws} {f g},aC K H ds vs f->aC K H es ws g->aC K H (ds++es) (vs++ws) (f++g)
 |_,_,_,_,_,_,.nil,s=>s
 |_,_,_,_,_,g,.cons h t,s=>by
  rw[afB];exact .cons h (aC.append t s)
end
theorem Rep.jh{K:PySem.W.Frag}(r:Rep K H (.int i) v fp):v=.int i/\fp=[]:=by cases r;exact⟨rfl,rfl⟩
theorem Rep.zU{K:PySem.W.Frag}(r:Rep K H (.bl i) v fp):v=.bl i/\fp=[]:=by cases r;exact⟨rfl,rfl⟩
theorem Rep.y_{K:PySem.W.Frag}(r:Rep K H (.str i) v fp):v=.str i/\fp=[]:=by cases r;exact⟨rfl,rfl⟩
theorem Rep.BS{K:PySem.W.Frag}(r:Rep K H .az v fp):v=.az/\fp=[]:=by cases r;exact⟨rfl,rfl⟩
mutual
noncomputable def aB:D->Bool
 |.lst _|.bf _|.cj _|.ins _ _=>false
 |.tup ds=>aL ds
 |.gP ds=>aL ds
 |_=>true
noncomputable def aL:List D->Bool
 |[]=>true
 |d::ds=>aB d&&aL ds
end
section
variable{K:PySem.W.Frag}
theorem Rep.aB(r:Rep K H d v fp)(e:aB d=true):fp=[]:=
 Rep.rec (motive_2:=λds _ fp _=>aL ds=true->fp=[]) (λ_=>rfl) (λ_ _=>rfl) (λ_ _=>rfl) (λ_ _=>rfl) (λ_ _ r e=>r (by rw[L2.Ev.aB] at e;exact e)) (λ_ _ _ e=>by delta L2.Ev.aB at e;cases e) (λ_ _ r e=>r (by rw[L2.Ev.aB] at e;exact e))
  (λ_ _ _ _ e=>by delta L2.Ev.aB at e;cases e) (λ_ _ _ _ e=>by delta L2.Ev.aB at e;cases e) (λ_ _ _ _ _ _ e=>by delta L2.Ev.aB at e;cases e) (λ_ _ _ _=>rfl) (λ_=>rfl) (λ_ _ h t e=>by
   rw[aL,aaV] at e;rw[h e.1,t e.2];rfl) r e
theorem aC.aB:∀{ds} {vs} {fp},aC K H ds vs fp->aL ds=true->fp=[]
 |_,_,_,.nil,_=>rfl
 |_,_,_,.cons h t,e=>by
  rw[aL,aaV] at e;rw[h.aB e.1,aC.aB t e.2];rfl
end
inductive Tag where
 |own|lk|sh (o:List Nat)
noncomputable abbrev Slot:=Option (D×Tag)
abbrev aO:=List Slot
def uC(z:Addr->Option Nat)(i:Nat):Tag->List Addr->Prop
 |.sh o,fp=>∀a∈fp,∀j,z a=some j->j∈o
 |_,fp=>fp.Nodup/\∀a∈fp,z a=some i
def vU(ρ:aO)(j:Nat):Prop:=∀d,ρ[j]?≠some (some (d,.own))
structure pH where
 d:D
 v:V
 fp:List Addr
 z0:Addr->Option Nat
structure Ok(K:PySem.W.Frag)(H0:Hp)(S:List Addr)(z:Addr->Option Nat)(aq:List pH)(ρ:aO)(σ:St)(H:Hp):Prop where
 sl:∀i d t,ρ[i]? = some (some (d,t))->∃v fp,σ[i]? = some (some v)/\Rep K H d v fp/\uC z i t fp
 hl:∀p∈aq,Rep K H p.d p.v p.fp/\∀a∈p.fp,∀j,z a=some j->p.z0 a=some j/\vU ρ j
 zd:∀a j,z a=some j->(∃o,H a=some o)/\(H0 a=none\/a∈S)
 en:∀a o,H0 a=some o->a∉S->H a=some o
 ln:ρ.length=σ.length
theorem Ok.same{K:PySem.W.Frag}(h:Ok K H0 S z aq ρ σ H)(s:aJ H H'):Ok K H0 S z aq ρ σ H':=
 ⟨λi d t e=>let⟨v,fp,a,b,c⟩:=h.sl i d t e;⟨v,fp,a,b.same s,c⟩,λp m=>let⟨a,b⟩:=h.hl p m;⟨a.same s,b⟩,
  λa j e=>let⟨⟨o,x⟩,y⟩:=h.zd a j e;⟨⟨o,s _ _ x⟩,y⟩,λa o e n=>s _ _ (h.en a o e n),h.ln⟩
def cO(z:Addr->Option Nat)(H:Hp):Tag->List Addr->Prop
 |.sh o,fp=>∀a∈fp,∀j,z a=some j->j∈o
 |_,fp=>fp.Nodup/\∀a∈fp,H a=none
theorem cO.nil:cO z H t []:=by
 cases t with
 |sh o=>intro a m;cases m
 |own=>exact⟨acW,λa m=>nomatch m⟩
 |lk=>exact⟨acW,λa m=>nomatch m⟩
abbrev EF:=aO->Option (D×Tag)
def FP(X:Cx)(e:Expr)(f:EF):Prop:=∃t,PE X e t/\∀{H0} {S} {z} {aq} {ρ} {σ} {H} {Q} {d} {tg},
 Ok X.K H0 S z aq ρ σ H->f ρ=some (d,tg)->(∀H' v fp,aJ H H'->Rep X.K H' d v fp->cO z H tg fp->Q v H')->t σ H Q
abbrev AF:=aO->Option (List (D×Tag))
abbrev TF:=aO->Option Bool
def FT(X:Cx)(e:Expr)(f:TF):Prop:=∃t,PT X e t/\∀{H0} {S} {z} {aq} {ρ} {σ} {H} {Q} {b},
 Ok X.K H0 S z aq ρ σ H->f ρ=some b->(∀H',aJ H H'->Q b H')->t σ H Q
noncomputable def DH(i:Nat):Tag->Tag
 |.sh o=>.sh o
 |_=>.sh [i]
def aj(i:Nat):EF:=λρ=>match ρ[i]? with
 |some (some (d,t))=>some (d,DH i t)
 |_=>none
theorem af(i:Nat)(va:VA X i x:=by walk_at "va"):FP X (.Name x pos) (aj i):=by
 exists 20,va.pe;unfold aj at e;exists h,ρ[i]?,s,e,0;cases s with
 |none=>rw[h] at e;cases e
 |some p=>
  obtain⟨d',t⟩:=p;rw[h] at e;have e':=acf e;have e1:=congrArg Prod.fst e';have e2:=congrArg Prod.snd e';subst e1 e2;obtain⟨v,fp,hs,r,zz⟩:=ok.sl i d' t h;refine⟨v,hs,q H v fp (aJ.refl H) r ?_⟩;cases t with
  |sh o=>exact zz
  |own=>intro a m j ej;rw[zz.2 a m] at ej;cases ej;exact aad
  |lk=>intro a m j ej;rw[zz.2 a m] at ej;cases ej;exact aad
noncomputable def eC(d:D):EF:=λ_=>some (d,.own)
theorem aA{i j pos}:FP X (.Constant (.int i) j pos) (eC (.int i)):=⟨_,M6,@λ_ _ _ _ _ _ H _ _ _ _ e q=>by cases e;exact q H _ _ (aJ.refl H) (.int i) .nil⟩
theorem fQ{b j pos}:FP X (.Constant (.bool b) j pos) (eC (.bl b)):=⟨_,YS,@λ_ _ _ _ _ _ H _ _ _ _ e q=>by cases e;exact q H _ _ (aJ.refl H) (.bl b) .nil⟩
theorem mT{j pos}:FP X (.Constant .none j pos) (eC .az):=⟨_,VD,@λ_ _ _ _ _ _ H _ _ _ _ e q=>by cases e;exact q H _ _ (aJ.refl H) .az .nil⟩
theorem cJ{x j pos}:FP X (.Constant (.str x) j pos) (eC (.str x)):=⟨_,Ut,@λ_ _ _ _ _ _ H _ _ _ _ e q=>by cases e;exact q H _ _ (aJ.refl H) (.str x) .nil⟩
noncomputable def e2(op:D->D->Option D)(fa fb:EF):EF:=λρ=>match fa ρ,fb ρ with
 |some (d1,_),some (d2,_)=>(op d1 d2).map λd=>(d,.own)
 |_,_=>none
theorem oZ(e:e2 op fa fb ρ=some (d,tg)):∃d1 t1 d2 t2,fa ρ=some (d1,t1)/\fb ρ=some (d2,t2)/\op d1 d2=some d/\tg=.own:=by
 unfold e2 at e;exists h1,fa ρ,p,e,0;obtain⟨d1,t1⟩:=p;cases h2:fb ρ with
 |none=>rw[h1,h2] at e;cases e
 |some p=>
  obtain⟨d2,t2⟩:=p;rw[h1,h2] at e;exists 68;exists h3,op d1 d2,d3,e;cases e;exact⟨d1,t1,d2,t2,rfl,rfl,h3,rfl⟩
def gq(K:PySem.W.Frag)(r:R2)(op:D->D->Option D):Prop:=∀(H) (x y) (d1 d2) (f1 f2) (d) (Q),Rep K H d1 x f1->Rep K H d2 y f2->op d1 d2=some d->
 (∀H' v,aJ H H'->Rep K H' d v []->Q v H')->r x y H Q
theorem fp_2{a b e:Expr}(dd:gq X.K r op)(ha:FP X a fa)(hb:FP X b fb)(he:∀ta tb,PE X a ta->PE X b tb->PE X e (uf r ta tb)):FP X e (e2 op fa fb):=by
 exists 46;exists 20,he ta tb pa pb;obtain⟨d1,t1,d2,t2,e1,h_,e3,rfl⟩:=oZ e;exists 66
 exists 47
 exact dd H2 x y d1 d2 f1 f2 d Q (r1.same s2) r2 e3 λH3 v s3 r3=>q H3 v [] ((s1.trans s2).trans s3) r3 .nil
end L2.Ev
namespace L2.Ev
open PySem PySem.Spec PyProof.Rows
noncomputable def PF:Tag->Tag->Tag
 |.sh o,.sh p=>.sh (o++p)
 |.sh o,_=>.sh o
 |_,t=>t
def jK:List (D×Tag)->Tag
 |[]=>.own
 |p::r=>PF p.2 (jK r)
def FA(X:Cx)(es:List Expr)(f:AF):Prop:=∃t,PA X es t/\(∀ρ ps,f ρ=some ps->ps.length=es.length)/\∀{H0} {S} {z} {aq} {ρ} {σ} {H} {Q} {ps},
 Ok X.K H0 S z aq ρ σ H->f ρ=some ps->(∀H' vs fp,aJ H H'->aC X.K H' (ps.map (·.1)) vs fp->cO z H (jK ps) fp->Q vs H')->t σ H Q
noncomputable def aE:AF:=λ_=>some []
noncomputable def au(f:EF)(g:AF):AF:=λρ=>match f ρ,g ρ with
 |some p,some ps=>some (p::ps)
 |_,_=>none
theorem J9(e:au f g ρ=some ps):∃d t r,f ρ=some (d,t)/\g ρ=some r/\ps=(d,t)::r:=by
 unfold au at e;exists h1,f ρ,p,e,0;cases h2:g ρ with
 |none=>rw[h1,h2] at e;cases e
 |some r=>
  rw[h1,h2] at e;cases e;exact⟨p.1,p.2,r,rfl,rfl,rfl⟩
theorem cO.join{K:PySem.W.Frag}(ok:Ok K H0 S z aq ρ σ H)(s:aJ H H1)
  (h1:cO z H t1 f1) (d1:∀a∈f1,∃o,H1 a=some o/\jl o=true) (h2:cO z H1 t2 f2):cO z H (PF t1 t2) (f1++f2):=by
 have nz:∀{a} {j},H a=none->z a=some j->False:=λ{a j} e q=>by
  obtain⟨⟨o,w⟩,_⟩:=ok.zd a j q;rw[e] at w;cases w
 have both:∀{t1 t2:Tag},(f1.Nodup/\∀a∈f1,H a=none)->(f2.Nodup/\∀a∈f2,H1 a=none)->(f1++f2).Nodup/\∀a∈f1++f2,H a=none:=λp q=>by
  refine⟨acR.mpr ⟨p.1,q.1,λa m b m' e=>?_⟩,λa m=>?_⟩
  .subst e;obtain⟨o,w,_⟩:=d1 a m;rw[q.2 a m'] at w;cases w
  .rcases abl.mp m with m|m
   .exact p.2 a m
   .exact s.free (q.2 a m)
 cases t1 with
 |sh o=>
  have iB:=h1;cases t2 with
  |sh p=>
   intro a m j q;rcases abl.mp m with m|m
   .exact abj _ (iB a m j q)
   .exact aas _ (h2 a m j q)
  |own=>
   intro a m j q;rcases abl.mp m with m|m
   .exact iB a m j q
   .exact(nz (s.free (h2.2 a m)) q).elim
  |lk=>
   intro a m j q;rcases abl.mp m with m|m
   .exact iB a m j q
   .exact(nz (s.free (h2.2 a m)) q).elim
 |own=>
  cases t2 with
  |sh p=>
   intro a m j q;rcases abl.mp m with m|m
   .exact(nz (h1.2 a m) q).elim
   .exact h2 a m j q
  |own=>exact both (t1:=.own) (t2:=.own) h1 h2
  |lk=>exact both (t1:=.own) (t2:=.own) h1 h2
 |lk=>
  cases t2 with
  |sh p=>
   intro a m j q;rcases abl.mp m with m|m
   .exact(nz (h1.2 a m) q).elim
   .exact h2 a m j q
  |own=>exact both (t1:=.own) (t2:=.own) h1 h2
  |lk=>exact both (t1:=.own) (t2:=.own) h1 h2
theorem aD:FA X [] aE:=⟨_,fY,λ_ _ e=>by cases e;rfl,@λ_ _ _ _ _ _ H _ _ _ e q=>by cases e;exact q H _ _ (aJ.refl H) .nil .nil⟩
theorem ao{e:Expr}{es:List Expr}(ha:FP X e f)(hr:FA X es g)(hs:starEach (e::es) X.env=(false,eval e X.env)::starEach es X.env:=by rfl):FA X (e::es) (au f g):=by
 exists 61;obtain⟨t',p',l',q'⟩:=hr;refine⟨_,d8 p p' hs,λρ ps e=>by obtain⟨d,tg,r,e1,e2,rfl⟩:=J9 e;rw[acj,acj,l' ρ r e2],@λH0 S z aq ρ σ H Q ps ok e k=>?_⟩;obtain⟨d,tg,r,e1,e2,rfl⟩:=J9 e;refine q ok e1 λH1 v f1 s1 r1 g1=>?_
 refine q' (ok.same s1) e2 λH2 vs f2 s2 r2 g2=>?_
 exact k H2 (v::vs) (f1++f2) (s1.trans s2) (.cons (r1.same s2) r2) (cO.join ok s1 g1 r1.cG g2)
def iV(g:AF):EF:=λρ=>(g ρ).map λps=>(.tup (ps.map (·.1)),jK ps)
theorem gZ{x1}(h:FA X es g)(hl:es.length<=1000:=by decide):FP X (.Tuple es x1 pos) (iV g):=by
 obtain⟨t,p,hg,q⟩:=h;exists 21,L7 p;unfold iV at e;exists h1,g ρ,ps,e;cases e;refine q ok h1 λH1 vs fp s1 r1 g1=>⟨?_,λa ha=>?_⟩
 .rw[<- r1.length,List.length_map,hg ρ ps h1];exact afY (BJ hl)
 .have s2:aJ H1 (upd H1 a (.tup vs)):=λb o e=>by rw[aP (cV e ha)];exact e
  exact k _ _ fp (s1.trans s2) (.tup (cg.of cD) (r1.same s2)) g1
def iG(g:AF):EF:=λρ=>(g ρ).map λps=>(.lst (ps.map (·.1)),jK ps)
theorem cO.cons{K:PySem.W.Frag}(ok:Ok K H0 S z aq ρ σ H)(s:aJ H H1)(h:cO z H t fp)
  (d:∀b∈fp,∃o,H1 b=some o/\jl o=true) (ha:H1 a=none):cO z H t (a::fp):=by
 have na:=s.free ha;have both:(fp.Nodup/\∀b∈fp,H b=none)->(a::fp).Nodup/\∀b∈a::fp,H b=none:=λp=>by
  refine⟨ab4.mpr ⟨λm=>?_,p.1⟩,λb m=>?_⟩
  .obtain⟨o,w,_⟩:=d a m;rw[ha] at w;cases w
  .rcases aaA.mp m with e|m
   .rw[e];exact na
   .exact p.2 b m
 cases t with
 |sh o=>
  intro b m j q;rcases aaA.mp m with e|m
  .obtain⟨⟨o,w⟩,_⟩:=ok.zd b j q;rw[e,na] at w;cases w
  .exact h b m j q
 |own=>exact both h
 |lk=>exact both h
theorem gz(h:FA X es g)(hl:es.length<=1000:=by decide):FP X (.List es pos) (iG g):=by
 obtain⟨t,p,hg,q⟩:=h;exists 21,Vr p;unfold iG at e;exists h1,g ρ,ps,e;cases e;refine q ok h1 λH1 vs fp s1 r1 g1=>⟨?_,λa ha=>?_⟩
 .rw[<- r1.length,List.length_map,hg ρ ps h1];exact afY (BJ hl)
 .have s2:aJ H1 (upd H1 a (.lst vs)):=λb o e=>by rw[aP (cV e ha)];exact e
  exact k _ _ (a::fp) (s1.trans s2) (.lst cD (r1.same s2)) (g1.cons ok s1 r1.cG ha)
def bq(K:PySem.W.Frag)(F:List D->Option D):Sp:=λvs H Q _=>∃ds fp d,aC K H ds vs fp/\F ds=some d/\∀H' v jH,aJ H H'->Rep K H' d v jH->jH.Nodup->(∀a∈jH,H a=none)->Q v H'
noncomputable def cP(F:List D->Option D)(g:AF):EF:=λρ=>(g ρ).bind λps=>(F (ps.map (·.1))).map λd=>(d,.own)
theorem acQ(e:cP F g ρ=some (d,tg)):∃ps,g ρ=some ps/\F (ps.map (·.1))=some d/\tg=.own:=by
 unfold cP at e;exists h1,g ρ,ps,e,0;rw[h1,ac0] at e;exists h2,F (ps.map (·.1)),d',e;cases e;exact⟨ps,rfl,h2,rfl⟩
theorem bB(G:cE X.prog X.w X.K X.mg X.base dF k f fd ps (bq X.K F) cm)(hr:bH k X.A cm)(hm:X.mg x=some (.ref f))(hk:PySem.W.keepIn X.K (.ref f)=true)(hb:Binds X.K fd ps [])(ha:FA X (e::es) g)
  (hg:GD X x:=by exact⟨rfl,by decide⟩)
  (he:SE X e es pos:=by exact⟨rfl,rfl⟩):FP X (.Call (.Name x p) (e::es) [] pos) (cP F g):=by
 obtain⟨t,pa,_,sa⟩:=ha;refine⟨_,NK G hr hg.1 hm hk hb .nil n_ pa hg.2 he.1 he.2,@λH0 S z aq ρ σ H Q d tg ok e0 q=>?_⟩;obtain⟨qs,e1,e2,rfl⟩:=acQ e0;refine sa ok e1 λH1 vs fp s1 r1 _=>?_
 rw[acG];exact⟨_,fp,d,r1,e2,λH2 v jH s2 r2 nd fr=>q H2 v jH (s1.trans s2) r2 ⟨nd,λa m=>s1.free (fr a m)⟩⟩
noncomputable def tV(f:EF):TF:=λρ=>match f ρ with
 |some (.bl b,_)=>some b
 |_=>none
theorem Aq(e:tV f ρ=some b):∃t,f ρ=some (.bl b,t):=by
 unfold tV at e;exists h,f ρ,p,e,0;obtain⟨d,t⟩:=p;rw[h] at e;cases d<;>first|(cases e;exact⟨t,rfl⟩)|cases e
theorem fX(h:FP X e f)(he:∀whole,isTrue e X.env whole=(do let v <- whole;standAt e.pos;holding [v] (truthy v)):=by intro _;rfl):FT X e (tV f):=by
 obtain⟨t,p,q⟩:=h;refine⟨_,C5 p he,@λH0 S z aq ρ σ H Q b ok e k=>?_⟩;obtain⟨tg,e1⟩:=Aq e;refine q ok e1 λH1 v fp s1 r1 _=>?_
 cases r1;exact⟨b,rfl,k H1 s1⟩
theorem j6(ho:di X (compareOp op) r)(dd:gq X.K r o)(ha:FP X a fa)(hb:FP X b fb)(hm:behindInMarks op b=false):FT X (.Compare a [op] [b] pos) (tV (e2 o fa fb)):=by
 exists 46;exists 22,ae1 ho pa pb hm;obtain⟨tg,e0⟩:=Aq e;obtain⟨d1,t1,d2,t2,e1,h_,e3,rfl⟩:=oZ e0;exists 66
 exists 47
 refine dd H2 x y d1 d2 f1 f2 _ _ (r1.same s2) r2 e3 λH3 v s3 r3=>?_
 cases r3;exact⟨c,rfl,k H3 ((s1.trans s2).trans s3)⟩
theorem nI(ho:di X (compareOp op) r)(dd:gq X.K r o)(ha:FP X a fa)(hb:FP X b fb)(hm:behindInMarks op b=false):FP X (.Compare a [op] [b] pos) (e2 o fa fb):=
 fp_2 dd ha hb λ_ _ pa pb=>KY ho pa pb hm
theorem wU(ho:di X (binaryOp op) r)(dd:gq X.K r o)(ha:FP X a fa)(hb:FP X b fb):FP X (.BinOp a op b pos) (e2 o fa fb):=
 fp_2 dd ha hb λ_ _ pa pb=>Ju ho pa pb
noncomputable def iK(f g:TF):TF:=λρ=>match f ρ with
 |some true=>g ρ
 |some false=>some false
 |none=>none
noncomputable def lT(f g:TF):TF:=λρ=>match f ρ with
 |some true=>some true
 |some false=>g ρ
 |none=>none
noncomputable def nW(f:TF):TF:=λρ=>(f ρ).map λb=>!b
def FW(X:Cx)(e:Expr)(f:TF):Prop:=∃t,PW X e t/\∀{H0} {S} {z} {aq} {ρ} {σ} {H} {Q} {b},
 Ok X.K H0 S z aq ρ σ H->f ρ=some b->(∀H',aJ H H'->Q b H')->t σ H Q
theorem FW.ft(h:FW X e f):FT X e f:=let⟨t,p,q⟩:=h;⟨t,p.pt,q⟩
theorem lS(h:FT X a f):FW X (.BoolOp .And [a] pos) f:=let⟨t,p,q⟩:=h;⟨t,Mn p,q⟩
theorem o_(h:FT X a f):FW X (.BoolOp .Or [a] pos) f:=let⟨t,p,q⟩:=h;⟨t,acv p,q⟩
theorem kH{rest:List Expr}(ha:FT X a f)(hb:FW X (.BoolOp .And (b::rest) pos) g):FW X (.BoolOp .And (a::b::rest) pos) (iK f g):=by
 exists 61;obtain⟨t',p',q'⟩:=hb;exists 22,OL p p';unfold iK at e;exists h,f ρ,y,e;cases y with
 |false=>
  cases e;refine q ok h λH1 s1=>?_
  rw[if_neg abk];exact k H1 s1
 |true=>
  refine q ok h λH1 s1=>?_
  rw[if_pos rfl];exact q' (ok.same s1) e λH2 s2=>k H2 (s1.trans s2)
theorem lV{rest:List Expr}(ha:FT X a f)(hb:FW X (.BoolOp .Or (b::rest) pos) g):FW X (.BoolOp .Or (a::b::rest) pos) (lT f g):=by
 exists 61;obtain⟨t',p',q'⟩:=hb;exists 22,adN p p';unfold lT at e;exists h,f ρ,y,e;cases y with
 |true=>
  cases e;refine q ok h λH1 s1=>?_
  rw[if_pos rfl];exact k H1 s1
 |false=>
  refine q ok h λH1 s1=>?_
  rw[if_neg abk];exact q' (ok.same s1) e λH2 s2=>k H2 (s1.trans s2)
theorem jj(ha:FT X a f):FT X (.UnaryOp .Not a pos) (nW f):=by
 exists 61;exists 22,KR p;unfold nW at e;exists h,f ρ,y,e;cases e;exact q ok h λH1 s1=>k H1 s1
inductive Out where
 |nx (ρ:aO)|rt (d:D)|bk (ρ:aO)|ct (ρ:aO)
 |er (raw:Bool) (cn:XN) (ρ:aO)
abbrev SF:=aO->Option Out
noncomputable def kc(X:Cx)(x:Str):Bool:=x==("self":Str)||(X.fn ("self":Str)&&!X.fn x)
def Kp(X:Cx)(σ aI:St):Prop:=∀(i:Nat) (x),X.N[i]? = some x->kc X x=true->aI[i]? = σ[i]?
theorem Kp.refl(X:Cx)(σ:St):Kp X σ σ:=λ_ _ _ _=>rfl
theorem Kp.trans(a:Kp X σ pM)(b:Kp X pM iM):Kp X σ iM:=λi x h k=>(b i x h k).trans (a i x h k)
theorem Kp.set(hi:X.N[i]? = some x)(hs:kc X x=false):Kp X σ (σ.set i v):=λj y h k=>by
 refine acS λe=>?_
 subst e;rw[hi] at h;have h:=acf h;subst h;rw[hs] at k;cases k
def vI(X:Cx)(H0:Hp)(S:List Addr)(aq:List pH)(pC:St)(raw:Bool)(cn:XN)(ρ:aO):Prop:=∃ES:XS,(if raw=true then aag X ES else zj X ES)/\
 ∀z σ H C,Ok X.K H0 S z aq ρ σ H->Kp X pC σ->PySem.W.nsIn X.K mainGlobals cn.1=some (some (.ref C))->ES (.ref C) cn.2 σ H
theorem vI.of(k:vI X H0 S aq σ raw cn ρ)(a:Kp X σ aI):vI X H0 S aq aI raw cn ρ:=
 let⟨ES,th,q⟩:=k;⟨ES,th,λz s H C ok b hC=>q z s H C ok (a.trans b) hC⟩
def qk(X:Cx)(H0:Hp)(S:List Addr)(aq:List pH)(pC:St)(E:Ends):Out->Prop
 |.nx ρ=>∀z σ H,Ok X.K H0 S z aq ρ σ H->Kp X pC σ->E.nx σ H
 |.bk ρ=>∀z σ H,Ok X.K H0 S z aq ρ σ H->Kp X pC σ->E.bk σ H
 |.ct ρ=>∀z σ H,Ok X.K H0 S z aq ρ σ H->Kp X pC σ->E.ct σ H
 |.er raw cn ρ=>vI X H0 S aq pC raw cn ρ
 |.rt d=>∀H v fp,(∀a o,H0 a=some o->a∉S->H a=some o)->Rep X.K H d v fp->fp.Nodup->(∀a∈fp,H0 a=none\/a∈S)->E.rt v H
def FS(X:Cx)(st:List Stmt)(f:SF):Prop:=∃t,iF X st t/\∀{H0} {S} {z} {aq} {ρ} {σ} {H} {E} {o},
 Ok X.K H0 S z aq ρ σ H->f ρ=some o->qk X H0 S aq σ E o->t E σ H
def fC(X:Cx)(st:Stmt)(f:SF):Prop:=∃t,PS X st t/\∀{H0} {S} {z} {aq} {ρ} {σ} {H} {E} {o},
 Ok X.K H0 S z aq ρ σ H->f ρ=some o->qk X H0 S aq σ E o->t E σ H
theorem qk.of(k:qk X H0 S aq σ E o)(a:Kp X σ aI):qk X H0 S aq aI E o:=by
 cases o with
 |nx ρ=>exact λz s H ok b=>k z s H ok (a.trans b)
 |bk ρ=>exact λz s H ok b=>k z s H ok (a.trans b)
 |ct ρ=>exact λz s H ok b=>k z s H ok (a.trans b)
 |rt d=>exact k
 |er raw cn ρ=>exact vI.of k a
noncomputable def g9:SF:=λρ=>some (.nx ρ)
noncomputable def cu(f g:SF):SF:=λρ=>match f ρ with
 |some (.nx ρ')=>g ρ'
 |o=>o
theorem b8:FS X [] g9:=⟨_,Ow,@λ_ _ z _ _ σ H _ _ ok e k=>by cases e;exact k z σ H ok (.refl _ _)⟩
theorem aH{st:Stmt}(h:fC X st f):FS X [st] f:=let⟨t,p,q⟩:=h;⟨t,Kw p,q⟩
theorem aM{st:Stmt}{rest:List Stmt}(h1:fC X st f)(h2:FS X rest g):FS X (st::rest) (cu f g):=by
 obtain⟨t,p,q⟩:=h1;obtain⟨t',p',q'⟩:=h2;exists 23,zL p p';unfold cu at e;exists h,f ρ,w,e,0;refine q ok h ?_;rw[h] at e;cases w with
 |nx ρ'=>exact λz' aI H' aW a=>q' aW e (k.of a)
 |rt d=>cases e;exact k
 |bk ρ'=>cases e;exact k
 |ct ρ'=>cases e;exact k
 |er _ _ _=>cases e;exact k
noncomputable def OM:SF:=λ_=>none
theorem Nt{st:Stmt}:fC X st OM:=⟨_,Rw,@λ_ _ _ _ _ _ _ _ _ _ e _=>by cases e⟩
noncomputable def fN(c:TF)(f g:SF):SF:=λρ=>match c ρ with
 |some true=>f ρ
 |some false=>g ρ
 |none=>none
theorem bU(hc:FT X c tc)(ha:FS X a f)(hb:FS X b g):fC X (.If c a b pos) (fN tc f g):=by
 obtain⟨t,p,q⟩:=hc;obtain⟨t1,p1,q1⟩:=ha;obtain⟨t2,p2,q2⟩:=hb;exists 23,Jm p p1 p2;unfold fN at e;exists h,tc ρ,y,e;refine q ok h λH1 s1=>?_
 cases y with
 |true=>rw[if_pos rfl];exact q1 (ok.same s1) e k
 |false=>rw[if_neg abk];exact q2 (ok.same s1) e k
noncomputable def jV:Tag->Bool
 |.sh _=>false
 |_=>true
def o8(f:EF):SF:=λρ=>match f ρ with
 |some (d,t)=>if jV t=true then some (.rt d) else if aB d=true then some (.rt d) else none
 |none=>none
theorem aT(he:FP X e f):fC X (.Return (some e) pos) (o8 f):=by
 obtain⟨t,p,q⟩:=he;exists 23,wY p;unfold o8 at e;exists h,f ρ,w,e,0;obtain⟨d,tg⟩:=w;rw[h] at e;exists 68;exists 55
 have en:∀a o,H0 a=some o->a∉S->H1 a=some o:=λa o e n=>s1 _ _ (ok.en a o e n)
 by_cases ho:jV tg=true
 .rw[if_pos ho] at e;cases e;have g:fp.Nodup/\∀a∈fp,H a=none:=by cases tg<;>first|exact g1|cases ho
  refine k H1 v fp en r1 g.1 λa m=>?_
  cases h0:H0 a with
  |none=>exact .inl rfl
  |some o=>
   by_cases hs:a∈S
   .exact .inr hs
   .have w:=ok.en a o h0 hs;rw[g.2 a m] at w;cases w
 .rw[if_neg ho] at e;exists 73;cases e;have hn:=r1.aB hi;subst hn;exact k H1 v [] en r1 acW λa m=>nomatch m
def pL(i:Nat):SF:=λρ=>match ρ[i]? with
 |some (some (d,t))=>if jV t=true then some (.rt d) else if aB d=true then some (.rt d) else none
 |_=>none
theorem oG(i:Nat)(va:VA X i x:=by walk_at "va"):fC X (.Return (some (.Name x pos')) pos) (pL i):=by
 exists 23,wY va.pe;unfold pL at e;exists h,ρ[i]?,w,e,0;cases w with
 |none=>rw[h] at e;cases e
 |some w=>
  obtain⟨d,tg⟩:=w;rw[h] at e;exists 68;obtain⟨v,fp,hs,r,zz⟩:=ok.sl i d tg h;refine⟨v,hs,?_⟩
  by_cases ho:jV tg=true
  .rw[if_pos ho] at e;cases e;have g:fp.Nodup/\∀a∈fp,z a=some i:=by cases tg<;>first|exact zz|cases ho
   exact k H v fp ok.en r g.1 λa m=>(ok.zd a i (g.2 a m)).2
  .rw[if_neg ho] at e;exists 73;cases e;have hn:=r.aB hi;subst hn;exact k H v [] ok.en r acW λa m=>nomatch m
noncomputable def iH(ρ:aO)(i:Nat)(d:D):Tag->aO
 |.sh o=>ρ.set i (some (d,.sh o))
 |_=>ρ.set i (some (d,.own))
def dJ(i:Nat)(f:EF):SF:=λρ=>match f ρ with
 |some (d,t)=>some (.nx (iH ρ i d t))
 |none=>none
theorem Ok.chg{K:PySem.W.Frag}{fp bI fo:List Addr}(ok:Ok K H0 S z aq ρ σ H)(hi:ρ'[i]? = some (some (d,tg)))(hs:aI[i]? = some (some v))(h0:∀a∈bI,z a=some i)(im:aV H H')
  (keep:∀b o,b∉bI->H b=some o->H' b=some o) (r:Rep K H' d v fp) (hz:uC z' i tg fp) (zn:∀a,a∉fo->z a=some i/\z' a=none\/z' a=z a/\a∉bI/\(z a=some i->¬vU ρ i)) (Ii:∀a∈fo,(a∈bI\/H a=none)/\∃o,H' a=some o)
  (ot:∀{j d t},j≠i->ρ'[j]? = some (some (d,t))->ρ[j]? = some (some (d,t))/\(bI=[]\/∀o,t=.sh o->i∉o)) (os:∀j,j≠i->aI[j]? = σ[j]?) (hh:bI=[]\/¬vU ρ i) (ln:ρ'.length=aI.length):Ok K H0 S z' aq ρ' aI H':=by
 have old:∀{a} {o},a∉bI->H a=some o->a∉fo:=λn e m=>(Ii _ m).1.elim n λq=>by rw[e] at q;cases q
 have at_:∀{a} {k},a∉fo->z' a=some k->z a=some k/\a∉bI/\(k=i->¬vU ρ i):=λ{a k} n e=>by
  rcases zn a n with⟨_,w⟩|⟨w,q,u⟩
  .rw[e] at w;cases w
  .rw[e] at w;exact⟨w.symm,q,λx=>u (x ▸ w.symm)⟩
 have S0:∀a∈bI,H0 a=none\/a∈S:=λa m=>(ok.zd a i (h0 a m)).2
 refine⟨λj d' t e=>?_,λp hp=>?_,λa j e=>?_,λa o e n=>keep a o (λm=>?_) (ok.en a o e n),ln⟩
 .by_cases hj:j=i
  .subst hj;rw[hi] at e;cases e;exact⟨v,fp,hs,r,hz⟩
  .obtain⟨e0,nd⟩:=ot hj e;obtain⟨v',jH,bR,r',zz⟩:=ok.sl j d' t e0;have n0:∀a∈jH,a∉bI:=λa m q=>by
    have zi:=h0 a q;rcases nd with rfl|nd
    .cases q
    cases t with
    |sh o=>exact nd o rfl (zz a m i zi)
    |own=>rw[zz.2 a m] at zi;exact hj (acf zi)
    |lk=>rw[zz.2 a m] at zi;exact hj (acf zi)
   have n1:∀a∈jH,a∉fo:=λa m=>let⟨o,w,_⟩:=r'.cG a m;old (n0 a m) w
   have o1:∀a∈jH,z a=some j->z' a=some j:=λa m e=>by
    rcases zn a (n1 a m) with⟨w,_⟩|⟨w,_⟩
    .rw[e] at w;exact(hj (acf w)).elim
    .rw[w,e]
   refine⟨v',jH,(os j hj).trans bR,r'.frame (λa m=>?_) im,?_⟩
   .obtain⟨o,w,_⟩:=r'.cG a m;rw[keep a o (n0 a m) w,w]
   .cases t with
    |sh o=>exact λa m k q=>zz a m k (at_ (n1 a m) q).1
    |own=>exact⟨zz.1,λa m=>o1 a m (zz.2 a m)⟩
    |lk=>exact⟨zz.1,λa m=>o1 a m (zz.2 a m)⟩
 .obtain⟨r',sR⟩:=ok.hl p hp;have n0:∀a∈p.fp,a∉bI:=λa m q=>by
   rcases hh with rfl|hh
   .cases q
   .exact hh (sR a m i (h0 a q)).2
  refine⟨r'.frame (λa m=>?_) im,λa m j q=>?_⟩
  .obtain⟨o,w,_⟩:=r'.cG a m;rw[keep a o (n0 a m) w,w]
  .obtain⟨o,w,_⟩:=r'.cG a m;obtain⟨q,_,hj⟩:=at_ (old (n0 a m) w) q;obtain⟨x,y⟩:=sR a m j q;exact⟨x,λd e=>y d (ot (λx=>hj x (x ▸ y)) e).1⟩
 .by_cases w:a∈fo
  .refine⟨(Ii a w).2,(Ii a w).1.elim (S0 a) λq=>?_⟩;cases h0:H0 a with
   |none=>exact .inl rfl
   |some o=>
    by_cases hs:a∈S
    .exact .inr hs
    .rw[ok.en a o h0 hs] at q;cases q
  .obtain⟨e,n,_⟩:=at_ w e;obtain⟨⟨o,x⟩,y⟩:=ok.zd a j e;exact⟨⟨o,keep a o n x⟩,y⟩
 .rcases S0 a m with q|q
  .rw[e] at q;cases q
  .exact n q
open Classical in
noncomputable def zN(fo:List Addr)(i:Nat)(z:Addr->Option Nat):Addr->Option Nat:=λa=>if a∈fo then some i else if z a=some i then none else z a
theorem GB{fo bI:List Addr}(h:∀a∈bI,z a=some i)(a:Addr)(n:a∉fo):z a=some i/\zN fo i z a=none\/zN fo i z a=z a/\a∉bI/\(z a=some i->P):=by
 unfold zN
 by_cases w:z a=some i
 .exact .inl ⟨w,by rw[if_neg n,if_pos w]⟩
 .exact .inr ⟨by rw[if_neg n,if_neg w],λm=>w (h a m),λq=>(w q).elim⟩
theorem Ok.set{K:PySem.W.Frag}{fp:List Addr}(ok:Ok K H0 S z aq ρ σ H)(hi:i<σ.length)(s:aJ H H1)
  (r:Rep K H1 d v fp) (g:cO z H t fp):∃z',Ok K H0 S z' aq (iH ρ i d t) (σ.set i (some v)) H1:=by
 have n0:∀a∈([]:List Addr),z a=some i:=λa m=>nomatch m
 have main:∀(fo) (tg),(∀a∈fo,H a=none/\a∈fp)->uC (zN fo i z) i tg fp->∃z',Ok K H0 S z' aq (ρ.set i (some (d,tg))) (σ.set i (some v)) H1:=λfo tg h hz=>
  ⟨_,ok.chg (aea (by rw[ok.ln];exact hi)) (aea hi) n0 (.of s) (λb o _ e=>s b o e) r hz (GB n0) (λa m=>⟨.inr (h a m).1,let⟨o,w,_⟩:=r.cG a (h a m).2;⟨o,w⟩⟩)
   (λhj e=>⟨(acS (afZ hj)).symm.trans e,.inl rfl⟩) (λj hj=>acS (afZ hj)) (.inl rfl) (by rw[afT,afT];exact ok.ln)⟩
 cases t with
 |own=>exact main fp .own (λa m=>⟨g.2 a m,m⟩) ⟨g.1,λa m=>if_pos m⟩
 |lk=>exact main fp .own (λa m=>⟨g.2 a m,m⟩) ⟨g.1,λa m=>if_pos m⟩
 |sh o=>
  refine main [] (.sh o) (λa m=>nomatch m) λa m j q=>?_
  rcases GB (fo:=[]) (P:=True) n0 a (λw=>nomatch w) with⟨_,w⟩|⟨w,_⟩
  .rw[q] at w;cases w
  .exact g a m j (w ▸ q)
theorem Ok.stored{K:PySem.W.Frag}{G:Prop}(ok:Ok K H0 S z aq ρ σ H)(s:aJ H H1)
  (r:Rep K H1 d v fp) (g:cO z H t fp) (k:∀z',Ok K H0 S z' aq (iH ρ i d t) (σ.set i (some v)) H1->G):G:=by
 by_cases hi:i<σ.length
 .obtain⟨z',aW⟩:=ok.set hi s r g;exact k z' aW
 .have e1:σ.set i (some v)=σ:=List.set_eq_of_length_le (Nat.le_of_not_lt hi);have e2:∀w,ρ.set i w=ρ:=λw=>List.set_eq_of_length_le (by rw[ok.ln];exact Nat.le_of_not_lt hi)
  have e3:iH ρ i d t=ρ:=by cases t<;>exact e2 _
  refine k z ?_;rw[e1,e3];exact ok.same s
theorem bz(i:Nat){x:Str}{e:Expr}(he:FP X e f)(hN:X.N.Nodup)(hi:X.N[i]? = some x:=by rfl)(hx:Loc X.env.scope x:=by first|exact Or.inl rfl|exact Or.inr rfl)
  (hs:swapsWith e (some (.Name x pos')) pos.line X.env=pure false:=by rfl) (hf:v6 X x:=by first|exact .inl rfl|exact .inr rfl) (pQ:kc X x=false:=by rfl):fC X (.Assign [.Name x pos'] e pos) (dJ i f):=by
 obtain⟨t,p,q⟩:=he;exists 23,Bx hN hi hx p hs hf;unfold dJ at e;exists h,f ρ,w,e,0;obtain⟨d,tg⟩:=w;rw[h] at e;cases e;exists 55
 exact ok.stored s1 r1 g1 λz' aW=>k z' _ H1 aW (.set hi pQ)
abbrev GF:=D->Tag->aO->Option aO
def FG(X:Cx)(tg:Expr)(g:GF)(is:List Nat):Prop:=(∀i∈is,∀x,X.N[i]? = some x->kc X x=false)/\∃t,PG X tg t/\∀{H0} {S} {z} {aq} {ρ} {σ} {H H1} {v} {d} {tag} {fp} {Q} {ρ'},
 Ok X.K H0 S z aq ρ σ H->aJ H H1->Rep X.K H1 d v fp->cO z H tag fp->g d tag ρ=some ρ'->(∀z' aI,Ok X.K H0 S z' aq ρ' aI H1->(aI.length=σ.length/\∀j,j∉is->aI[j]? = σ[j]?)->Q aI H1)->t v σ H1 Q
def gN(i:Nat):GF:=λd t ρ=>some (iH ρ i d t)
abbrev zh:=List D->aO->Option aO
theorem Kp.off{is:List Nat}(hk:∀i∈is,∀x,X.N[i]? = some x->kc X x=false)(h:∀j,j∉is->aI[j]? = σ[j]?):Kp X σ aI:=λi x e k=>h i λm=>by rw[hk i m x e] at k;cases k
def Aa(X:Cx)(ts:List Expr)(g:zh)(is:List Nat):Prop:=(∀i∈is,∀x,X.N[i]? = some x->kc X x=false)/\∃t,yF X ts t/\(∀ds ρ ρ',g ds ρ=some ρ'->ds.length=ts.length)/\∀{H0} {S} {z} {aq} {ρ} {σ} {H} {vs} {ds} {fp} {Q} {ρ'},
 Ok X.K H0 S z aq ρ σ H->aC X.K H ds vs fp->g ds ρ=some ρ'->(∀z' aI,Ok X.K H0 S z' aq ρ' aI H->(aI.length=σ.length/\∀j,j∉is->aI[j]? = σ[j]?)->Q aI H)->t vs σ H Q
noncomputable def jB:zh:=λds ρ=>match ds with
 |[]=>some ρ
 |_=>none
def cR(g:GF)(gs:zh):zh:=λds ρ=>match ds with
 |d::r=>if aB d=true then(g d .own ρ).bind λρ'=>gs r ρ' else none
 |_=>none
theorem Ka(e:cR g gs ds ρ=some ρ'):∃d r aQ,ds=d::r/\aB d=true/\g d .own ρ=some aQ/\gs r aQ=some ρ':=by
 cases ds with
 |nil=>cases e
 |cons d r=>
  unfold cR at e;exists 68;exists 73;exists h,g d .own ρ,aQ,e,0;rw[h,ac0] at e;exact⟨d,r,aQ,rfl,hi,h,e⟩
noncomputable def gT(gs:zh):GF:=λd _ ρ=>match d with
 |.tup ds=>gs ds ρ
 |_=>none
theorem bC(i:Nat)(hN:X.N.Nodup)(hi:X.N[i]? = some x:=by rfl)(hx:Loc X.env.scope x:=by first|exact Or.inl rfl|exact Or.inr rfl)(hf:v6 X x:=by first|exact .inl rfl|exact .inr rfl)(pQ:kc X x=false:=by rfl):FG X (.Name x pos) (gN i) [i]:=by
 refine⟨λj m y e=>by rw[aaU.mp m,hi] at e;have e:=acf e;subst e;exact pQ,_,Hu hN hi hx hf,@λH0 S z aq ρ σ H H1 v d tag fp Q ρ' ok s r g e k=>?_⟩;cases e;exact ok.stored s r g λz' aW=>k z' _ aW ⟨afT ..,λj hj=>acS λe=>hj (by rw[e];exact aad)⟩
theorem mZ:Aa X [] jB []:=by
 refine⟨λj m=>(nomatch m),_,L3,λds ρ ρ' e=>?_,@λH0 S z aq ρ σ H vs ds fp Q ρ' ok r e k=>?_⟩
 .cases ds with
  |nil=>rfl
  |cons _ _=>cases e
 .cases ds with
  |nil=>cases r;cases e;exact⟨rfl,k z σ ok ⟨rfl,λ_ _=>rfl⟩⟩
  |cons _ _=>cases e
theorem fB(h1:FG X e g is)(h2:Aa X es gs ks)(hs:(assignEach (e::es) X.env).map (·.2)=assign e X.env::(assignEach es X.env).map (·.2):=by rfl):Aa X (e::es) (cR g gs) (is++ks):=by
 obtain⟨n1,t,p,q⟩:=h1;obtain⟨n2,t',p',l',q'⟩:=h2;refine⟨λj m=>(abl.mp m).elim (n1 j) (n2 j),_,Er p p' hs,λds ρ ρ' e=>?_,@λH0 S z aq ρ σ H vs ds fp Q ρ' ok r e k=>?_⟩
 .obtain⟨d,r,aQ,rfl,_,_,h⟩:=Ka e;rw[acj,acj,l' r aQ ρ' h]
 .obtain⟨d,dr,aQ,rfl,hi,h1,h2⟩:=Ka e;cases r with
  | @cons _ v _ vr f1 f2 r1 r2=>
   have hn:=r1.aB hi;subst hn;exact⟨v,vr,rfl,q ok (aJ.refl H) r1 .nil h1 λz1 pM b_ a1=>q' b_ r2 h2 λz2 iM mQ a2=>k z2 iM mQ ⟨a2.1.trans a1.1,λj hj=>(a2.2 j λm=>hj (aas _ m)).trans (a1.2 j λm=>hj (abj _ m))⟩⟩
theorem m9(hc:X.calm=true)(h:Aa X es gs is)(hn:(assignEach es X.env).length=es.length:=by rfl)(iP:(assignEach es X.env).findIdx? (·.1)=none:=by rfl):FG X (.Tuple es k pos) (gT gs) is:=by
 obtain⟨n1,t,p,l,q⟩:=h;refine⟨n1,_,Pu hc p hn iP,@λH0 S z aq ρ σ H H1 v d tag fp Q ρ' ok s r g e k=>?_⟩;cases r with
 | @tup a xs ds fp hq rs=>
  have e:=e;exact⟨a,xs,rfl,hq,by rw[<- rs.length];exact l ds ρ ρ' e,q (ok.same s) rs e k⟩
 |_=>cases e
structure Hv where
 d:D
 v:V
 fp:List Addr
def qu(K:PySem.W.Frag)(J:It)(ds:List D)(hv:List Hv):Prop:=∀(H) (i),(∀h∈hv,Rep K H h.d h.v h.fp)->
 (∀d,ds[i]? = some d->J.go i H/\∀x H1,J.zJ i H x H1->aJ H H1/\∃fp,Rep K H1 d x fp/\∀a∈fp,∃h∈hv,a∈h.fp)/\(ds.length<=i->J.stop i H)
abbrev IF:=aO->Option (List D×Tag)
def FI(X:Cx)(tg iter:Expr)(f:IF):Prop:=∃wi,PI X tg iter wi/\∀{H0} {S} {z} {aq} {ρ} {σ} {H} {R} {ds} {t},
 Ok X.K H0 S z aq ρ σ H->f ρ=some (ds,t)->(∀H1 J hv,aJ H H1->(∀h∈hv,Rep X.K H1 h.d h.v h.fp/\∀a∈h.fp,∀j,z a=some j->∃o,t=.sh o/\j∈o)->qu X.K J ds hv->R J H1)->wi σ H R
noncomputable def d7(f:EF):IF:=λρ=>match f ρ with
 |some (.lst ds,t)=>some (ds,t)
 |some (.gP ds,t)=>some (ds,t)
 |some (.tup ds,t)=>some (ds,t)
 |_=>none
def aeO(K:PySem.W.Frag)(tl:TE):TI:=λσ H R=>tl σ H λx H1=>∃a,x=.ref a/\(((∃xs,bX K H1 a xs)/\R (AB K a) H1)\/((∃xs,cg K H1 a xs)/\R (JK K a) H1))
theorem YM(hl:PE X l tl):PI X tg l (aeO X.K tl):=by
 intro ah s σ H R I h;refine hl.n I h λv s1 x H1 I1 r1 q1=>?_
 obtain⟨a,e,q⟩:=q1;subst e;cases r1;rcases q with⟨⟨xs,hq⟩,q⟩|⟨⟨xs,hq⟩,q⟩
 .obtain⟨ay,rv,p,hz⟩:=I1.list hq;refine wpAny_pyIter_list p.isList ?_;refine⟨s1.heap.objs.size,[s1.heap.objs.size],_,_,H1,rfl,I1.kept (λb o e=>aax _ e),Wu a _,⟨_,acC _ rfl,rfl,rfl⟩,λb hb=>?_,q⟩;obtain rfl:b=s1.heap.objs.size:=by simpa using hb
  exact I1.rH (abL _) (I1.aK.fresh (abL _))
 .obtain⟨ay,rv,p,hz⟩:=I1.tuple hq;refine wpAny_pyIter_tuple (show s1.heap.IsTuple a ay.toArray from p) ?_;refine⟨s1.heap.objs.size,[s1.heap.objs.size],_,_,H1,rfl,I1.kept (λb o e=>aax _ e),XX a _,⟨_,acC _ rfl,rfl,rfl⟩,λb hb=>?_,q⟩;obtain rfl:b=s1.heap.objs.size:=by simpa using hb
  exact I1.rH (abL _) (I1.aK.fresh (abL _))
theorem Rep.dD{K:PySem.W.Frag}(r:Rep K H (.lst ds) v fp):∃a xs f,v=.ref a/\bX K H a xs/\aC K H ds xs f/\∀b∈f,b∈fp:=by
 cases r with
 |lst h rs=>exact⟨_,_,_,rfl,bX.of h,rs,λb m=>aab _ m⟩
theorem Rep.sG{K:PySem.W.Frag}(r:Rep K H (.gP ds) v fp):∃a xs,v=.ref a/\bX K H a xs/\aC K H ds xs fp:=by
 cases r with
 |BI h rs=>exact⟨_,_,rfl,h.sq,rs⟩
theorem Rep.ic{K:PySem.W.Frag}(r:Rep K H (.tup ds) v fp):∃a xs,v=.ref a/\cg K H a xs/\aC K H ds xs fp:=by
 cases r with
 |tup h rs=>exact⟨_,_,rfl,h,rs⟩
theorem ZU{K:PySem.W.Frag}:qu K (AB K a) ds [⟨.lst ds,.ref a,fp⟩]:=by
 intro H i hh;have r:=hh ⟨.lst ds,.ref a,fp⟩ aad;obtain⟨a',xs,f,e,hq,rs,sub⟩:=r.dD;cases e;exists 62;obtain⟨v,f',hv,rv,s'⟩:=rs.get hd;refine⟨⟨xs,v,hq,hv⟩,λx H1 y=>?_⟩;obtain⟨e1,y⟩:=y;subst e1;have e2:=y xs hq;rw[hv] at e2;cases e2;exact⟨aJ.refl _,f',rv,λb m=>⟨_,aad,sub b (s' b m)⟩⟩
theorem U6{K:PySem.W.Frag}:qu K (AB K a) ds [⟨.gP ds,.ref a,fp⟩]:=by
 intro H i hh;have r:=hh ⟨.gP ds,.ref a,fp⟩ aad;obtain⟨a',xs,e,hq,rs⟩:=r.sG;cases e;exists 62;obtain⟨v,f',hv,rv,s'⟩:=rs.get hd;refine⟨⟨xs,v,hq,hv⟩,λx H1 y=>?_⟩;obtain⟨e1,y⟩:=y;subst e1;have e2:=y xs hq;rw[hv] at e2;cases e2;exact⟨aJ.refl _,f',rv,λb m=>⟨_,aad,s' b m⟩⟩
theorem acq{K:PySem.W.Frag}:qu K (JK K a) ds [⟨.tup ds,.ref a,fp⟩]:=by
 intro H i hh;have r:=hh ⟨.tup ds,.ref a,fp⟩ aad;obtain⟨a',xs,e,hq,rs⟩:=r.ic;cases e;exists 62;obtain⟨v,f',hv,rv,s'⟩:=rs.get hd;refine⟨⟨xs,v,hq,hv⟩,λx H1 y=>?_⟩;obtain⟨e1,y⟩:=y;subst e1;have e2:=y xs hq;rw[hv] at e2;cases e2;exact⟨aJ.refl _,f',rv,λb m=>⟨_,aad,s' b m⟩⟩
theorem Kv{K:PySem.W.Frag}{lo:Int}:qu K (yO lo n) ((List.range n).map λi:Nat=>D.int (lo+(i:Int))) []:=by
 intro H i _;refine⟨λd hd=>?_,λhl=>?_⟩
 .rw[acn] at hd
  by_cases hi:i<n
  .rw[List.getElem?_range hi] at hd;cases hd;refine⟨hi,λx H1 y=>?_⟩;obtain⟨e1,e2⟩:=y;subst e1 e2;exact⟨aJ.refl _,[],.int _,λb m=>nomatch m⟩
  .rw[List.getElem?_eq_none (by simpa using hi)] at hd;cases hd
 .rw[List.length_map,agu] at hl;exact hl
theorem cO.over{K:PySem.W.Frag}(ok:Ok K H0 S z aq ρ σ H)(g:cO z H t fp):∀a∈fp,∀j,z a=some j->∃o,t=.sh o/\j∈o:=by
 intro a m j q;cases t with
 |sh o=>exact⟨o,rfl,g a m j q⟩
 |own=>obtain⟨⟨o,w⟩,_⟩:=ok.zd a j q;rw[g.2 a m] at w;cases w
 |lk=>obtain⟨⟨o,w⟩,_⟩:=ok.zd a j q;rw[g.2 a m] at w;cases w
theorem dg{l:Expr}{f:EF}(hl:FP X l f):FI X tg l (d7 f):=by
 obtain⟨t,p,q⟩:=hl;exists 24,YM p;unfold d7 at e;exists h,f ρ,w,e,0;obtain⟨d,NS⟩:=w;rw[h] at e;cases d with
 |lst es=>
  cases e;exists 55
  obtain⟨a,xs,f,rfl,hq,rs,sub⟩:=r1.dD;exact⟨a,rfl,.inl ⟨⟨xs,hq⟩,k H1 _ [⟨.lst ds,.ref a,fp⟩] s1 (λh m=>by cases aaU.mp m;exact⟨r1,g1.over ok⟩) ZU⟩⟩
 |gP es=>
  cases e;exists 55
  obtain⟨a,xs,rfl,hq,rs⟩:=r1.sG;exact⟨a,rfl,.inl ⟨⟨xs,hq⟩,k H1 _ [⟨.gP ds,.ref a,fp⟩] s1 (λh m=>by cases aaU.mp m;exact⟨r1,g1.over ok⟩) U6⟩⟩
 |tup es=>
  cases e;exists 55
  obtain⟨a,xs,rfl,hq,rs⟩:=r1.ic;exact⟨a,rfl,.inr ⟨⟨xs,hq⟩,k H1 _ [⟨.tup ds,.ref a,fp⟩] s1 (λh m=>by cases aaU.mp m;exact⟨r1,g1.over ok⟩) acq⟩⟩
 |_=>cases e
noncomputable def small(i:Int):Bool:=decide (-(2 ^ 62)<=i)&&decide (i<2 ^ 62)
def wg(g:EF):IF:=λρ=>match g ρ with
 |some (.int j,_)=>if small j=true then some ((List.range j.toNat).map λi:Nat=>D.int (0+(i:Int)),.own) else none
 |_=>none
def qV(f g:EF):IF:=λρ=>match f ρ,g ρ with
 |some (.int i,_),some (.int j,_)=>if(small i&&small j)=true then some ((List.range (j-i).toNat).map λk:Nat=>D.int (i+(k:Int)),.own) else none
 |_,_=>none
theorem vS(h:small i=true):-(2 ^ 62)<=i/\i<2 ^ 62:=by
 obtain⟨a,b⟩:=(aaV _ _).mp h;exact⟨aaC a,aaC b⟩
theorem G2(hm:X.mg "range"=none)(ha:FP X a g)(hg:Gl X "range":=by rfl)(hs:Y2 X a:=by rfl):FI X tg (.Call (.Name "range" p) [a] [] pos) (wg g):=by
 obtain⟨t,pa,q⟩:=ha;exists 24,ab9 hg hm (d8 pa fY hs) hs;unfold wg at e;exists h,g ρ,w,e,0;obtain⟨d,NS⟩:=w;rw[h] at e;cases d with
 |int j=>
  exists 68;obtain⟨hj,e⟩:=ci e;cases e;exists 55
  cases r1;exact⟨j,rfl,(vS hj).1,(vS hj).2,k H1 _ [] s1 (λh m=>nomatch m) Kv⟩
 |_=>cases e
theorem BK(hm:X.mg "range"=none)(ha:FP X a f)(hb:FP X b g)(hg:Gl X "range":=by rfl)(hs:starEach [a,b] X.env=[(false,eval a X.env),(false,eval b X.env)]:=by rfl)(c_:Y2 X b:=by rfl):
  FI X tg (.Call (.Name "range" p) [a,b] [] pos) (qV f g):=by
 obtain⟨t,pa,q⟩:=ha;obtain⟨t',pb,q'⟩:=hb;exists 24,Xr hg hm (d8 pa (d8 pb fY c_) (by rw[hs,c_])) hs c_;unfold qV at e;exists h,f ρ,w,e,0;obtain⟨d,NS⟩:=w;cases h2:g ρ with
 |none=>rw[h,h2] at e;cases d<;>cases e
 |some w=>
  obtain⟨d2,tg2⟩:=w;rw[h,h2] at e;cases d with
  |int i=>
   cases d2 with
   |int j=>
    exists 68;obtain⟨hj,e⟩:=ci e;cases e;obtain⟨si,sj⟩:=(aaV _ _).mp hj;exists 55
    cases r1;refine q' (ok.same s1) h2 λH2 v fp s2 r2 g2=>?_
    cases r2;exact⟨i,j,rfl,⟨(vS si).1,(vS si).2,(vS sj).1,(vS sj).2⟩,k H2 _ [] (s1.trans s2) (λh m=>nomatch m) Kv⟩
   |_=>cases e
  |_=>cases e
noncomputable def mh:Tag->List Nat
 |.sh o=>o
 |_=>[]
def k_(t:Tag):Tag:=.sh (mh t)
noncomputable def ownAt(ρ:aO)(j:Nat):Bool:=match ρ[j]? with
 |some (some (_,.own))=>true
 |_=>false
def m6(o:List Nat)(ρ:aO):List Nat:=o.filter (ownAt ρ)
noncomputable def Sa:Tag->Tag
 |.own=>.lk
 |t=>t
noncomputable def PN:Tag->Tag
 |.lk=>.own
 |t=>t
noncomputable def BW(f:Tag->Tag):Slot->Slot
 |some (d,t)=>some (d,f t)
 |none=>none
def pK:List Nat->aO->aO
 |[],ρ=>ρ
 |j::r,ρ=>pK r (ρ.modify j (BW Sa))
def tG:List Nat->aO->aO
 |[],ρ=>ρ
 |j::r,ρ=>tG r (ρ.modify j (BW PN))
noncomputable def cz(g:GF)(t:Tag)(f:SF):List D->SF
 |[],ρ=>some (.nx ρ)
 |d::ds,ρ=>match g d t ρ with
  |none=>none
  |some aQ=>match f aQ with
   |some (.nx aY)=>cz g t f ds aY
   |some (.ct aY)=>cz g t f ds aY
   |some (.bk aY)=>some (.nx aY)
   |some (.rt r)=>some (.rt r)
   |some (.er raw cn aY)=>some (.er raw cn aY)
   |none=>none
def iR(it:IF)(g:GF)(f:SF):SF:=λρ=>match it ρ with
 |none=>none
 |some (ds,t)=>match cz g (k_ t) f ds (pK (m6 (mh t) ρ) ρ) with
  |some (.nx ρ')=>some (.nx (tG (m6 (mh t) ρ) ρ'))
  |some (.rt d)=>some (.rt d)
  |some (.er raw cn ρ')=>some (.er raw cn (tG (m6 (mh t) ρ) ρ'))
  |_=>none
theorem Cf:∀{ks} {ρ} {i} {d} {t},(pK ks ρ)[i]? = some (some (d,t))->∃t',ρ[i]? = some (some (d,t'))/\(t=t'\/(t'=.own/\t=.lk))/\(i∈ks->t≠.own)
 |[],ρ,i,d,t,h=>⟨t,h,.inl rfl,λm=>nomatch m⟩
 |j::r,ρ,i,d,t,h=>by
  obtain⟨t1,h1,h2,h3⟩:=Cf (ks:=r) h;rw[List.getElem?_modify] at h1;exists e,ρ[i]?,s,h1;have iB:(if j=i then BW Sa s else s)=some (d,t1):=acf h1
  by_cases hj:j=i
  .rw[if_pos hj] at iB;cases s with
   |none=>cases iB
   |some p=>
    obtain⟨d0,t0⟩:=p;cases iB;refine⟨t0,rfl,?_,λ_=>?_⟩
    .rcases h2 with h2|⟨h2,nh⟩
     .cases t0<;>first|exact .inl h2|exact .inr ⟨rfl,h2⟩
     .cases t0<;>cases h2
    .rcases h2 with h2|⟨h2,nh⟩
     .rw[h2];cases t0<;>(intro z;cases z)
     .rw[nh];intro z;cases z
  .rw[if_neg hj] at iB;subst iB;refine⟨t1,rfl,h2,λm=>?_⟩;rcases aaA.mp m with z|z
   .exact absurd z.symm hj
   .exact h3 z
theorem Km:∀{ks} {ρ},(pK ks ρ).length=ρ.length
 |[],_=>rfl
 |_::r,ρ=>(Km (ks:=r)).trans (List.length_modify ..)
theorem MW:∀{ks} {ρ},(tG ks ρ).length=ρ.length
 |[],_=>rfl
 |_::r,ρ=>(MW (ks:=r)).trans (List.length_modify ..)
theorem Fe:∀{ks} {ρ} {i} {d} {t},(tG ks ρ)[i]? = some (some (d,t))->∃t',ρ[i]? = some (some (d,t'))/\(t=t'\/(t'=.lk/\t=.own/\i∈ks))
 |[],ρ,i,d,t,h=>⟨t,h,.inl rfl⟩
 |j::r,ρ,i,d,t,h=>by
  obtain⟨t1,h1,h2⟩:=Fe (ks:=r) h;rw[List.getElem?_modify] at h1;exists e,ρ[i]?,s,h1;have iB:(if j=i then BW PN s else s)=some (d,t1):=acf h1
  by_cases hj:j=i
  .rw[if_pos hj] at iB;cases s with
   |none=>cases iB
   |some p=>
    obtain⟨d0,t0⟩:=p;cases iB;refine⟨t0,rfl,?_⟩;rcases h2 with h2|⟨h2,nh,h3⟩
    .cases t0<;>first|exact .inl h2|exact .inr ⟨rfl,h2,by rw[hj];exact aad⟩
    .cases t0<;>cases h2
  .rw[if_neg hj] at iB;subst iB;refine⟨t1,rfl,?_⟩;rcases h2 with h2|⟨h2,nh,h3⟩
   .exact .inl h2
   .exact .inr ⟨h2,nh,aab _ h3⟩
noncomputable def uT(z:Addr->Option Nat)(hv:List Hv):List pH:=hv.map λh=>⟨h.d,h.v,h.fp,z⟩
noncomputable def wZ(z:Addr->Option Nat)(aq:List pH):List pH:=aq.map λh=>{ h with z0:=z }
section
variable{K:PySem.W.Frag}
theorem Ok.begin(ok:Ok K H0 S z aq ρ σ H)(hh:∀h∈hv,Rep K H h.d h.v h.fp/\∀a∈h.fp,∀j,z a=some j->∃o,t=.sh o/\j∈o):
  Ok K H0 S z (uT z hv++wZ z aq) (pK (m6 (mh t) ρ) ρ) σ H:=by
 refine⟨λi d tg e=>?_,λp m=>?_,ok.zd,ok.en,by rw[Km];exact ok.ln⟩
 .obtain⟨t',e',h,_⟩:=Cf e;obtain⟨v,fp,a,b,c⟩:=ok.sl i d t' e';refine⟨v,fp,a,b,?_⟩;rcases h with h|⟨h,h'⟩
  .subst h;exact c
  .subst h h';exact c
 .have ZY:∀j,vU ρ j->vU (pK (m6 (mh t) ρ) ρ) j:=λj n d e=>by
   obtain⟨t',e',h,_⟩:=Cf e;rcases h with h|⟨h,h'⟩
   .subst h;exact n d e'
   .cases h'
  rcases abl.mp m with m|m
  .obtain⟨h,hm,rfl⟩:=abY.mp m;refine⟨(hh h hm).1,λa ha j q=>⟨q,λd e=>?_⟩⟩;obtain⟨o,rfl,hj⟩:=(hh h hm).2 a ha j q;obtain⟨t',e',h',n⟩:=Cf e;rcases h' with h'|⟨h',rq⟩
   .subst h';exact n (acO.mpr ⟨hj,by unfold ownAt;rw[e']⟩) rfl
   .cases rq
  .obtain⟨h,hm,rfl⟩:=abY.mp m;obtain⟨r,hz⟩:=ok.hl h hm;exact⟨r,λa ha j q=>⟨q,ZY j (hz a ha j q).2⟩⟩
theorem Ok.fin(ok:Ok K H0 S z aq ρ σ H)(aW:Ok K H0 S z' (uT z hv++wZ z aq) ρ' aI H'):Ok K H0 S z' aq (tG (m6 (mh t) ρ) ρ') aI H':=by
 refine⟨λi d tg e=>?_,λp m=>?_,aW.zd,aW.en,by rw[MW];exact aW.ln⟩
 .obtain⟨t',e',h⟩:=Fe e;obtain⟨v,fp,a,b,c⟩:=aW.sl i d t' e';refine⟨v,fp,a,b,?_⟩;rcases h with h|⟨h,h',_⟩
  .subst h;exact c
  .subst h h';exact c
 .obtain⟨r,hz⟩:=aW.hl { p with z0:=z } (aas _ (abY.mpr ⟨p,m,rfl⟩));refine⟨r,λa ha j q=>?_⟩;obtain⟨h1,h2⟩:=hz a ha j q;have h1:=h1;obtain⟨h3,h4⟩:=(ok.hl p m).2 a ha j h1;refine⟨h3,λd e=>?_⟩;obtain⟨t',e',h⟩:=Fe e;rcases h with h|⟨h,_,hk⟩
  .subst h;exact h2 d e'
  .have ho:=(acO.mp hk).2;unfold ownAt at ho;exists e0,ρ[j]?,s,ho;cases s with
   |none=>cases ho
   |some p=>
    obtain⟨d0,t0⟩:=p;cases t0<;>first|exact h4 d0 e0|cases ho
end
theorem g8(hc:X.calm=true)(hi:FI X tg iter it)(hg:FG X tg g is)(hb:FS X body f)(hp:PassesOwn (model X.prog X.w) X.A X.env X.xe:=by exact PassesOwn.never)
  (hs:∀x,foldedSetIterable iter X.env x=pure x:=by intro _;rfl):fC X (.For tg iter body [] pos) (iR it g f):=by
 obtain⟨wi,pi,si⟩:=hi;obtain⟨n1,tgt,pg,sg⟩:=hg;obtain⟨tb,pb,sb⟩:=hb;exists 23,ae7 hp hc pi pg pb hs;unfold iR at e;exists h,it ρ,w,e,0;obtain⟨ds,t⟩:=w;rw[h] at e;exists 68;refine si ok h λH1 J hv s1 hh GN=>?_
 exists ho,cz g (k_ t) f ds (pK (m6 (mh t) ρ) ρ),out,e;have b_:=ok.same s1;have mQ:=b_.begin hh;have fin:∀{z'} {ρ'} {aI} {H'},Ok X.K H0 S z' (uT z hv++wZ z aq) ρ' aI H'->out=.nx ρ'->Kp X σ aI->E.nx aI H':=λ{z' ρ' aI H'} aW eo kp=>by
  subst eo;cases e;exact k z' aI H' (b_.fin aW) kp
 refine⟨λi m aI H'=>m=ds.length-i/\∃z' ρ',Ok X.K H0 S z' (uT z hv++wZ z aq) ρ' aI H'/\cz g (k_ t) f (ds.drop i) ρ'=some out/\Kp X σ aI,⟨ds.length,rfl,z,_,mQ,ho,.refl _ _⟩,?_⟩
 rintro i m aI H' ⟨rfl,z',ρ',aW,e',kp⟩
 have hH:∀h∈hv,Rep X.K H' h.d h.v h.fp:=λh m=>(aW.hl _ (abj _ (abY.mpr ⟨h,m,rfl⟩))).1
 obtain⟨go,stop⟩:=GN H' i hH
 by_cases hl:ds.length<=i
 .refine .inl ⟨stop hl,?_⟩;rw[List.drop_eq_nil_of_le hl] at e';cases e';exact fin aW rfl kp
 .have cU:=Nat.lt_of_not_le hl;rw[agU cU] at e';obtain⟨g1,g2⟩:=go ds[i] (aa9 cU);refine .inr ⟨g1,λiM H2=>∃z' ρ',Ok X.K H0 S z' (uT z hv++wZ z aq) ρ' iM H2/\cz g (k_ t) f (ds.drop (i+1)) ρ'=some out/\Kp X σ iM,λiM H2 hn=>⟨ds.length-(i+1),by omega,rfl,hn⟩,λx H2 y=>?_⟩;obtain⟨s2,fp,r2,sub⟩:=g2 x H2 y;unfold cz at e';cases ua:g ds[i] (k_ t) ρ' with
  |none=>rw[ua] at e';cases e'
  |some aQ=>
   rw[ua] at e';dsimp only at e';refine sg (tag:=k_ t) aW s2 r2 (λa ha j q=>?_) ua λz2 iM iD a3=>?_
   .obtain⟨h,hm,NF⟩:=sub a ha;obtain⟨_,hz⟩:=aW.hl _ (abj _ (abY.mpr ⟨h,hm,rfl⟩));obtain⟨q0,_⟩:=hz a NF j q;obtain⟨o',rfl,hj⟩:=(hh h hm).2 a NF j q0;exact hj
   .cases hf:f aQ with
    |none=>rw[hf] at e';cases e'
    |some o1=>
     rw[hf] at e';refine sb iD hf ?_;cases o1 with
     |nx aY=>exact λz3 cZ H3 iX b=>⟨z3,aY,iX,e',(kp.trans (.off n1 a3.2)).trans b⟩
     |ct aY=>exact λz3 cZ H3 iX b=>⟨z3,aY,iX,e',(kp.trans (.off n1 a3.2)).trans b⟩
     |bk aY=>
      cases e';exact λz3 cZ H3 iX b=>fin iX rfl ((kp.trans (.off n1 a3.2)).trans b)
     |rt d=>
      cases e';cases e;exact k
     |er raw cn aY=>
      cases e';cases e;obtain⟨ES,th,q⟩:=k;exact⟨ES,th,λz3 cZ H3 C iX b hC=>q z3 cZ H3 C (b_.fin iX) ((kp.trans (.off n1 a3.2)).trans b) hC⟩
noncomputable def iN(c:TF)(f:SF):Nat->SF
 |0,_=>none
 |n+1,ρ=>match c ρ with
  |some false=>some (.nx ρ)
  |some true=>match f ρ with
   |some (.nx ρ')=>iN c f n ρ'
   |some (.ct ρ')=>iN c f n ρ'
   |some (.bk ρ')=>some (.nx ρ')
   |some (.rt d)=>some (.rt d)
   |some (.er raw cn ρ')=>some (.er raw cn ρ')
   |none=>none
  |none=>none
theorem NB(n:Nat)(hc:FT X c tc)(hb:FS X body f)(hp:PassesOwn (model X.prog X.w) X.A X.env X.xe:=by exact PassesOwn.never):fC X (.While c body [] pos) (iN tc f n):=by
 obtain⟨t,p,q⟩:=hc;obtain⟨tb,pb,qb⟩:=hb;exists 23,KQ hp p pb;refine⟨λm aI H'=>∃z' ρ',Ok X.K H0 S z' aq ρ' aI H'/\iN tc f m ρ'=some o/\Kp X σ aI,⟨n,z,ρ,ok,e,.refl _ _⟩,?_⟩
 rintro m aI H' ⟨z',ρ',aW,e',kp⟩
 cases m with
 |zero=>cases e'
 |succ m=>
  unfold iN at e';exists hc,tc ρ',b,e';refine q aW hc λH1 s1=>?_
  cases b with
  |false=>
   cases e';rw[if_neg abk];exact k z' aI H1 (aW.same s1) kp
  |true=>
   rw[if_pos rfl];dsimp only at e';exists hf,f ρ',o1,e';refine⟨λiM H2=>∃z2 aY,Ok X.K H0 S z2 aq aY iM H2/\iN tc f m aY=some o/\Kp X σ iM,λiM H2 hn=>⟨m,agl m,hn⟩,?_⟩;refine qb (aW.same s1) hf ?_;cases o1 with
   |nx aY=>exact λz3 cZ H3 iX b=>⟨z3,aY,iX,e',kp.trans b⟩
   |ct aY=>exact λz3 cZ H3 iX b=>⟨z3,aY,iX,e',kp.trans b⟩
   |bk aY=>
    cases e';exact λz3 cZ H3 iX b=>k z3 cZ H3 iX (kp.trans b)
   |rt d=>
    cases e';exact k
   |er raw cn aY=>
    cases e';obtain⟨ES,th,q⟩:=k;exact⟨ES,th,λz3 cZ H3 C iX b hC=>q z3 cZ H3 C iX (kp.trans b) hC⟩
def GK(K:PySem.W.Frag)(f:EF):TE:=λσ H Q=>∃H0 S z aq ρ d tg,Ok K H0 S z aq ρ σ H/\f ρ=some (d,tg)/\∀H' v fp,aJ H H'->Rep K H' d v fp->cO z H tg fp->Q v H'
def wL(K:PySem.W.Frag)(f:TF):TT:=λσ H Q=>∃H0 S z aq ρ b,Ok K H0 S z aq ρ σ H/\f ρ=some b/\∀H',aJ H H'->Q b H'
def Dn(K:PySem.W.Frag)(g:GF)(is:List Nat):TG:=λv σ H1 Q=>∃H0 S z aq ρ H d tag fp ρ',Ok K H0 S z aq ρ σ H/\aJ H H1/\Rep K H1 d v fp/\cO z H tag fp/\g d tag ρ=some ρ'/\
 ∀z' aI,Ok K H0 S z' aq ρ' aI H1->(aI.length=σ.length/\∀j,j∉is->aI[j]? = σ[j]?)->Q aI H1
theorem FP.pe(h:FP X e f):PE X e (GK X.K f):=by
 obtain⟨t,p,q⟩:=h
 rintro ah s σ H Q I ⟨H0,S,z,aq,ρ,d,tg,ok,e,k⟩
 exact p ah s σ H Q I (q ok e k)
theorem FT.pt(h:FT X e f):PT X e (wL X.K f):=by
 obtain⟨t,p,q⟩:=h
 rintro ah s σ H Q I ⟨H0,S,z,aq,ρ,b,ok,e,k⟩
 exact p ah s σ H Q I (q ok e k)
theorem FG.pg(h:FG X e g is):PG X e (Dn X.K g is):=by
 obtain⟨_,t,p,q⟩:=h
 rintro ah s σ H1 v u Q I r ⟨H0,S,z,aq,ρ,H,d,tag,fp,ρ',ok,sm,rp,tk,e,k⟩
 exact p ah s σ H1 v u Q I r (q ok sm rp tk e k)
def Cj(X:Cx)(ifs:List Expr)(f:TF):Prop:=ym X ifs (wL X.K f)
noncomputable def k7:TF:=λ_=>some true
theorem j7:Cj X [] k7:=by
 rintro ah s σ H Q I ⟨H0,S,z,aq,ρ,b,ok,e,k⟩
 cases e;exact wpAny_tests_nil ⟨H,I,k H (aJ.refl H)⟩
theorem mC(h:FT X c f):Cj X [c] f:=UP h.pt
noncomputable def ja(js:List (Option Nat))(ρ:aO):aO:=js.map λj=>match j with
 |none=>none
 |some j=>match ρ[j]? with
  |some (some (d,_))=>some (d,.sh [])
  |_=>none
def jv(g:GF)(tt:TF)(te:EF)(ρ:aO)(d:D):Option (Option D):=match g d (.sh []) ρ with
 |none=>none
 |some aQ=>match tt aQ with
  |none=>none
  |some false=>some none
  |some true=>match te aQ with
   |none=>none
   |some (e,t)=>if jV t=true then some (some e) else if aB e=true then some (some e) else none
noncomputable def pI(h:D->Option (Option D)):List D->Option (List D)
 |[]=>some []
 |d::ds=>match h d with
  |none=>none
  |some none=>pI h ds
  |some (some e)=>match pI h ds with
   |none=>none
   |some es=>some (e::es)
def gR(js:List (Option Nat))(it:IF)(g:GF)(tt:TF)(te:EF):EF:=λρ=>match it ρ with
 |none=>none
 |some (ds,_)=>if ds.length<sizeLine then(pI (jv g tt te (ja js ρ)) ds).map λes=>(.lst es,.own) else none
theorem Sg:∀{ds},(∀d∈ds,h d=some (k d))->pI h ds=some (ds.filterMap k)
 |[],_=>rfl
 |d::ds,e=>by
  unfold pI;rw[e d aad,Sg λx m=>e x (aab _ m),aeD];cases k d<;>rfl
section
variable{X:Cx}
theorem Nh(zD:∀i∈is,js[i]? = some none)
  (si:∀{H0} {S} {z} {aq} {ρ} {σ} {H} {R} {ds} {t},
   Ok X.K H0 S z aq ρ σ H->it ρ=some (ds,t)->(∀H1 J hv,aJ H H1->(∀h∈hv,Rep X.K H1 h.d h.v h.fp/\∀a∈h.fp,∀j,z a=some j->∃o,t=.sh o/\j∈o)->qu X.K J ds hv->R J H1)->wi σ H R)
  (ok:Ok X.K H0 S z aq ρ σ H) (e:gR js it g tt te ρ=some (d,tg))
  (k:∀H' v fp,aJ H H'->Rep X.K H' d v fp->cO z H tg fp->Q v H'):Ji wi js (Dn X.K g is) (wL X.K tt) (GK X.K te) σ H Q:=by
 unfold gR at e;cases h:it ρ with
 |none=>rw[h] at e;cases e
 |some w=>
  obtain⟨ds,t⟩:=w;rw[h] at e;exists 68
  by_cases hz:ds.length<sizeLine
  .rw[if_pos hz] at e;cases CZ:pI (jv g tt te (ja js ρ)) ds with
   |none=>rw[CZ] at e;cases e
   |some es=>
    rw[CZ] at e;cases e;refine si ok h λH1 J hv s1 hh GN Dd uN=>?_
    have b_:=ok.same s1;have inner:∀(aI) (H2),aJ H1 H2->(∃o,H2 Dd=some o)->aI.length=js.length->(∀j,j∉is->aI[j]? = (l9 js σ)[j]?)->Ok X.K H1 [] (λa=>if a=Dd then some js.length else none) (uT (λ_=>none) hv) (ja js ρ) aI H2:=by
     intro aI H2 s2 GI hlen Bo;have nD:∀{a} {o},H1 a=some o->a≠Dd:=λe=>cV e uN
     refine⟨λi d t e=>?_,λp m=>?_,λa j e=>?_,λa o e _=>s2 _ _ e,by unfold ja;rw[List.length_map,hlen]⟩
     .unfold ja at e;rw[acn] at e;cases hj:js[i]? with
      |none=>rw[hj] at e;cases e
      |some o=>
       rw[hj] at e;cases o with
       |none=>cases e
       |some j=>
        have e:(match ρ[j]? with|some (some (d,_))=>some (d,Tag.sh [])|_=>none)=some (d,t):=acf e;cases hr:ρ[j]? with
        |none=>rw[hr] at e;cases e
        |some s=>
         rw[hr] at e;cases s with
         |none=>cases e
         |some p=>
          obtain⟨d0,t0⟩:=p;have e1:d0=d/\Tag.sh []=t:=Prod.mk.inj (acf e);obtain⟨rfl,rfl⟩:=e1;obtain⟨v,fp,hs,r,_⟩:=b_.sl j d0 t0 hr;have hi:i∉is:=λm=>by rw[zD i m] at hj;cases hj
          refine⟨v,fp,?_,r.same s2,λa m q e=>?_⟩
          .rw[Bo i hi];unfold l9;rw[acn,hj];show some ((σ[j]?).join)=some (some v);rw[hs];rfl
          .obtain⟨o,w,_⟩:=r.cG a m;exists 68;rw[if_neg (nD w)] at e;cases e
     .obtain⟨h,hm,rfl⟩:=abY.mp m;refine⟨(hh h hm).1.same s2,λa ha q e=>?_⟩;obtain⟨o,w,_⟩:=(hh h hm).1.cG a ha;rw[if_neg (nD w)] at e;cases e
     .by_cases w:a=Dd
      .rw[w];exact⟨GI,.inl uN⟩
      .rw[if_neg w] at e;cases e
    refine⟨λi m aI H'=>m=ds.length - i/\aJ H1 H'/\aI.length=js.length/\(∀j,j∉is->aI[j]? = (l9 js σ)[j]?)/\∃done rest vs fp,H' Dd=some (.lst vs)/\aC X.K H' done vs fp/\fp.Nodup/\(∀a∈fp,H1 a=none/\a≠Dd)/\
     pI (jv g tt te (ja js ρ)) (ds.drop i)=some rest/\done++rest=es/\done.length<=i,?_,?_⟩
    .refine⟨ds.length,rfl,λb o e=>by rw[aP (cV e uN)];exact e,by unfold l9;rw[List.length_map],λ_ _=>rfl,[],es,[],[],cD,.nil,acW,(λa m=>nomatch m),CZ,rfl,abL _⟩
    .rintro i m aI H' ⟨rfl,sH,hlen,Bo,done,rest,vs,fp,hD,rs,nd,fr,hr,rfl,hle⟩
     obtain⟨go,stop⟩:=GN H' i λh m=>(hh h m).1.same sH
     by_cases hl:ds.length<=i
     .refine .inl ⟨stop hl,?_⟩;rw[List.drop_eq_nil_of_le hl] at hr;cases hr;rw[acG] at k;refine k H' (.ref Dd) (Dd::fp) (s1.trans sH) (.lst hD rs) ⟨ab4.mpr ⟨λm=>(fr Dd m).2 rfl,nd⟩,λa m=>?_⟩;rcases aaA.mp m with e|m
      .rw[e];exact s1.free uN
      .exact s1.free (fr a m).1
     .have cU:i<ds.length:=Nat.lt_of_not_le hl;rw[agU cU] at hr;obtain⟨g1,g2⟩:=go ds[i] (aa9 cU);refine .inr ⟨g1,λx H2 y=>?_⟩;obtain⟨s2,mO,r2,sub⟩:=g2 x H2 y;have mQ:=inner aI H' sH ⟨_,hD⟩ hlen Bo;unfold pI at hr;cases hE:jv g tt te (ja js ρ) ds[i] with
      |none=>rw[hE] at hr;cases hr
      |some oe=>
       rw[hE] at hr;unfold jv at hE;cases ua:g ds[i] (.sh []) (ja js ρ) with
       |none=>rw[ua] at hE;cases hE
       |some aQ=>
        rw[ua] at hE;dsimp only at hE;have SD:cO (λa=>if a=Dd then some js.length else none) H' (.sh []) mO:=λa m j e=>by
         obtain⟨h,hm,ha⟩:=sub a m;obtain⟨o,w,_⟩:=(hh h hm).1.cG a ha;exists 68;rw[if_neg (cV w uN)] at e;cases e
        refine⟨H1,[],_,_,ja js ρ,H',ds[i],.sh [],mO,aQ,mQ,s2,r2,SD,ua,λz3 cZ iD Lb=>?_⟩;have Sn:cZ.length=js.length:=Lb.1.trans hlen;have Qg:∀j,j∉is->cZ[j]? = (l9 js σ)[j]? :=λj hj=>(Lb.2 j hj).trans (Bo j hj)
        cases ht:tt aQ with
        |none=>rw[ht] at hE;cases hE
        |some b=>
         rw[ht] at hE;refine⟨H1,[],z3,_,aQ,b,iD,ht,λH4 s4=>?_⟩;have Ih:aJ H1 H4:=(sH.trans s2).trans s4;have yp:aJ H' H4:=s2.trans s4;cases b with
         |false=>
          cases hE;refine aeF ?_;exact⟨ds.length-(i+1),by lia,rfl,Ih,Sn,Qg,done,rest,vs,fp,yp _ _ hD,rs.same yp,nd,fr,hr,rfl,Nat.le_succ_of_le hle⟩
         |true=>
          refine S7 ?_;dsimp only at hE;cases Dp:te aQ with
          |none=>rw[Dp] at hE;cases hE
          |some w=>
           obtain⟨y,ty⟩:=w;rw[Dp] at hE;dsimp only at hE;refine⟨H1,[],z3,_,aQ,y,ty,iD.same s4,Dp,λH5 yv fy s5 ry gy=>?_⟩;have oe':oe=some y/\fy.Nodup/\∀a∈fy,H4 a=none:=by
            by_cases ho:jV ty=true
            .rw[if_pos ho] at hE;cases hE;exact⟨rfl,by cases ty<;>first|exact gy|cases ho⟩
            .rw[if_neg ho] at hE
             by_cases hi:aB y=true
             .rw[if_pos hi] at hE;cases hE;have hn:=ry.aB hi;subst hn;exact⟨rfl,acW,λa m=>nomatch m⟩
             .rw[if_neg hi] at hE;cases hE
           obtain⟨rfl,UM,Hz⟩:=oe';dsimp only at hr;cases yX:pI (jv g tt te (ja js ρ)) (ds.drop (i+1)) with
           |none=>rw[yX] at hr;cases hr
           |some r'=>
            rw[yX] at hr;cases hr;have Rg:aJ H' H5:=yp.trans s5;have MC:H5 Dd=some (.lst vs):=Rg _ _ hD;have lv:vs.length<sizeLine:=by rw[<- rs.length];lia
            have im:aV H5 (upd H5 Dd (.lst (vs++[yv]))):=aV.upd MC rfl;have n1:∀a∈fp++fy,a≠Dd:=λa m=>by
             rcases abl.mp m with m|m
             .exact(fr a m).2
             .intro e;have:=Hz a m;rw[e,yp _ _ hD] at this;cases this
            have TV:aC X.K H5 (done++[y]) (vs++[yv]) (fp++fy):=by
             have q:=aC.append (rs.same Rg) (aC.cons ry .nil);rw[acG] at q;exact q
            refine⟨vs,MC,lv,ds.length-(i+1),by lia,rfl,λb o e=>?_,Sn,Qg,done++[y],r',vs++[yv],fp++fy,cD,TV.frame (λa m=>aP (n1 a m)) im,?_,λa m=>?_,yX,?_,?_⟩
            .rw[aP (cV e uN)];exact s5 _ _ (Ih _ _ e)
            .refine acR.mpr ⟨nd,UM,λa m b m' e=>?_⟩;subst e;obtain⟨o,w,_⟩:=(rs.same yp).cG a m;rw[Hz a m'] at w;cases w
            .refine⟨?_,n1 a m⟩;rcases abl.mp m with m|m
             .exact(fr a m).1
             .exact Ih.free (Hz a m)
            .rw[afB];rfl
            .rw[abD,adR];lia
  .rw[if_neg hz] at e;cases e
theorem gX{ifs:List Expr}{tt:TF}{te:EF}{is:List Nat}(S:oS X M js sc)(hc:X.calm=true)(hi:FI X tg iter it)(zD:∀i∈is,js[i]? = some none)
  (hb:∀s3 H3 fp,FG (fT X M sc s3 H3 fp) tg g is/\Cj (fT X M sc s3 H3 fp) ifs tt/\FP (fT X M sc s3 H3 fp) elt te) (hs:∀x,foldedSetIterable iter X.env x=pure x:=by intro _;rfl) :
  FP X (.ListComp elt [⟨tg,iter,ifs,0⟩] sc pos) (gR js it g tt te):=by
 obtain⟨wi,pi,si⟩:=hi;exact⟨_,abS (tt:=wL X.K tt) S hc pi (λs3 H3 fp=>⟨(hb s3 H3 fp).1.pg,(hb s3 H3 fp).2.1,(hb s3 H3 fp).2.2.pe⟩) hs,@λH0 S z aq ρ σ H Q d tg ok e k=>Nh zD si ok e k⟩
theorem yi(i:Nat){ifs:List Expr}{js:List (Option Nat)}{it:IF}{is:List Nat}(hN:X.N.Nodup)(S:oS X M js sc)(hc:X.calm=true)(hi:FI X tg iter it)
  (zD:∀i∈is,js[i]? = some none) (hb:∀s3 H3 fp,FG (fT X M sc s3 H3 fp) tg g is/\Cj (fT X M sc s3 H3 fp) ifs tt/\FP (fT X M sc s3 H3 fp) elt te) (hy:X.N[i]? = some y:=by rfl) (hl:X.env.scope.names.lookup y=some .local:=by rfl)
  (iY:swapsWith (.ListComp elt [⟨tg,iter,ifs,0⟩] sc pos) (some (.Name y py)) Eu.line X.env=pure true:=by rfl) (hs:∀x,foldedSetIterable iter X.env x=pure x:=by intro _;rfl) (pQ:kc X y=false:=by rfl) :
  fC X (.Assign [.Name y py] (.ListComp elt [⟨tg,iter,ifs,0⟩] sc pos) Eu) (dJ i (gR js it g tt te)):=by
 obtain⟨wi,pi,si⟩:=hi;exists 23,afn (g:=Dn X.K g is) (tt:=wL X.K tt) (te:=GK X.K te) hN hy hl S hc pi (λs3 H3 fp=>⟨(hb s3 H3 fp).1.pg,(hb s3 H3 fp).2.1,(hb s3 H3 fp).2.2.pe⟩) iY hs;unfold dJ at e;exists h,gR js it g tt te ρ,w,e,0;obtain⟨d,tg⟩:=w;rw[h] at e;cases e;refine Nh zD si ok h λH1 v fp s1 r1 g1=>?_
 exact ok.stored s1 r1 g1 λz' aW=>k z' _ H1 aW (.set hy pQ)
end
noncomputable def J6(n:Nat)(ds:List D):aO:=ds.map (λd=>some (d,.sh []))++List.replicate (n-ds.length) none
def bG(n N:Nat)(b:SF):List D->Option D:=λds=>if ds.length=n then(match b (J6 N ds) with
 |some (.rt d)=>some d
 |some (.nx _)=>some .az
 |_=>none) else none
noncomputable abbrev CF:=List D->List D->Option D
noncomputable def AV(N:Nat)(es ds:List D):aO:=es.map (λd=>some (d,.own))++(ds.map (λd=>some (d,.sh []))++List.replicate (N-(ds.length+es.length)) none)
def runC(n N:Nat)(b:SF):CF:=λes ds=>if ds.length + es.length=n then(match b (AV N es ds) with
 |some (.rt d)=>some d
 |some (.nx _)=>some .az
 |_=>none) else none
def spC(K:PySem.W.Frag)(G:CF):Sp:=λvs H Q _=>∃us ws es ds bI f7 d,vs=us++ws/\aC K H es us bI/\bI.Nodup/\aC K H ds ws f7/\(∀b∈f7,b∉bI)/\G es ds=some d/\
 ∀H' v fp,(∀a o,H a=some o->a∉bI->H' a=some o)->Rep K H' d v fp->fp.Nodup->(∀a∈fp,H a=none\/a∈bI)->Q v H'
theorem aC.own{K:PySem.W.Frag}:∀{es} {us} {fp} (k),aC K H es us fp->fp.Nodup->∃z:Addr->Option Nat,(∀i d,es[i]? = some d->∃v f,us[i]? = some v/\Rep K H d v f/\f.Nodup/\∀a∈f,z a=some (k+i))/\∀a j,z a=some j->a∈fp
 |_,_,_,_,.nil,_=>⟨λ_=>none,λi d e=>by simp at e,λ_ _ e=>nomatch e⟩
 |_,_,_,k,.cons (f1:=f1) (f2:=f2) r t,n=>by
  classical
  obtain⟨n1,n2,n3⟩:=acR.mp n;obtain⟨z,h1,h2⟩:=t.own (k+1) n2;refine⟨λa=>if a∈f1 then some k else z a,λi d e=>?_,λa j e=>?_⟩
  .cases i with
   |zero=>cases e;exact⟨_,f1,rfl,r,n1,λa m=>if_pos m⟩
   |succ i=>
    obtain⟨v,f,a1,a2,a3,a4⟩:=h1 i d e;exact⟨v,f,a1,a2,a3,λa m=>(if_neg λq=>n3 a q a (h2 a _ (a4 a m)) rfl).trans ((a4 a m).trans (by rw[Nat.add_assoc,Nat.add_comm 1]))⟩
  .dsimp only at e
   split at e
   .exact abj _ (by assumption)
   .exact aas _ (h2 a j e)
section
variable{K:PySem.W.Frag}
theorem Ok.lD{H:Hp}(r0:aC K H es us bI)(nd:bI.Nodup)(rs:aC K H ds ws f7)(dj:∀b∈f7,b∉bI):∃z,Ok K H bI z [] (AV N.length es ds) (start N (us++ws)) H:=by
 obtain⟨z,h1,h2⟩:=r0.own 0 nd;have l0:=r0.length;have l1:=rs.length;unfold AV start;rw[adp,afB];refine⟨z,λi d' t' e'=>?_,(λp m=>by cases m),(λa j e=>⟨let⟨o,w,_⟩:=r0.cG a (h2 a j e);⟨o,w⟩,.inr (h2 a j e)⟩),(λa o e _=>e),?_⟩
 .by_cases hi:i<es.length
  .rw[ad0 (by rw[List.length_map];exact hi),acn,aa9 hi] at e';cases e';obtain⟨v,g,hv,rv,n',hz⟩:=h1 i _ (aa9 hi);rw[agv] at hz;exact⟨v,g,(ad0 (by rw[List.length_map];lia)).trans (by rw[acn,hv];rfl),rv,n',hz⟩
  .rw[aeb (by rw[List.length_map];lia),List.length_map] at e';rw[aeb (by rw[List.length_map];lia),List.length_map,<- l0];generalize i-es.length=i at e' ⊢
   by_cases hi:i<ds.length
   .rw[ad0 (by rw[List.length_map];exact hi),acn,aa9 hi] at e';cases e';obtain⟨v,g,hv,rv,sub⟩:=rs.get (aa9 hi);exact⟨v,g,(ad0 (by rw[List.length_map];lia)).trans (by rw[acn,hv];rfl),rv,λa m j e=>(dj a (sub a m) (h2 a j e)).elim⟩
   .rw[aeb (by rw[List.length_map];lia),agy] at e'
    split at e'<;>cases e'
 .simp only[abD,List.length_map,List.length_replicate]
  lia
theorem X7{st:Stmt}(F:jR K x qual st f fd)(S:qK N ps (cT st))
  (hb:∀(aX:{c:Value // c=fd.code}) (A) (outer) (s) (H) (E),bH k (A.deeper (envOfC qual (cT st) s.heap.objs.size f aX)) cm->FS (jm dF P w K mg base N qual (cT st) f aX A outer s H E cm).gb (ie st) b) :
  cE P w K mg base dF (k+1) f fd ps (spC K (runC ps.length N.length b)) cm:=by
 refine F.ok S (λvs H Q E h=>?_) (λaX A outer s H vs Q E hr h=>?_)<;>obtain⟨us,ws,es,ds,bI,f7,d,e0,r0,nd,rs,dj,e,q⟩:=h
 .unfold runC at e
  split at e
  .rename_i h;rw[e0,abD,<- r0.length,<- rs.length,Nat.add_comm,h]
  .cases e
 .obtain⟨t,p,sd⟩:=hb aX A outer s H E hr;refine⟨t,p,?_⟩;obtain⟨z,ok⟩:=Ok.lD r0 nd rs dj;rw[e0];unfold runC at e
  split at e
  .cases ho:b (AV N.length es ds) with
   |none=>rw[ho] at e;cases e
   |some o=>
    rw[ho] at e;refine sd ok ho ?_;cases o with
    |rt d'=>cases e;exact q
    |nx ρ'=>cases e;exact λz' aI H' aW _=>q H' .az [] aW.en .az acW λa m=>nomatch m
    |bk _=>cases e
    |ct _=>cases e
    |er _ _ _=>cases e
  .cases e
theorem Sl{st:Stmt}(F:jR K x qual st f fd)(S:qK N ps (cT st))
  (hb:∀(aX:{c:Value // c=fd.code}) (A) (outer) (s) (H) (E),bH k (A.deeper (envOfC qual (cT st) s.heap.objs.size f aX)) cm->FS (jm dF P w K mg base N qual (cT st) f aX A outer s H E cm).gb (ie st) b) :
  cE P w K mg base dF (k+1) f fd ps (bq K (bG ps.length N.length b)) cm:=
 (X7 F S hb).imp λvs H Q E ⟨ds,fp,d,rs,e,q⟩=>⟨[],vs,[],ds,[],fp,d,rfl,.nil,.nil,rs,(λ_ _ m=>nomatch m),e,λH' v fp en r n fr=>q H' v fp (λa o e=>en a o e λm=>nomatch m) r n λa m=>(fr a m).resolve_right λm=>nomatch m⟩
end
noncomputable def vm(f:Int->Int->Int):D->D->Option D
 |.int i,.int j=>some (.int (f i j))
 |_,_=>none
noncomputable def yf(C:Int->Int->Bool)(f:Int->Int->Int):D->D->Option D
 |.int i,.int j=>if C i j=true then some (.int (f i j)) else none
 |_,_=>none
noncomputable def vF(f:Int->Int->Bool):D->D->Option D
 |.int i,.int j=>some (.bl (f i j))
 |_,_=>none
noncomputable def uq(i j:Int):Bool:=(decide (-(2 ^ 64)<i)&&decide (i<2 ^ 64))||(decide (-(2 ^ 64)<j)&&decide (j<2 ^ 64))
noncomputable def Gk(_ j:Int):Bool:=decide (0<j)
def gI:=vm λi j=>i+j
def i9:=vm λi j=>i-j
def zC:=yf uq λi j=>i*j
def oMod:=yf Gk λi j=>i % j
def oLt:=vF λi j=>decide (i<j)
def oLe:=vF λi j=>decide (i<=j)
def qt:=vF λi j=>decide (j<i)
def Bh:=vF λi j=>decide (j<=i)
noncomputable def oEq:D->D->Option D
 |.int i,.int j=>some (.bl (i==j))
 |.bl i,.bl j=>some (.bl (i==j))
 |.str i,.str j=>some (.bl (i==j))
 |.az,.az=>some (.bl true)
 |_,_=>none
noncomputable def iI:D->D->Option D
 |.int i,.int j=>some (.bl (!(i==j)))
 |.bl i,.bl j=>some (.bl (!(i==j)))
 |.str i,.str j=>some (.bl (!(i==j)))
 |.az,.az=>some (.bl false)
 |_,_=>none
noncomputable def oH:D->Bool
 |.az=>true
 |_=>false
def jf:D->D->Option D
 |d,.az=>some (.bl (oH d))
 |_,_=>none
def zM:D->D->Option D
 |d,.az=>some (.bl (!oH d))
 |_,_=>none
section
variable{K:PySem.W.Frag}
theorem Pf:gq K (nG λi j=>.int (g i j)) (vm g):=by
 exists 41;unfold vm at e
 split at e
 .cases e;exact⟨_,_,r1.jh.1,r2.jh.1,k H _ (aJ.refl H) (.int _)⟩
 .cases e
theorem tu:gq K (nG λi j=>.bl (g i j)) (vF g):=by
 exists 41;unfold vF at e
 split at e
 .cases e;exact⟨_,_,r1.jh.1,r2.jh.1,k H _ (aJ.refl H) (.bl _)⟩
 .cases e
theorem Gw(h:∀i j,c i j=true->C i j):gq K (rI C λi j=>.int (g i j)) (yf c g):=by
 exists 41;unfold yf at e
 split at e
 .rename_i i j;obtain⟨hc,e⟩:=ci e;cases e;exact⟨i,j,r1.jh.1,r2.jh.1,h i j hc,k H _ (aJ.refl H) (.int _)⟩
 .cases e
theorem VX(i j:Int)(h:uq i j=true):xA i j:=by
 unfold uq at h;unfold xA;rcases(ag4 _ _).mp h with h|h
 .obtain⟨a,b⟩:=(aaV _ _).mp h;exact .inl ⟨aaC a,aaC b⟩
 .obtain⟨a,b⟩:=(aaV _ _).mp h;exact .inr ⟨aaC a,aaC b⟩
theorem Gn:gq K K0 oEq:=by
 exists 41;unfold oEq at e
 split at e
 .cases e;rw[r1.jh.1,r2.jh.1];refine⟨rfl,?_⟩;rw[AQ];exists 49
 .cases e;rw[r1.zU.1,r2.zU.1];refine⟨rfl,?_⟩;rw[An];exists 49
 .cases e;rw[r1.y_.1,r2.y_.1];refine⟨rfl,?_⟩;rw[Ax];exists 49
 .cases e;rw[r1.BS.1,r2.BS.1];exact⟨rfl,by have:=k H (.bl true) (aJ.refl H) (.bl _);simpa using this⟩
 .cases e
theorem YL:gq K ML iI:=by
 exists 41;unfold iI at e
 split at e
 .cases e;rw[r1.jh.1,r2.jh.1];refine⟨rfl,?_⟩;rw[AQ];exists 49
 .cases e;rw[r1.zU.1,r2.zU.1];refine⟨rfl,?_⟩;rw[An];exists 49
 .cases e;rw[r1.y_.1,r2.y_.1];refine⟨rfl,?_⟩;rw[Ax];exists 49
 .cases e;rw[r1.BS.1,r2.BS.1];exact⟨rfl,by have:=k H (.bl false) (aJ.refl H) (.bl _);simpa using this⟩
 .cases e
theorem Rep.oH(r:Rep K H d v fp):decide (v=.az)=oH d:=by
 cases r<;>first|rfl|exact ab8 (λe=>nomatch e)
theorem Qk:gq K (λx y H Q=>y=.az/\Q (.bl (decide (x=.az))) H) jf:=by
 exists 41;unfold jf at e
 split at e
 .cases e;cases r2;refine⟨rfl,?_⟩;rw[r1.oH];exists 49
 .cases e
theorem Lg:gq K (λx y H Q=>y=.az/\Q (.bl (!decide (x=.az))) H) zM:=by
 exists 41;unfold zM at e
 split at e
 .cases e;cases r2;refine⟨rfl,?_⟩;rw[r1.oH];exists 49
 .cases e
end
section
variable{X:Cx}
theorem gh(ha:FP X a fa)(hb:FP X b fb):FP X (.BinOp a .Add b pos) (e2 gI fa fb):=wU aan Pf ha hb
theorem oA(ha:FP X a fa)(hb:FP X b fb):FP X (.BinOp a .Sub b pos) (e2 i9 fa fb):=wU WK Pf ha hb
theorem vM(ha:FP X a fa)(hb:FP X b fb):FP X (.BinOp a .Mult b pos) (e2 zC fa fb):=wU Zy (Gw VX) ha hb
theorem y9(ha:FP X a fa)(hb:FP X b fb):FP X (.BinOp a .Mod b pos) (e2 oMod fa fb):=wU aaX (Gw λ_ _ h=>aaC h) ha hb
theorem m5(ha:FP X a fa)(hb:FP X b fb):FT X (.Compare a [.Lt] [b] pos) (tV (e2 oLt fa fb)):=j6 RO tu ha hb (je _)
theorem xH(ha:FP X a fa)(hb:FP X b fb):FT X (.Compare a [.Gt] [b] pos) (tV (e2 qt fa fb)):=j6 ado tu ha hb (je _)
theorem Ay(ha:FP X a fa)(hb:FP X b fb):FT X (.Compare a [.GtE] [b] pos) (tV (e2 Bh fa fb)):=j6 ael tu ha hb (je _)
theorem gC(ha:FP X a fa)(hb:FP X b fb):FT X (.Compare a [.Eq] [b] pos) (tV (e2 oEq fa fb)):=j6 Ft Gn ha hb (je _)
theorem jW(ha:FP X a fa)(hb:FP X b fb):FT X (.Compare a [.NotEq] [b] pos) (tV (e2 iI fa fb)):=j6 SG YL ha hb (je _)
theorem Bq(ha:FP X a fa)(hb:FP X b fb):FT X (.Compare a [.Is] [b] pos) (tV (e2 jf fa fb)):=j6 K6 Qk ha hb (je _)
theorem ZA(ha:FP X a fa)(hb:FP X b fb):FT X (.Compare a [.IsNot] [b] pos) (tV (e2 zM fa fb)):=j6 ME Lg ha hb (je _)
theorem sN(ha:FP X a fa)(hb:FP X b fb):FP X (.Compare a [.Eq] [b] pos) (e2 oEq fa fb):=nI Ft Gn ha hb (je _)
noncomputable def e1(op:D->Option D)(fa:EF):EF:=λρ=>match fa ρ with
 |some (d1,_)=>(op d1).map λd=>(d,.own)
 |none=>none
theorem v8(e:e1 op fa ρ=some (d,tg)):∃d1 t1,fa ρ=some (d1,t1)/\op d1=some d/\tg=.own:=by
 unfold e1 at e;exists h1,fa ρ,p,e,0;obtain⟨d1,t1⟩:=p;rw[h1] at e;exists 68;exists h3,op d1,d3,e;cases e;exact⟨d1,t1,rfl,h3,rfl⟩
def qp(K:PySem.W.Frag)(r:List V->Hp->VK->Prop)(op:D->Option D):Prop:=∀(H) (x) (d1) (f1) (d) (Q),Rep K H d1 x f1->op d1=some d->
 (∀H' v fp,aJ H H'->Rep K H' d v fp->fp.Nodup->(∀a∈fp,H a=none)->Q v H')->r [x] H Q
theorem fp_1(dd:qp X.K r op)(ha:FP X a fa)(he:∀ta,PE X a ta->PE X e (JC r (PL ta Az))):FP X e (e1 op fa):=by
 exists 61;exists 21,he t p;obtain⟨d1,t1,h1,h2,rfl⟩:=v8 e;refine q ok h1 λH1 x f1 s1 r1 _=>?_
 exact dd H1 x d1 f1 d Q r1 h2 λH2 v fp s2 r2 nd fr=>k H2 v fp (s1.trans s2) r2 ⟨nd,λa m=>s1.free (fr a m)⟩
noncomputable def eS:D->Option D
 |.lst ds=>some (.int ds.length)
 |.gP ds=>some (.int ds.length)
 |.tup ds=>some (.int ds.length)
 |.bf es=>some (.int es.length)
 |_=>none
theorem g_.or'(h:g_ X f r)(h':g_ X f r'):g_ X f (λxs H Q=>r xs H Q\/r' xs H Q):=by
 intro ah s σ H xs us Q I rv q;rcases q with q|q
 .exact h ah s σ H xs us Q I rv q
 .exact h' ah s σ H xs us Q I rv q
theorem Xj:qp X.K (λxs H Q=>(∃p ys,xs=[V.ref p]/\(bX X.K H p ys\/cg X.K H p ys)/\Q (.int ys.length) H)\/(∃a ak,xs=[V.ref a]/\H a=some (.dK ak)/\Q (.int ak.length) H)) eS:=by
 intro H x d1 f1 d Q r e k;have fin:∀n:Nat,d=.int n->Q (.int n) H:=λn e=>by subst e;exact k H _ [] (aJ.refl H) (.int _) acW λa m=>nomatch m
 cases d1 with
 |lst ds=>
  exists 67;cases e;exact .inl ⟨a,xs,rfl,.inl hq,by rw[<- rs.length];exact fin _ rfl⟩
 |gP ds=>
  obtain⟨a,xs,rfl,hq,rs⟩:=r.sG;cases e;exact .inl ⟨a,xs,rfl,.inl hq,by rw[<- rs.length];exact fin _ rfl⟩
 |tup ds=>
  obtain⟨a,xs,rfl,hq,rs⟩:=r.ic;cases e;exact .inl ⟨a,xs,rfl,.inr hq,by rw[<- rs.length];exact fin _ rfl⟩
 |bf es=>
  cases r with
  |bf h hk rs=>
   cases e;refine .inr ⟨_,_,rfl,h,?_⟩;have hl:=congrArg List.length hk;rw[List.length_map,List.length_map] at hl;rw[<- hl];exact fin _ rfl
 |_=>cases e
theorem eU(hm:X.mg "len"=none)(ha:FP X a fa)(hg:Gl X "len":=by rfl)(hs:Y2 X a:=by rfl):FP X (.Call (.Name "len" p) [a] [] pos) (e1 eS fa):=
 fp_1 Xj ha λta pa=>sI (g_.or' UJ V2) hg hm PySem.boot_len (d8 pa fY hs) (he:=hs)
def pZ:D->Option D
 |.lst ds=>if aL ds=true then some (.lst ds) else none
 |.tup ds=>if aL ds=true then some (.lst ds) else none
 |_=>none
theorem Ug:qp X.K (λxs H Q=>∃p ys,xs=[V.ref p]/\(bX X.K H p ys\/cg X.K H p ys)/\∀l,H l=none->Q (.ref l) (upd H l (.lst ys))) pZ:=by
 intro H x d1 f1 d Q r e k;have fin:∀{ds} {xs} {f},aC X.K H ds xs f->(if aL ds=true then some (D.lst ds) else none)=some d->∀l,H l=none->Q (.ref l) (upd H l (.lst xs)):=λ{ds xs f} rs e l hl=>by
  exists 73;cases e;have hn:=rs.aB hi;subst hn;have s2:aJ H (upd H l (.lst xs)):=λb o e=>by rw[aP (cV e hl)];exact e
  exact k _ _ [l] s2 (.lst cD (rs.same s2)) (ab4.mpr ⟨(λm=>by cases m),acW⟩) λa m=>by cases aaU.mp m;exact hl
 cases d1 with
 |lst ds=>
  exists 67;exact⟨a,xs,rfl,.inl hq,fin rs e⟩
 |tup ds=>
  obtain⟨a,xs,rfl,hq,rs⟩:=r.ic;exact⟨a,xs,rfl,.inr hq,fin rs e⟩
 |_=>cases e
theorem jY(hm:X.mg "list"=none)(ha:FP X a fa)(hg:Gl X "list":=by rfl)(hs:Y2 X a:=by rfl):FP X (.Call (.Name "list" p) [a] [] pos) (e1 pZ fa):=
 fp_1 Ug ha λta pa=>Eh Zl hg hm (by rfl) (d8 pa fY hs) (he:=hs)
end
def c9:D->D->Option D
 |.gP ds,.int i=>(cB ds i).bind λd=>if aB d=true then some d else none
 |.lst ds,.int i=>(cB ds i).bind λd=>if aB d=true then some d else none
 |.tup ds,.int i=>(cB ds i).bind λd=>if aB d=true then some d else none
 |_,_=>none
theorem V1{K:PySem.W.Frag}:gq K (λx y H Q=>IB K x y H Q\/EU K x y H Q\/DS x y H Q) c9:=by
 exists 41;have key:∀{ds} {xs} {f} {i},aC K H ds xs f->((cB ds i).bind λd=>if aB d=true then some d else none)=some d->∃v,cB xs i=some v/\Rep K H d v []:=λ{ds xs f i} rs e=>by
  unfold cB at e ⊢;rw[<- rs.length];exists h,kM ds.length i,j,e,0;rw[h,ac0] at e;rw[ac0];exists h2,ds[j]?,d',e,0;rw[h2,ac0] at e
  by_cases hi:aB d'=true
  .rw[if_pos hi] at e;cases e;obtain⟨v,f',hv,rv,_⟩:=rs.get h2;have hn:=rv.aB hi;subst hn;exact⟨v,hv,rv⟩
  .rw[if_neg hi] at e;cases e
 unfold c9 at e
 split at e
 .obtain⟨a,xs,rfl,hq,rs⟩:=r1.sG;obtain⟨v,hv,rv⟩:=key rs e;exact .inl ⟨a,xs,_,v,rfl,r2.jh.1,hq,hv,k H v (aJ.refl H) rv⟩
 .obtain⟨a,xs,f,rfl,hq,rs,_⟩:=r1.dD;obtain⟨v,hv,rv⟩:=key rs e;exact .inl ⟨a,xs,_,v,rfl,r2.jh.1,hq,hv,k H v (aJ.refl H) rv⟩
 .obtain⟨a,xs,rfl,hq,rs⟩:=r1.ic;obtain⟨v,hv,rv⟩:=key rs e;exact .inr (.inl ⟨a,xs,_,v,rfl,r2.jh.1,hq,hv,k H v (aJ.refl H) rv⟩)
 .cases e
theorem ez(ha:FP X a fa)(hb:FP X b fb)(hs:Bc b:=by exact λ_ _=>rfl):FP X (.Subscript a b pos) (e2 c9 fa fb):=fp_2 V1 ha hb λ_ _ pa pb=>Ds F1 pa pb hs
theorem HD:eC d ρ=some (d,.own):=rfl
noncomputable def k1(op:D->Option D):Option (D×Tag)->Option (D×Tag)
 |some (d,_)=>(op d).map λd=>(d,.own)
 |none=>none
theorem yM:e1 Fy fa ρ=k1 Fy (fa ρ):=by unfold e1 k1;cases fa ρ<;>rfl
theorem Nb:k1 Fy (some (d,t))=(Fy d).map λd=>(d,.own):=rfl
noncomputable def k2(op:D->D->Option D):Option (D×Tag)->Option (D×Tag)->Option (D×Tag)
 |some (d1,_),some (d2,_)=>(op d1 d2).map λd=>(d,.own)
 |_,_=>none
theorem jN:e2 DP fa fb ρ=k2 DP (fa ρ) (fb ρ):=by unfold e2 k2;cases fa ρ<;>cases fb ρ<;>rfl
theorem xU:k2 DP (some (d1,t1)) (some (d2,t2))=(DP d1 d2).map λd=>(d,.own):=rfl
theorem PM:(some a).map f=some (f a):=rfl
noncomputable def kV:Option (D×Tag)->Option Bool
 |some (.bl b,_)=>some b
 |_=>none
theorem zQ:tV fa ρ=Ev.kV (fa ρ):=by
 unfold tV Ev.kV;cases fa ρ with
 |none=>rfl
 |some p=>obtain⟨d,t⟩:=p;cases d<;>rfl
theorem qN(h:tf ρ=some true):iK tf tg ρ=tg ρ:=by unfold iK;rw[h]
theorem A6(h:tf ρ=some false):iK tf tg ρ=some false:=by unfold iK;rw[h]
theorem q_(h:tf ρ=some false):lT tf tg ρ=tg ρ:=by unfold lT;rw[h]
theorem sD(h:tf ρ=some a)(h2:tg ρ=some b):iK tf tg ρ=some (a&&b):=by unfold iK;rw[h];cases a<;>first|exact h2|rfl
theorem BN(h:tf ρ=some a)(h2:tg ρ=some b):lT tf tg ρ=some (a||b):=by unfold lT;rw[h];cases a<;>first|exact h2|rfl
theorem CL:nW tf ρ=(tf ρ).map λb=>!b:=rfl
theorem abv:g9 ρ=some (.nx ρ):=rfl
noncomputable def CI(g:SF):Option Out->Option Out
 |some (.nx ρ)=>g ρ
 |o=>o
theorem j0:cu sf sg ρ=CI sg (sf ρ):=by
 unfold cu CI;cases sf ρ with
 |none=>rfl
 |some o=>cases o<;>rfl
theorem pX:CI sg (some (.nx ρ))=sg ρ:=rfl
noncomputable def A8(sf sg:SF)(ρ:aO):Option Bool->Option Out
 |some true=>sf ρ
 |some false=>sg ρ
 |none=>none
theorem jn:fN tf sf sg ρ=A8 sf sg ρ (tf ρ):=by unfold fN A8;cases tf ρ<;>rfl
theorem LO:A8 sf sg ρ (some true)=sf ρ:=rfl
theorem O2:A8 sf sg ρ (some false)=sg ρ:=rfl
def LF:Option (D×Tag)->Option Out
 |some (d,t)=>if jV t=true then some (.rt d) else if aB d=true then some (.rt d) else none
 |none=>none
theorem Bk:o8 fa ρ=LF (fa ρ):=by unfold o8 LF;cases fa ρ<;>rfl
def B8(i:Nat)(ρ:aO):Option (D×Tag)->Option Out
 |some (d,t)=>some (.nx (iH ρ i d t))
 |none=>none
theorem iO:dJ i fa ρ=B8 i ρ (fa ρ):=by unfold dJ B8;cases fa ρ<;>rfl
theorem xX:aE ρ=some []:=rfl
noncomputable def ko:Option (D×Tag)->Option (List (D×Tag))->Option (List (D×Tag))
 |some p,some ps=>some (p::ps)
 |_,_=>none
theorem aR:au fa a ρ=ko (fa ρ) (a ρ):=by unfold au ko;cases fa ρ<;>cases a ρ<;>rfl
theorem Af:ko (some p) (some ps)=some (p::ps):=rfl
theorem s_call:cP F a ρ=(a ρ).bind λps=>(F (ps.map (·.1))).map λd=>(d,.own):=rfl
theorem MU:(some a).bind f=f a:=rfl
theorem l7:iV a ρ=(a ρ).map λps=>(.tup (ps.map (·.1)),jK ps):=rfl
theorem lJ:gI (.int m) (.int n)=some (.int (m+n)):=rfl
theorem uK(h:uq m n=true):zC (.int m) (.int n)=some (.int (m*n)):=by show(if uq m n=true then some (D.int (m*n)) else none)=_;rw[if_pos h]
theorem ye(h:0<n):oMod (.int m) (.int n)=some (.int (m % n)):=by show(if Gk m n=true then some (D.int (m % n)) else none)=_;rw[if_pos (show Gk m n=true from aaq h)]
theorem vN:oLt (.int m) (.int n)=some (.bl (decide (m<n))):=rfl
theorem abh:oLe (.int m) (.int n)=some (.bl (decide (m<=n))):=rfl
theorem XY:qt (.int m) (.int n)=some (.bl (decide (n<m))):=rfl
theorem Ua:Bh (.int m) (.int n)=some (.bl (decide (n<=m))):=rfl
theorem vo:eS (.lst ds)=some (.int ds.length):=rfl
theorem vH(h:cB ds m=some d)(hi:aB d=true):c9 (.lst ds) (.int m)=some d:=by show((cB ds m).bind λd=>if aB d=true then some d else none)=_;rw[h,ac0,if_pos hi]
theorem UO(h:cB ds m=some d)(hi:aB d=true):c9 (.gP ds) (.int m)=some d:=by show((cB ds m).bind λd=>if aB d=true then some d else none)=_;rw[h,ac0,if_pos hi]
theorem nH(h:cB ds m=some d)(hi:aB d=true):c9 (.tup ds) (.int m)=some d:=by show((cB ds m).bind λd=>if aB d=true then some d else none)=_;rw[h,ac0,if_pos hi]
theorem bY(hl:ds.length=n)(h:b (J6 N ds)=some (.rt d)):bG n N b ds=some d:=by unfold bG;rw[if_pos hl,h]
noncomputable def dI(ns:List Int):D:=.gP (ns.map D.int)
theorem LG{ns:List Int}{i:Int}(h0:0<=i)(h1:i<ns.length):cB (ns.map D.int) i=some (.int (ns.getD i.toNat 0)):=by
 unfold cB kM;have h2:i.toNat<ns.length:=by omega
 rw[List.length_map,if_pos h0,if_pos h1,ac0,acn,aa9 h2,adb,aa9 h2];rfl
section
variable[DecidableEq κ]
noncomputable def aS(es:List (κ×D))(k:κ):Option D:=(es.find? λkv=>decide (kv.1=k)).map (·.2)
noncomputable def putD(es:List (κ×D))(k:κ)(d:D):List (κ×D):=
 if(es.any λkv=>decide (kv.1=k))=true then es.map (λkv=>if kv.1=k then(kv.1,d) else kv) else es++[(k,d)]
theorem mY{K:PySem.W.Frag}:∀{es}{ak:List (κ×V)} {fp},es.map (·.1)=ak.map (·.1)->aC K H (es.map (·.2)) (ak.map (·.2)) fp->
  (∀d,aS es k=some d->∃v f,eX ak k=some v/\Rep K H d v f/\∀a∈f,a∈fp)/\(aS es k=none->eX ak k=none)
 |[],[],_,_,_=>⟨λd e=>(nomatch e),λ_=>rfl⟩
 |[],_::_,_,e,_=>by simp at e
 |_::_,[],_,e,_=>by simp at e
 |(q,d0)::es,(q',v0)::ak,fp,e,r=>by
  simp only[aao,af2] at e;obtain⟨rfl,e⟩:=e;simp only[aao] at r;cases r with
  | @cons _ _ _ _ f1 f2 r1 r2=>
   obtain⟨i1,i2⟩:=mY e r2
   by_cases h:q=k
   .have e1:aS ((q,d0)::es) k=some d0:=by unfold aS;rw[adA,aaq h];rfl
    refine⟨λd ed=>?_,λen=>?_⟩
    .rw[e1] at ed;cases ed;exact⟨v0,f1,zq h,r1,λa m=>abj _ m⟩
    .rw[e1] at en;cases en
   .have e1:aS ((q,d0)::es) k=aS es k:=by unfold aS;rw[adA,ab8 h]
    rw[e1,xM h];exact⟨λd ed=>let⟨v,f,a,b,c⟩:=i1 d ed;⟨v,f,a,b,λx m=>aas _ (c x m)⟩,i2⟩
theorem vG{k:κ}(e:es.map (·.1)=ak.map (·.1)):(putD es k d).map (·.1)=(putK ak k v).map (·.1):=by
 have any:(es.any λkv=>decide (kv.1=k))=ak.any λkv=>decide (kv.1=k):=by
  have h1:(es.any λkv=>decide (kv.1=k))=(es.map (·.1)).any λx=>decide (x=k):=by rw[agw];rfl
  have h2:(ak.any λkv=>decide (kv.1=k))=(ak.map (·.1)).any λx=>decide (x=k):=by rw[agw];rfl
  rw[h1,h2,e]
 have m1:∀l:List (κ×D),(l.map λkv=>if kv.1=k then(kv.1,d) else kv).map (·.1)=l.map (·.1):=λl=>by
  rw[ade];congr 1;funext kv;show(if kv.1=k then(kv.1,d) else kv).1=kv.1;split<;>rfl
 have m2:∀l:List (κ×V),(l.map λkv=>if kv.1=k then(kv.1,v) else kv).map (·.1)=l.map (·.1):=λl=>by
  rw[ade];congr 1;funext kv;show(if kv.1=k then(kv.1,v) else kv).1=kv.1;split<;>rfl
 unfold putD putK;rw[any]
 by_cases h:(ak.any λkv=>decide (kv.1=k))=true
 .rw[if_pos h,if_pos h,m1,m2,e]
 .rw[if_neg h,if_neg h,adp,adp,e];rfl
theorem AE{K:PySem.W.Frag}{ak:List (κ×V)}(e:es.map (·.1)=ak.map (·.1))(r:aC K H (es.map (·.2)) (ak.map (·.2)) [])(rv:Rep K H d v []):
  aC K H ((putD es k d).map (·.2)) ((putK ak k v).map (·.2)) []:=by
 have any:(es.any λkv=>decide (kv.1=k))=ak.any λkv=>decide (kv.1=k):=by
  have h1:(es.any λkv=>decide (kv.1=k))=(es.map (·.1)).any λx=>decide (x=k):=by rw[agw];rfl
  have h2:(ak.any λkv=>decide (kv.1=k))=(ak.map (·.1)).any λx=>decide (x=k):=by rw[agw];rfl
  rw[h1,h2,e]
 have go:∀(es:List (κ×D)) (ak:List (κ×V)),es.map (·.1)=ak.map (·.1)->aC K H (es.map (·.2)) (ak.map (·.2)) []->aC K H ((es.map λkv=>if kv.1=k then(kv.1,d) else kv).map (·.2)) ((ak.map λkv=>if kv.1=k then(kv.1,v) else kv).map (·.2)) []:=by
  intro es
  induction es with
  |nil=>
   intro ak e r;cases ak with
   |nil=>exact .nil
   |cons _ _=>simp at e
  |cons p es ih=>
   intro ak e r;cases ak with
   |nil=>simp at e
   |cons p' ak=>
    obtain⟨q,d0⟩:=p;obtain⟨q',v0⟩:=p';simp only[aao,af2] at e;obtain⟨rfl,e⟩:=e;simp only[aao] at r ⊢;generalize hf:([]:List Addr)=fp at r;cases r with
    | @cons _ _ _ _ f1 f2 r1 r2=>
     obtain⟨h1,h2⟩:=agI.mp hf.symm;subst h1 h2;have t:=ih ak e r2
     by_cases h:q=k
     .rw[if_pos h,if_pos h];exact aC.cons rv t
     .rw[if_neg h,if_neg h];exact aC.cons r1 t
 unfold putD putK;rw[any]
 by_cases h:(ak.any λkv=>decide (kv.1=k))=true
 .rw[if_pos h,if_pos h];exact go es ak e r
 .rw[if_neg h,if_neg h,adp,adp];exact aC.append r (aC.cons rv .nil)
end
noncomputable def iu:D->Option Key
 |.int i=>some (.inl i)
 |.str x=>some (.inr x)
 |_=>none
theorem Rep.key{K:PySem.W.Frag}(r:Rep K H d y fp)(e:iu d=some k):y=L2.kV k:=by
 cases r<;>cases e<;>rfl
def jL:D->D->Option D
 |.bf es,kd=>match iu kd with
  |some k=>(aS es k).bind λd=>if aB d=true then some d else none
  |none=>none
 |_,_=>none
def YT:R2:=λx y H Q=>∃a v,x=.ref a/\gj H a y (some v)/\Q v H
theorem adL{K:PySem.W.Frag}:gq K YT jL:=by
 exists 41;cases r1 with
 | @bf a ak es fp h hk rs=>
  have e:(match iu d2 with|some k=>(aS es k).bind λd=>if aB d=true then some d else none|none=>none)=some d:=e;exists tS,iu d2,key,e;exists 68;exists hv,aS es key,d',e,0;rw[hv,ac0] at e
  by_cases hi:aB d'=true
  .rw[if_pos hi] at e;cases e;obtain⟨v,f,h1,r,_⟩:=(mY hk rs).1 d hv;have hn:=r.aB hi;subst hn;have ek:=r2.key tS;subst ek;have g:=gj.k (k:=key) h;rw[h1] at g;exact⟨a,v,rfl,g,k H v (aJ.refl H) r⟩
  .rw[if_neg hi] at e;cases e
 |_=>cases e
theorem tQ(hu:X.A.units+1<cLine)(ha:FP X a fa)(hb:FP X b fb)(hs:zA b:=by exact λ_ _=>rfl):FP X (.Subscript a b pos) (e2 jL fa fb):=
 fp_2 adL ha hb λ_ _ pa pb=>YW hu pa pb hs
def lI(d1 d2 d3:D):Option D:=match d1,iu d2 with
 |.bf es,some k=>match aS es k with
  |some d=>if aB d=true then some d else none
  |none=>if aB d3=true then some d3 else none
 |_,_=>none
noncomputable def e3(op:D->D->D->Option D)(fa fb fc:EF):EF:=λρ=>match fa ρ,fb ρ,fc ρ with
 |some (d1,_),some (d2,_),some (d3,_)=>(op d1 d2 d3).map λd=>(d,.own)
 |_,_,_=>none
theorem IK(e:e3 op fa fb fc ρ=some (d,tg)):∃d1 t1 d2 t2 d3 t3,fa ρ=some (d1,t1)/\fb ρ=some (d2,t2)/\fc ρ=some (d3,t3)/\op d1 d2 d3=some d/\tg=.own:=by
 unfold e3 at e;exists h1,fa ρ,p,e,0;cases h2:fb ρ with
 |none=>rw[h1,h2] at e;cases e
 |some q=>
  cases h3:fc ρ with
  |none=>rw[h1,h2,h3] at e;cases e
  |some r=>
   obtain⟨d1,t1⟩:=p;obtain⟨d2,t2⟩:=q;obtain⟨d3,t3⟩:=r;rw[h1,h2,h3] at e;exists 68;exists h4,op d1 d2 d3,d4,e;cases e;exact⟨d1,t1,d2,t2,d3,t3,rfl,rfl,rfl,h4,rfl⟩
theorem IU{apos cpos:Pos}(hu:X.A.units+1<cLine)(ha:FP X a fa)(hb:FP X b fb)(hc:FP X c fc)(m:M2 X a "get" apos b c cpos:=by exact⟨rfl,rfl,rfl,rfl⟩):FP X (.Call (.Attribute a "get" apos) [b,c] [] cpos) (e3 lI fa fb fc):=by
 exists 46;obtain⟨tc,pc,sc⟩:=hc;exists 21,E7 hu pa pb pc m;obtain⟨d1,t1,d2,t2,d3,t3,h1,h2,h3,h4,rfl⟩:=IK e;refine sa ok h1 λH1 x f1 s1 r1 _=>?_
 cases d1 with
 |bf es=>
  cases r1 with
  | @bf p ak _ fp h hk rs=>
   refine⟨p,rfl,.inl ⟨ak,.inl h⟩,?_⟩;refine sb (ok.same s1) h2 λH2 y f2 s2 r2 _=>?_
   refine sc ((ok.same s1).same s2) h3 λH3 w f3 s3 r3 _=>?_
   unfold lI at h4;exists tS,iu d2,key,h4;dsimp only at h4;have ek:=r2.key tS;subst ek;have Ae:=s3 _ _ (s2 _ _ h);have g:=gj.k (k:=key) Ae;refine⟨_,g,?_⟩;have zm:=(s1.trans s2).trans s3;obtain⟨i1,i2⟩:=mY hk ((rs.same s2).same s3);cases hv:aS es key with
   |some d'=>
    rw[hv] at h4;dsimp only at h4;obtain⟨hi,h4⟩:=ci h4;cases h4;obtain⟨v,f,e1,r,_⟩:=i1 d hv;have hn:=r.aB hi;subst hn;rw[e1];exact k H3 v [] zm r .nil
   |none=>
    rw[hv] at h4;dsimp only at h4;obtain⟨hi,h4⟩:=ci h4;cases h4;rw[i2 hv];have hn:=r3.aB hi;subst hn;exact k H3 w [] zm r3 .nil
 |_=>cases h4
theorem xW:FP X (.Dict [] [] pos) (eC (.bf [])):=by
 refine⟨_,acU,@λH0 S z aq ρ σ H Q d tg ok e k p hp=>?_⟩;cases e;have s2:aJ H (upd H p (.dK [])):=λb o e=>by rw[aP (cV e hp)];exact e
 exact k _ _ [p] s2 (.bf cD rfl .nil) ⟨ab4.mpr ⟨(λm=>by cases m),acW⟩,λa m=>by cases aaU.mp m;exact hp⟩
noncomputable def v_(i:Nat):Slot->Slot
 |some (d,.sh o)=>if o.contains i=true then none else some (d,.sh o)
 |s=>s
def bQ(ρ:aO)(i:Nat)(d:D):aO:=(ρ.map (v_ i)).set i (some (d,.own))
theorem IG(e:v_ i s=some (d,t)):s=some (d,t)/\∀o,t=.sh o->i∉o:=by
 cases s with
 |none=>cases e
 |some w=>
  obtain⟨d',t'⟩:=w;cases t' with
  |sh o=>
   have e:(if o.contains i=true then none else some (d',Tag.sh o))=some (d,t):=e
   split at e
   .cases e
   .rename_i hc;cases e;exact⟨rfl,λo' eo m=>by cases eo;exact hc (afd.mpr m)⟩
  |own=>cases e;exact⟨rfl,λo eo=>by cases eo⟩
  |lk=>cases e;exact⟨rfl,λo eo=>by cases eo⟩
theorem GJ(hj:j≠i)(e:(bQ ρ i d1)[j]? = some (some (d,t))):ρ[j]? = some (some (d,t))/\(P\/∀o,t=.sh o->i∉o):=by
 unfold bQ at e;rw[acS (afZ hj),acn] at e;obtain⟨s,e0,e⟩:=ach.mp e;obtain⟨rfl,n⟩:=IG e;exact⟨e0,.inr n⟩
theorem Dr(h:ρ[i]? = some d0):(bQ ρ i d1)[i]? = some (some (d1,.own)):=aea (by rw[List.length_map];exact(abP.mp h).1)
theorem Bm:(bQ ρ i d1).length=ρ.length:=by unfold bQ;rw[afT,List.length_map]
theorem Ok.put{K:PySem.W.Frag}(ok:Ok K H0 S z aq ρ σ H)(h:ρ[i]? = some (some (d0,.own)))
  (hs:σ[i]? = some (some v)) (zz:uC z i .own bI) (im:aV H H') (keep:∀b o,b∉bI->H b=some o->H' b=some o) (r1:Rep K H' d1 v bT) (nd:bT.Nodup) (fr:∀b∈bT,b∈bI\/H b=none):∃z',Ok K H0 S z' aq (bQ ρ i d1) σ H':=
 ⟨_,ok.chg (Dr h) hs zz.2 im keep r1 ⟨nd,λa m=>if_pos m⟩ (GB zz.2) (λa m=>⟨fr a m,let⟨o,w,_⟩:=r1.cG a m;⟨o,w⟩⟩) GJ (λ_ _=>rfl) (.inr λn=>n _ h) (Bm.trans ok.ln)⟩
theorem Ok.B5{K:PySem.W.Frag}(ok:Ok K H0 S z aq ρ σ H)(h:ρ[i]? = some (some (d0,.own)))
  (hs:σ[i]? = some (some v)) (zz:uC z i .own fp) (hp:p∈fp) (ho:H p=some o) (mo:jl o=true) (r1:Rep K (upd H p o') d1 v fp):Ok K H0 S z aq (bQ ρ i d1) σ (upd H p o'):=
 ok.chg (Dr h) hs zz.2 (aV.upd ho mo) (λb o n e=>by rw[aP λq:b=p=>n (q ▸ hp)];exact e) r1 zz (λa n=>.inr ⟨rfl,n,λ_ n=>n _ h⟩) (λa m=>⟨.inl m,let⟨o,w,_⟩:=r1.cG a m;⟨o,w⟩⟩) GJ (λ_ _=>rfl) (.inr λn=>n _ h) (Bm.trans ok.ln)
def m7(i:Nat)(fk fv:EF):SF:=λρ=>match fv ρ,ρ[i]?,fk ρ with
 |some (d,_),some (some (.bf es,.own)),some (kd,_)=>match iu kd with
  |some k=>if(aB d&&aL (es.map (·.2))&&decide (es.length<sizeLine))=true then some (.nx (bQ ρ i (.bf (putD es k d)))) else none
  |none=>none
 |_,_,_=>none
theorem zE(i:Nat){x:Str}{k v:Expr}(hu:X.A.units+1<cLine)(hk:FP X k fk)(hv:FP X v fv)(va:VA X i x:=by walk_at "va")(hs:swapsWith v (some (.Subscript (.Name x p1) k pos')) pos.line X.env=pure false:=by rfl):
  fC X (.Assign [.Subscript (.Name x p1) k pos'] v pos) (m7 i fk fv):=by
 obtain⟨tk,pk,sk⟩:=hk;obtain⟨tv,jF,sv⟩:=hv;exists 25,w6 hu va.pe pk jF hs;unfold m7 at e
 split at e
 .rename_i d td es kd F6 h1 h2 h3;exists h4,iu kd,key,e;exists 68;obtain⟨hc,e⟩:=ci e;cases e;obtain⟨r9,Hx⟩:=(aaV _ _).mp hc;obtain⟨r9,yK⟩:=(aaV _ _).mp r9;have hz:=aaC Hx;refine sv ok h1 λH1 v um s1 rv _=>?_
  obtain⟨xv,fp,bR,r,zz⟩:=(ok.same s1).sl i _ _ h2;refine⟨xv,bR,?_⟩;refine sk (ok.same s1) h3 λH2 y Dm s2 rk _=>?_
  have ek:=rk.key h4;subst ek;have r':=r.same s2;cases r' with
  | @bf a ak _ f h f9 rs=>
   have hn:=rs.aB yK;subst hn;have yS:=rv.aB r9;subst yS;have hl:ak.length=es.length:=by have:=congrArg List.length f9;simpa using this.symm
   refine⟨a,_,rfl,nR.k h (by rw[hl];exact hz),?_⟩;have im:aV H2 (upd H2 a (.dK (putK ak key v))):=aV.upd h rfl;refine q z σ _ (Ok.B5 ((ok.same s1).same s2) h2 bR zz aad h rfl (.bf cD (vG f9) ?_)) (.refl _ _);exact AE f9 (rs.frame (λa m=>nomatch m) im) ((rv.same s2).frame (λa m=>nomatch m) im)
 .cases e
noncomputable def uV(x:Int):List Int->List Int
 |[]=>[x]
 |y::r=>if x<=y then x::y::r else y::uV x r
def b7:List Int->List Int
 |[]=>[]
 |x::r=>uV x (b7 r)
theorem E5(x:Int):∀l:List Int,(uV x l).Perm (x::l)
 |[]=>.refl _
 |y::r=>by
  unfold uV
  split
  .exact .refl _
  .exact((E5 x r).cons y).trans (.swap x y r)
theorem qI:∀l:List Int,(b7 l).Perm l
 |[]=>.refl _
 |x::r=>(E5 x (b7 r)).trans ((qI r).cons x)
theorem QZ(x:Int):∀{l},l.Pairwise (·<=·)->(uV x l).Pairwise (·<=·)
 |[],_=>List.pairwise_singleton _ _
 |y::r,h=>by
  obtain⟨h1,h2⟩:=adS.mp h;unfold uV
  split
  .rename_i hx;exact adS.mpr ⟨λz m=>(aaA.mp m).elim (λe=>e ▸ hx) λm=>Int.le_trans hx (h1 z m),h⟩
  .rename_i hx;refine adS.mpr ⟨λz m=>?_,QZ x h2⟩;rcases aaA.mp ((E5 x r).mem_iff.mp m) with e|m
   .rw[e];lia
   .exact h1 z m
theorem Bs:∀l:List Int,(b7 l).Pairwise (·<=·)
 |[]=>.nil
 |x::r=>QZ x (Bs r)
theorem IV(p:a.Perm b)(s:a.Pairwise (·<=·)):a=b7 b:=by
 have q:=p.trans (qI b).symm;exact q.eq_of_pairwise (λx y _ _ h1 h2=>Int.le_antisymm h1 h2) s (Bs b)
theorem qA(l:List Int):(b7 l).length=l.length:=(qI l).length_eq
noncomputable def eN:List D->Option (List Int)
 |[]=>some []
 |.int i::r=>(eN r).map (i::·)
 |_=>none
noncomputable def ig{α:Type}:List (Key×α)->Option (List Int)
 |[]=>some []
 |(.inl i,_)::r=>(ig r).map (i::·)
 |_=>none
theorem r6{K:PySem.W.Frag}:∀{ds} {xs} {fp} {ns},aC K H ds xs fp->eN ds=some ns->xs=ns.map V.int
 |_,_,_,ns,.nil,e=>by cases e;rfl
 |_,_,_,ns,.cons (d:=d) h t,e=>by
  cases d with
  |int i=>
   unfold eN at e;exists q,eN _,r,e;cases e;cases h;rw[r6 t q];rfl
  |_=>cases e
theorem uv(ns:List Int):eN (ns.map D.int)=some ns:=by
 induction ns with
 |nil=>rfl
 |cons n r ih=>rw[aao];unfold eN;rw[ih];rfl
theorem RQ:∀{es:List (Key×α)} {ks},ig es=some ks->es.map (·.1)=ks.map Sum.inl
 |[],ks,e=>by cases e;rfl
 |(.inl i,_)::r,ks,e=>by
  unfold ig at e;exists q,ig r,l,e;cases e;rw[aao,RQ q];rfl
 |(.inr _,_)::_,_,e=>by cases e
def i7:D->Option D
 |.lst ds=>match eN ds with
  |some ns=>if ns.length<64 then some (.lst ((b7 ns).map D.int)) else none
  |none=>none
 |.bf es=>match ig es with
  |some ns=>if ns.length<64 then some (.lst ((b7 ns).map D.int)) else none
  |none=>none
 |_=>none
theorem yY{K:PySem.W.Frag}:∀ns:List Int,aC K H (ns.map D.int) (ns.map V.int) []
 |[]=>.nil
 |n::r=>aC.cons (.int n) (yY r)
theorem Uc{K:PySem.W.Frag}:qp K (Ky K) i7:=by
 intro H x d1 f1 d Q r e k;have fin:∀(ns:List Int),(if ns.length<64 then some (D.lst ((b7 ns).map D.int)) else none)=some d->ns.length<64/\∀l (oz:List Int),H l=none->oz.Perm ns->oz.Pairwise (·<=·)->Q (.ref l) (upd H l (.lst (oz.map V.int))):=λns e=>by
  by_cases h:ns.length<64
  .rw[if_pos h] at e;cases e;refine⟨h,λl oz hl p s=>?_⟩;have eq:=IV p s;subst eq;have s2:aJ H (upd H l (.lst ((b7 ns).map V.int))):=λb o e=>by rw[aP (cV e hl)];exact e
   exact k _ _ [l] s2 (.lst cD (yY _)) (ab4.mpr ⟨(λm=>by cases m),acW⟩) λa m=>by cases aaU.mp m;exact hl
  .rw[if_neg h] at e;cases e
 cases d1 with
 |lst ds=>
  exists 67;have e:(match eN ds with|some ns=>if ns.length<64 then some (D.lst ((b7 ns).map D.int)) else none|none=>none)=some d:=e;cases h:eN ds with
  |none=>rw[h] at e;cases e
  |some ns=>
   rw[h] at e;obtain⟨h1,h2⟩:=fin ns e;have ex:=r6 rs h;subst ex;exact⟨a,ns,rfl,h1,.inr hq,h2⟩
 |bf es=>
  cases r with
  | @bf a ak _ fp h hk rs=>
   have e:(match ig es with|some ns=>if ns.length<64 then some (D.lst ((b7 ns).map D.int)) else none|none=>none)=some d:=e;cases h':ig es with
   |none=>rw[h'] at e;cases e
   |some ns=>
    rw[h'] at e;obtain⟨h1,h2⟩:=fin ns e;exact⟨a,ns,rfl,h1,.inl ⟨ak,h,by rw[<- hk];exact RQ h'⟩,h2⟩
 |_=>cases e
def iU:List D->Option (List (Key×D))
 |[]=>some []
 |.tup [kd,d]::r=>match iu kd,iU r with
  |some k,some ps=>if aB d=true then some ((k,d)::ps) else none
  |_,_=>none
 |_=>none
def xq:D->Option D
 |.lst ds=>(iU ds).map λps=>.bf (ps.foldl (λm p=>putD m p.1 p.2) [])
 |.tup ds=>(iU ds).map λps=>.bf (ps.foldl (λm p=>putD m p.1 p.2) [])
 |.bf es=>if aL (es.map (·.2))=true then some (.bf es) else none
 |_=>none
theorem ae8:bootBuiltins "min"=some (.builtin "min"):=by decide +kernel
theorem acV:bootBuiltins "sorted"=some (.builtin "sorted"):=by decide +kernel
theorem qd(hc:X.calm=true)(hm:X.mg "sorted"=none)(ha:FP X a fa)(hg:Gl X "sorted":=by rfl)(hs:Y2 X a:=by rfl):FP X (.Call (.Name "sorted" p) [a] [] pos) (e1 i7 fa):=
 fp_1 Uc ha λta pa=>sI (aeE hc) hg hm acV (d8 pa fY hs) (he:=hs)
def xj:D->D->Option D:=vm λi j=>if j<i then j else i
noncomputable def kr:List Int->Int
 |[]=>0
 |[x]=>x
 |x::r=>if x<=kr r then x else kr r
theorem Dt:∀{l},l≠[]->kr l∈l/\∀x∈l,kr l<=x
 |[x],_=>⟨aad,λy m=>by rw[aaU.mp m];exact Int.le_refl _⟩
 |x::y::r,_=>by
  obtain⟨h1,h2⟩:=Dt (l:=y::r) (by simp);show(if x<=kr (y::r) then x else kr (y::r))∈_/\∀z∈_,(if x<=kr (y::r) then x else kr (y::r))<=z
  by_cases h:x<=kr (y::r)
  .rw[if_pos h];exact⟨aad,λz m=>(aaA.mp m).elim (λe=>by rw[e];exact Int.le_refl _) λm=>Int.le_trans h (h2 z m)⟩
  .rw[if_neg h];exact⟨aab _ h1,λz m=>(aaA.mp m).elim (λe=>by rw[e];lia) λm=>h2 z m⟩
def ace:D->D->Option D
 |.lst ds,z=>match eN ds with
  |some []=>if aB z=true then some z else none
  |some (n::r)=>some (.int (kr (n::r)))
  |none=>none
 |_,_=>none
theorem RP(hc:X.calm=true)(hm:X.mg "min"=none)(ha:FP X a fa)(hb:FP X b fb)(hg:Gl X "min":=by rfl)(hs:starEach [a,b] X.env=[(false,eval a X.env),(false,eval b X.env)]:=by rfl)(c_:Y2 X b:=by rfl)(hpl:(backTo pos (starEach [b] X.env)).any (·.1)=false:=by rfl):
  FP X (.Call (.Name "min" p) [a,b] [] pos) (e2 xj fa fb):=by
 exists 46;exists 21,sI (acE hc) hg hm ae8 (d8 pa (d8 pb fY c_) (by rw[hs,c_])) (he:=by rw[hs,c_]) (hpl:=hpl);obtain⟨d1,t1,d2,t2,h1,h2,h3,rfl⟩:=oZ e;refine sa ok h1 λH1 x f1 s1 r1 _=>?_
 refine sb (ok.same s1) h2 λH2 y f2 s2 r2 _=>?_
 unfold xj vm at h3
 split at h3
 .cases h3;exact⟨_,_,by rw[r1.jh.1,r2.jh.1],k H2 _ [] (s1.trans s2) (.int _) .nil⟩
 .cases h3
theorem aaQ(hc:X.calm=true)(hm:X.mg "min"=none)(ha:FP X a fa)(hb:FP X b fb)(hg:Gl X "min":=by rfl)(hs:Y2 X a:=by rfl)
  (h1:backTo pos (starEach [a] X.env)=(false,eval a X.env)::backTo pos (starEach [] X.env):=by rfl) (h2:(backTo pos (starEach [a] X.env)).any (·.1)=false:=by rfl)
  (h3:(backToKw pos (keywordEach [⟨some "default",b,kp⟩] X.env)).all (·.1.isSome)=true:=by rfl) (h4:(backToKw pos (keywordEach [⟨some "default",b,kp⟩] X.env)).any (·.1.isNone)=false:=by rfl)
  (h5:(backToKw pos (keywordEach [⟨some "default",b,kp⟩] X.env)).filterMap (·.1)=[("default":Str)]:=by rfl) :
  FP X (.Call (.Name "min" p) [a] [⟨some "default",b,kp⟩] pos) (e2 ace fa fb):=by
 exists 46;exists 21,ae3 hc hm pa pb hg hs h1 h2 h3 h4 h5;obtain⟨d1,t1,d2,t2,g1,g2,g3,rfl⟩:=oZ e;refine sa ok g1 λH1 x f1 s1 r1 _=>?_
 refine sb (ok.same s1) g2 λH2 y f2 s2 r2 _=>?_
 cases d1 with
 |lst ds=>
  obtain⟨l,xs,f,rfl,hq,rs,_⟩:=(r1.same s2).dD;have g3:(match eN ds with|some []=>if aB d2=true then some d2 else none|some (n::r)=>some (.int (kr (n::r)))|none=>none)=some d:=g3;cases h:eN ds with
  |none=>rw[h] at g3;cases g3
  |some ns=>
   rw[h] at g3;have ex:=r6 rs h;subst ex;refine⟨l,ns,rfl,hq,?_⟩;cases ns with
   |nil=>
    have g3:=g3
    by_cases hi:aB d2=true
    .rw[if_pos hi] at g3;cases g3;have hn:=r2.aB hi;subst hn;exact .inl ⟨rfl,k H2 y [] (s1.trans s2) r2 .nil⟩
    .rw[if_neg hi] at g3;cases g3
   |cons n r=>
    cases g3;refine .inr ⟨by simp,λm oB vB=>?_⟩;obtain⟨q1,q2⟩:=Dt (l:=n::r) (by simp);have em:=Int.le_antisymm (vB _ q1) (q2 m oB);rw[em];exact k H2 _ [] (s1.trans s2) (.int _) .nil
 |_=>cases g3
theorem Ri{K:PySem.W.Frag}:∀{ds} {xs} {fp} {ps},aC K H ds xs fp->iU ds=some ps->
  ∃qs:List (Key×V),Paired (λy (q:Key×V)=>∃a,y=.ref a/\cg K H a [L2.kV q.1,q.2]) xs qs/\ps.map (·.1)=qs.map (·.1)/\aC K H (ps.map (·.2)) (qs.map (·.2)) []
 |_,_,_,ps,.nil,e=>by cases e;exact⟨[],.nil,rfl,.nil⟩
 |_,_,_,ps,.cons (d:=d) (ds:=dr) h t,e=>by
  unfold iU at e
  split at e
  .rename_i heq;cases heq
  .rename_i kd d' r heq;cases heq;exists h1,iu kd,k,e,0;cases h2:iU dr with
   |none=>rw[h1,h2] at e;cases e
   |some pr=>
    rw[h1,h2] at e;exists 68;exists 73;cases e;obtain⟨qs,a1,a2,a3⟩:=Ri t h2;obtain⟨a,ys,rfl,hq,rs⟩:=h.ic;cases rs with
    |cons rk rs=>
     cases rs with
     |cons rv rs=>
      cases rs with
      |nil=>
       have ek:=rk.key h1;subst ek;have hn:=rv.aB hi;subst hn;exact⟨(k,_)::qs,.cons ⟨a,rfl,hq⟩ a1,by rw[aao,aao,a2],aC.cons rv a3⟩
  .cases e
theorem Od{K:PySem.W.Frag}:∀{ps:List (Key×D)}{qs:List (Key×V)} {es} {ak},ps.map (·.1)=qs.map (·.1)->aC K H (ps.map (·.2)) (qs.map (·.2)) []->es.map (·.1)=ak.map (·.1)->aC K H (es.map (·.2)) (ak.map (·.2)) []->
  (ps.foldl (λm p=>putD m p.1 p.2) es).map (·.1)=(qs.foldl (λm q=>putK m q.1 q.2) ak).map (·.1)/\aC K H ((ps.foldl (λm p=>putD m p.1 p.2) es).map (·.2)) ((qs.foldl (λm q=>putK m q.1 q.2) ak).map (·.2)) []
 |[],[],_,_,_,_,h1,h2=>⟨h1,h2⟩
 |[],_::_,_,_,e,_,_,_=>by simp at e
 |_::_,[],_,_,e,_,_,_=>by simp at e
 |(k,d)::ps,(k',v)::qs,es,ak,e,r,h1,h2=>by
  simp only[aao,af2] at e;obtain⟨rfl,e⟩:=e;simp only[aao] at r;generalize hf:([]:List Addr)=fp at r;cases r with
  | @cons _ _ _ _ f1 f2 r1 r2=>
   obtain⟨z1,z2⟩:=agI.mp hf.symm;subst z1 z2;rw[afa,afa];exact Od e r2 (vG h1) (AE h1 h2 r1)
theorem Uh{K:PySem.W.Frag}:qp K (λxs H Q=>Jz K xs H Q\/∃a ak,xs=[V.ref a]/\H a=some (.dK ak)/\∀l,H l=none->Q (.ref l) (upd H l (.dK ak))) xq:=by
 intro H x d1 f1 d Q r e k;have fresh:∀{o:HO} {l},H l=none->aJ H (upd H l o):=λhl b o e=>by rw[aP (cV e hl)];exact e
 have Cq:∀l:Addr,([l]:List Addr).Nodup:=λl=>ab4.mpr ⟨(λm=>by cases m),acW⟩
 have seq:∀{ds} {xs} {f} {p},aC K H ds xs f->(bX K H p xs\/cg K H p xs)->((iU ds).map λps=>D.bf (ps.foldl (λm p=>putD m p.1 p.2) []))=some d->Jz K [.ref p] H Q:=λ{ds xs f p} rs hq e=>by
  exists h,iU ds,ps,e;cases e;obtain⟨qs,a1,a2,a3⟩:=Ri rs h;refine⟨p,xs,qs,rfl,hq,a1,λl hl=>?_⟩;obtain⟨b1,b2⟩:=Od (es:=[]) (ak:=[]) a2 a3 rfl .nil;exact k _ _ [l] (fresh hl) (.bf cD b1 (b2.same (fresh hl))) (Cq l) λa m=>by cases aaU.mp m;exact hl
 cases d1 with
 |lst ds=>
  exists 67;exact .inl (seq rs (.inl hq) e)
 |tup ds=>
  obtain⟨a,xs,rfl,hq,rs⟩:=r.ic;exact .inl (seq rs (.inr hq) e)
 |bf es=>
  cases r with
  | @bf a ak _ fp h hk rs=>
   have e:(if aL (es.map (·.2))=true then some (D.bf es) else none)=some d:=e;exists 73;cases e;have hn:=rs.aB hi;subst hn;exact .inr ⟨a,ak,rfl,h,λl hl=>k _ _ [l] (fresh hl) (.bf cD hk (rs.same (fresh hl))) (Cq l) λa m=>by cases aaU.mp m;exact hl⟩
 |_=>cases e
section
variable{X:Cx}
theorem Yk:g_ X (.type "dict") (λxs H Q=>∃a ak,xs=[V.ref a]/\H a=some (.dK ak)/\∀l,H l=none->Q (.ref l) (upd H l (.dK ak))):=by
 exists 43;obtain⟨a,ak,rfl,ha,q⟩:=h;obtain⟨u,rfl,ru⟩:=vals1 r;cases ru;exact VR I (.inl ha) λp s' hp I'=>⟨.ref p,_,I',rfl,q p hp⟩
theorem vJ{p:Pos}(hc:X.calm=true)(hm:X.mg "dict"=none)(ha:FP X a fa)(hg:Gl X "dict":=by rfl)(hs:Y2 X a:=by rfl):FP X (.Call (.Name "dict" p) [a] [] pos) (e1 xq fa):=
 fp_1 Uh ha λta pa=>Eh (g_.or' (aek hc) Yk) hg hm (show bootBuiltins "dict"=some (.type "dict") by decide +kernel) (d8 pa fY hs) (he:=hs)
def uL:D->Option D
 |.lst ds=>if aL ds=true then some (.tup ds) else none
 |.tup ds=>if aL ds=true then some (.tup ds) else none
 |_=>none
theorem Ud:qp X.K (λxs H Q=>∃p ys,xs=[V.ref p]/\((bX X.K H p ys/\∀l,H l=none->Q (.ref l) (upd H l (.tup ys)))\/(cg X.K H p ys/\Q (.ref p) H))) uL:=by
 intro H x d1 f1 d Q r e k;cases d1 with
 |lst ds=>
  exists 67;have e:(if aL ds=true then some (D.tup ds) else none)=some d:=e;exists 73;cases e;have hn:=rs.aB hi;subst hn;refine⟨a,xs,rfl,.inl ⟨hq,λl hl=>?_⟩⟩;have s2:aJ H (upd H l (.tup xs)):=λb o e=>by rw[aP (cV e hl)];exact e
  exact k _ _ [] s2 (.tup (cg.of cD) (rs.same s2)) acW λa m=>nomatch m
 |tup ds=>
  obtain⟨a,xs,rfl,hq,rs⟩:=r.ic;have e:(if aL ds=true then some (D.tup ds) else none)=some d:=e;exists 73;cases e;have hn:=rs.aB hi;subst hn;exact⟨a,xs,rfl,.inr ⟨hq,k H _ [] (aJ.refl H) (.tup hq rs) acW λa m=>nomatch m⟩⟩
 |_=>cases e
theorem sO{p:Pos}(hm:X.mg "tuple"=none)(ha:FP X a fa)(hg:Gl X "tuple":=by rfl)(hs:Y2 X a:=by rfl):FP X (.Call (.Name "tuple" p) [a] [] pos) (e1 uL fa):=
 fp_1 Ud ha λta pa=>Eh aeS hg hm (show bootBuiltins "tuple"=some (.type "tuple") by decide +kernel) (d8 pa fY hs) (he:=hs)
end
mutual
noncomputable def dep:D->Nat
 |.tup a=>Jd a+1
 |.lst a=>Jd a+1
 |_=>0
noncomputable def Jd:List D->Nat
 |[]=>0
 |x::xs=>max (dep x) (Jd xs)
end
def xZ(N:List Str)(uR sc:Scope)(M:List Str)(js:List (Option Nat)):Bool:=
 (sc.kind == .function)&&sc.names.all (λy=>y.2 != .cell)&&sc.names.all (λy=>if y.2 == .local then sc.names.lookup y.1==some .local else true)&&oW N sc M js&&(frees sc).all (λx=>uR.names.lookup x==some .cell||uR.names.lookup x==some .free)&&decide M.Nodup
theorem aaP(h1:X.N=N)(h2:X.env.scope=uR)(h3:X.env.kindOf=λx=>uR.names.lookup x)(h:xZ N uR sc M js=true):oS X M js sc:=by
 unfold xZ at h;obtain⟨h,a6⟩:=(aaV _ _).mp h;obtain⟨h,a5⟩:=(aaV _ _).mp h;obtain⟨h,a4⟩:=(aaV _ _).mp h;obtain⟨h,a3⟩:=(aaV _ _).mp h;obtain⟨a1,a2⟩:=(aaV _ _).mp h;refine⟨?_,λy hy=>?_,λy hy hl=>?_,?_,λx hx=>?_,aaC a6⟩
 .cases hk:sc.kind<;>rw[hk] at a1<;>first|rfl|exact absurd a1 (by decide)
 .have:=adt.mp a2 y hy;intro z;rw[z] at this;exact absurd this (by decide)
 .have:=adt.mp a3 y hy;rw[hl] at this;have this:=this;cases q:sc.names.lookup y.1 with
  |none=>rw[q] at this;exact absurd this (by decide)
  |some k=>rw[q] at this;cases k<;>first|rfl|exact absurd this (by decide)
 .rw[h1];exact a4
 .have:=adt.mp a5 x hx;rw[h3];dsimp only;cases q:uR.names.lookup x with
  |none=>rw[q] at this;exact absurd this (by decide)
  |some k=>rw[q] at this;cases k<;>first|exact .inl rfl|exact .inr rfl|exact absurd this (by decide)
end L2.Ev
namespace L2.Ev
open PySem PySem.Spec PyProof.Rows
theorem cO.back(g:cO z H1 t fp)(s:aJ H H1):cO z H t fp:=by
 cases t with
 |sh o=>exact g
 |own=>exact⟨g.1,λa m=>s.free (g.2 a m)⟩
 |lk=>exact⟨g.1,λa m=>s.free (g.2 a m)⟩
noncomputable def zO(fa fb:EF):EF:=λρ=>match fa ρ with
 |some (.bl true,_)=>fb ρ
 |some (.bl false,_)=>some (.bl false,.own)
 |_=>none
noncomputable def GZ(fa fb:EF):EF:=λρ=>match fa ρ with
 |some (.bl true,_)=>some (.bl true,.own)
 |some (.bl false,_)=>fb ρ
 |_=>none
noncomputable def aeJ:D->Option D
 |.bl b=>some (.bl (!b))
 |_=>none
theorem qE{op}(h:FP X a fa):FP X (.BoolOp op [a] pos) fa:=let⟨t,p,q⟩:=h;⟨t,OT p,q⟩
theorem nJ{rest:List Expr}(ha:FP X a fa)(hb:FP X (.BoolOp .And (b::rest) pos) fb):FP X (.BoolOp .And (a::b::rest) pos) (zO fa fb):=by
 exists 61;obtain⟨t',p',q'⟩:=hb;exists 21,afw p p';unfold zO at e
 split at e
 .rename_i tt h;refine q ok h λH1 v fp s1 r1 _=>?_
  cases r1;refine⟨true,rfl,?_⟩;rw[if_pos rfl];exact q' (ok.same s1) e λH2 v fp s2 r2 g2=>k H2 v fp (s1.trans s2) r2 (g2.back s1)
 .rename_i tt h;cases e;refine q ok h λH1 v fp s1 r1 _=>?_
  cases r1;refine⟨false,rfl,?_⟩;rw[if_neg abk];exact k H1 _ [] s1 (.bl _) .nil
 .cases e
theorem V0{rest:List Expr}(ha:FP X a fa)(hb:FP X (.BoolOp .Or (b::rest) pos) fb):FP X (.BoolOp .Or (a::b::rest) pos) (GZ fa fb):=by
 exists 61;obtain⟨t',p',q'⟩:=hb;exists 21,Rp p p';unfold GZ at e
 split at e
 .rename_i tt h;cases e;refine q ok h λH1 v fp s1 r1 _=>?_
  cases r1;refine⟨true,rfl,?_⟩;rw[if_pos rfl];exact k H1 _ [] s1 (.bl _) .nil
 .rename_i tt h;refine q ok h λH1 v fp s1 r1 _=>?_
  cases r1;refine⟨false,rfl,?_⟩;rw[if_neg abk];exact q' (ok.same s1) e λH2 v fp s2 r2 g2=>k H2 v fp (s1.trans s2) r2 (g2.back s1)
 .cases e
theorem aa8(ha:FP X a fa):FP X (.UnaryOp .Not a pos) (e1 aeJ fa):=by
 exists 61;exists 21,Vt p;obtain⟨d1,t1,h1,h2,rfl⟩:=v8 e;refine q ok h1 λH1 v fp s1 r1 _=>?_
 cases r1<;>cases h2
 exact⟨_,rfl,k H1 _ [] s1 (.bl _) .nil⟩
def gH:D->D->Option D
 |.lst ds,.lst es=>if(aL ds&&aL es&&decide (ds.length+es.length<=sizeLine))=true then some (.lst (ds++es)) else none
 |_,_=>none
theorem lZ(ha:FP X a fa)(hb:FP X b fb):FP X (.BinOp a .Add b pos) (e2 gH fa fb):=by
 exists 46;exists 20,Ju ac8 pa pb;obtain⟨d1,t1,d2,t2,e1,h_,e3,rfl⟩:=oZ e;exists 66
 exists 47
 unfold gH at e3
 split at e3
 .rename_i ds es;obtain⟨hc,e3⟩:=ci e3;cases e3;obtain⟨c1,c3⟩:=(aaV _ _).mp hc;obtain⟨c1,c2⟩:=(aaV _ _).mp c1;have r1:=r1.same s2;cases r1 with
  | @lst p xs _ f h rs=>
   cases r2 with
   | @lst p' ys _ f' h' mE=>
    have n1:=rs.aB c1;have n2:=mE.aB c2;subst n1 n2;refine⟨p,p',xs,ys,rfl,rfl,h,h',by rw[<- rs.length,<- mE.length];exact aaC c3,λl hl=>?_⟩;have s3:aJ H2 (upd H2 l (.lst (xs++ys))):=λb o e=>by rw[aP (cV e hl)];exact e
    have rr:=aC.append rs mE;refine q _ _ [l] ((s1.trans s2).trans s3) (.lst cD (rr.same s3)) ⟨ab4.mpr ⟨(λm=>by cases m),acW⟩,λa m=>?_⟩;cases aaU.mp m;exact(s1.trans s2).free hl
 .cases e3
noncomputable def AG:D->Option String
 |.int _=>some "int"
 |.bl _=>some "bool"
 |.str _=>some "str"
 |.az=>some "NoneType"
 |.lst _=>some "list"
 |.bf _=>some "dict"
 |_=>none
def Cm(T:String)(d:D):Option D:=match AG d with
 |some t=>some (.bl (t==T||(t == "bool"&&T == "int")))
 |none=>none
def yT(T:String):Prop:=∀(K) (t),t∈["int","bool","str","NoneType","list","dict"]->PySem.W.kitOne K (.type t) (.type T)=some (t==T||(t == "bool"&&T == "int"))
theorem aej:yT "int":=by
 intro K t m;simp only[aaA,adB,agr] at m;rcases m with rfl|rfl|rfl|rfl|rfl|rfl<;>rfl
theorem Ul:yT "bool":=by
 intro K t m;simp only[aaA,adB,agr] at m;rcases m with rfl|rfl|rfl|rfl|rfl|rfl<;>rfl
theorem MO(T:String):g_ X (.builtin "isinstance") (λxs H Q=>∃x t b,xs=[x,V.ty T]/\jC X.K H x t/\PySem.W.kitOne X.K t (.type T)=some b/\Q (.bl b) H):=by
 exists 43;obtain⟨x,t,bb,rfl,ty,e,q⟩:=h;obtain⟨u,w',rfl,ru,fq⟩:=vals2 r;cases fq;exact Vu I ru ty e λtk=>⟨.bl bb,H,I.tok tk,rfl,q⟩
theorem Rep.ty{K:PySem.W.Frag}(r:Rep K H d v fp)(e:AG d=some t):jC K H v (.type t)/\t∈["int","bool","str","NoneType","list","dict"]:=by
 cases r with
 |az=>cases e;exact⟨.az,by decide⟩
 |bl b=>cases e;exact⟨.bl b,by decide⟩
 |int i=>cases e;exact⟨.int i,by decide⟩
 |str x=>cases e;exact⟨.str x,by decide⟩
 |lst h _=>cases e;exact⟨.lst h,by decide⟩
 |bf h _ _=>cases e;exact⟨.dK h,by decide⟩
 |tup _ _=>cases e
 |BI _ _=>cases e
 |cj _ _ _=>cases e
 |ins _ _ _ _=>cases e
 |exc _ _ _=>cases e
theorem Lv{T:String}(hT:yT T)(hm:X.mg "isinstance"=none)(HH:X.mg x=none)(ha:FP X a fa)(Ex:bootBuiltins x=some (.type T):=by decide +kernel)(hg:Gl X "isinstance":=by rfl)(Ir:Gl X x:=by rfl)(hn:x≠"__name__":=by decide)(kO:(x==("__debug__":Str))=false:=by decide)
  (hs:starEach [a,.Name x p2] X.env=[(false,eval a X.env),(false,eval (.Name x p2) X.env)]:=by rfl) (hpl:(backTo pos (starEach [.Name x p2] X.env)).any (·.1)=false:=by rfl):FP X (.Call (.Name "isinstance" p) [a,.Name x p2] [] pos) (e1 (Cm T) fa):=by
 obtain⟨ta,pa,sa⟩:=ha;have c_:starEach [.Name x p2] X.env=[(false,eval (.Name x p2) X.env)]:=rfl;exists 21,sI (MO T) hg hm (show bootBuiltins "isinstance"=some (.builtin "isinstance") by decide +kernel) (d8 pa (d8 (LR (v:=.ty T) Ir HH Ex rfl hn kO) fY) (by rw[hs,c_])) (he:=by rw[hs,c_]);obtain⟨d1,t1,h1,h2,rfl⟩:=v8 e;refine sa ok h1 λH1 v fp s1 r1 _=>?_
 unfold Cm at h2;exists ht,AG d1,t,h2;cases h2;obtain⟨ty,mem⟩:=r1.ty ht;exact⟨v,_,_,rfl,ty,hT X.K t mem,k H1 _ [] s1 (.bl _) .nil⟩
end L2.Ev
namespace L2.Ev
open PySem
noncomputable def k3(op:D->D->D->Option D):Option (D×Tag)->Option (D×Tag)->Option (D×Tag)->Option (D×Tag)
 |some (d1,_),some (d2,_),some (d3,_)=>(op d1 d2 d3).map λd=>(d,.own)
 |_,_,_=>none
theorem uX:e3 YY fa fb fc ρ=k3 YY (fa ρ) (fb ρ) (fc ρ):=by unfold e3 k3;cases fa ρ<;>cases fb ρ<;>cases fc ρ<;>rfl
noncomputable def Lx(fb:EF)(ρ:aO):Option (D×Tag)->Option (D×Tag)
 |some (.bl true,_)=>fb ρ
 |some (.bl false,_)=>some (.bl false,.own)
 |_=>none
theorem ZW:zO fa fb ρ=Lx fb ρ (fa ρ):=by
 unfold zO Lx;cases fa ρ with
 |none=>rfl
 |some w=>obtain⟨d,t⟩:=w;cases d<;>first|rfl|(rename_i b;cases b<;>rfl)
theorem aeQ:jf d .az=some (.bl (oH d)):=rfl
theorem Mw(P:Nat->aO->Prop):∀{ds} {ρ} {n},P n ρ->(∀j ρ d,ds[j]? = some d->P (n+j) ρ->∃aQ aY,g d t ρ=some aQ/\(f aQ=some (.nx aY)\/f aQ=some (.ct aY))/\P (n+j+1) aY)->
  ∃ρ',cz g t f ds ρ=some (.nx ρ')/\P (n+ds.length) ρ'
 |[],ρ,n,h,_=>⟨ρ,rfl,h⟩
 |d::ds,ρ,n,h,hs=>by
  obtain⟨aQ,aY,h1,h2,h3⟩:=hs 0 ρ d rfl h;obtain⟨ρ',h4,h5⟩:=Mw P h3 λj ρ d hd hp=>by
   have:=hs (j+1) ρ d hd (by rw[show n+(j+1)=n+1+j by lia];exact hp);rw[show n+(j+1)+1=n+1+j+1 by lia] at this;exact this
  refine⟨ρ',?_,by rw[acj,show n+(ds.length+1)=n+1+ds.length by lia];exact h5⟩;unfold cz;rw[h1];rcases h2 with h2|h2<;>(dsimp only;rw[h2];exact h4)
theorem Ku(P:Nat->aO->Prop)(R:Nat->D->Prop):∀{ds} {ρ} {n},P n ρ->(∀j ρ d,ds[j]? = some d->P (n+j) ρ->∃aQ,g d t ρ=some aQ/\((∃aY,(f aQ=some (.nx aY)\/f aQ=some (.ct aY))/\P (n+j+1) aY)\/∃r,f aQ=some (.rt r)/\R (n+j) r))->
  (∃ρ',cz g t f ds ρ=some (.nx ρ')/\P (n+ds.length) ρ')\/∃j r,cz g t f ds ρ=some (.rt r)/\R (n+j) r/\j<ds.length
 |[],ρ,n,h,_=>.inl ⟨ρ,rfl,h⟩
 |d::ds,ρ,n,h,hs=>by
  obtain⟨aQ,h1,⟨aY,h2,h3⟩|⟨r,h2,h3⟩⟩:=hs 0 ρ d rfl h
  .have e:cz g t f (d::ds) ρ=cz g t f ds aY:=by
    rw[cz,h1];rcases h2 with h2|h2<;>(dsimp only;rw[h2])
   rw[e];rcases Ku P R h3 (λj ρ d hd hp=>by
    have:=hs (j+1) ρ d hd (by rw[show n+(j+1)=n+1+j by omega];exact hp);rw[show n+(j+1)+1=n+1+j+1 by omega,show n+(j+1)=n+1+j by omega] at this;exact this) with⟨ρ',h4,h5⟩|⟨j,r,h4,h5,h6⟩
   .exact .inl ⟨ρ',h4,by rw[acj,show n+(ds.length+1)=n+1+ds.length by omega];exact h5⟩
   .exact .inr ⟨j+1,r,h4,by rw[show n+(j+1)=n+1+j by omega];exact h5,by rw[acj];omega⟩
  .refine .inr ⟨0,r,?_,h3,by rw[acj];omega⟩;rw[cz,h1];dsimp only;rw[h2]
theorem tN(hi:it ρ=some (ds,t))(h:cz g (k_ t) f ds (pK (m6 (mh t) ρ) ρ)=some (.nx ρ')):iR it g f ρ=some (.nx (tG (m6 (mh t) ρ) ρ')):=by unfold iR;rw[hi];dsimp only;rw[h]
theorem CA(hi:it ρ=some (ds,t))(h:cz g (k_ t) f ds (pK (m6 (mh t) ρ) ρ)=some (.rt r)):iR it g f ρ=some (.rt r):=by unfold iR;rw[hi];dsimp only;rw[h]
theorem uI(hi:it ρ=some (ds,.own))(h:cz g (.sh []) f ds ρ=some (.nx ρ')):iR it g f ρ=some (.nx ρ'):=tN hi h
theorem A0(hi:it ρ=some (ds,.own))(h:cz g (.sh []) f ds ρ=some (.rt r)):iR it g f ρ=some (.rt r):=CA hi h
theorem S9(h:e ρ=some (.int n,t))(hs:small n=true):wg e ρ=some ((List.range n.toNat).map λi:Nat=>D.int (0+(i:Int)),.own):=by unfold wg;rw[h];dsimp only;rw[if_pos hs]
theorem fZ(h:e ρ=some (.lst ds,t)):d7 e ρ=some (ds,t):=by unfold d7;rw[h]
theorem abC(h:e ρ=some (.tup ds,t)):d7 e ρ=some (ds,t):=by unfold d7;rw[h]
theorem ji(hi:it ρ=some (ds,t))(hl:ds.length<sizeLine)(h:∀d∈ds,jv g tt te (ja js ρ) d=some (k d)):
  gR js it g tt te ρ=some (.lst (ds.filterMap k),.own):=by unfold gR;rw[hi];dsimp only;rw[if_pos hl,Sg h];rfl
theorem wC(h1:g d (.sh []) ρ=some aQ)(h2:tt aQ=some false):jv g tt te ρ d=some none:=by unfold jv;rw[h1];dsimp only;rw[h2]
theorem mX(h1:g d (.sh []) ρ=some aQ)(h2:tt aQ=some true)(h3:te aQ=some (e,.own)):jv g tt te ρ d=some (some e):=by unfold jv;rw[h1];dsimp only;rw[h2];dsimp only;rw[h3];rfl
theorem ur(h1:g d (.sh []) ρ=some aQ)(h2:tt aQ=some true)(h3:te aQ=some (e,tg))(hi:aB e=true):jv g tt te ρ d=some (some e):=by
 unfold jv;rw[h1];dsimp only;rw[h2];dsimp only;rw[h3];dsimp only
 by_cases ho:jV tg=true
 .rw[if_pos ho]
 .rw[if_neg ho,if_pos hi]
noncomputable def kI(p:Int×Int):Key×D:=(Sum.inl p.1,.int p.2)
def aZ(es:List (Int×Int)):D:=.bf (es.map kI)
noncomputable def bN(es:List (Int×Int))(k:Int):Option Int:=(es.find? λp=>decide (p.1=k)).map (·.2)
noncomputable def gQ(es:List (Int×Int))(k v:Int):List (Int×Int):=if(es.any λp=>decide (p.1=k))=true then es.map (λp=>if p.1=k then(p.1,v) else p) else es++[(k,v)]
theorem uy:((Sum.inl a:Key)=Sum.inl k)↔a=k:=⟨λh=>agx h,λh=>by rw[h]⟩
theorem P6(es:List (Int×Int))(k:Int):aS (es.map kI) (Sum.inl k:Key)=(bN es k).map D.int:=by
 unfold aS bN
 induction es with
 |nil=>rfl
 |cons p r ih=>
  rw[aao,adA,adA]
  by_cases h:p.1=k
  .rw[aaq (show(kI p).1=Sum.inl k from uy.mpr h),aaq h];rfl
  .rw[ab8 (show ¬(kI p).1=Sum.inl k from λe=>h (uy.mp e)),ab8 h];exact ih
theorem Qp(es:List (Int×Int))(k v:Int):putD (es.map kI) (Sum.inl k:Key) (.int v)=(gQ es k v).map kI:=by
 unfold putD gQ;have e:((es.map kI).any λkv=>decide (kv.1=(Sum.inl k:Key)))=es.any λp=>decide (p.1=k):=by
  rw[agw]
  congr 1
  funext p
  exact agD.mpr uy
 rw[e]
 by_cases h:(es.any λp=>decide (p.1=k))=true
 .rw[if_pos h,if_pos h,ade,ade]
  congr 1
  funext p
  show(if(kI p).1=Sum.inl k then((kI p).1,D.int v) else kI p)=kI (if p.1=k then(p.1,v) else p)
  by_cases hp:p.1=k
  .rw[if_pos hp,if_pos (show(kI p).1=Sum.inl k from uy.mpr hp)];rfl
  .rw[if_neg hp,if_neg (show ¬(kI p).1=Sum.inl k from λe=>hp (uy.mp e))]
 .rw[if_neg h,if_neg h,adp];rfl
theorem Iw:lI (aZ es) (.int k) (.int z)=some (.int ((bN es k).getD z)):=by
 show(match aS (es.map kI) (Sum.inl k:Key) with|some d=>if aB d=true then some d else none|none=>if aB (.int z)=true then some (.int z) else none)=_;rw[P6];cases bN es k<;>rfl
theorem JR(h:bN es k=some v):jL (aZ es) (.int k)=some (.int v):=by
 show((aS (es.map kI) (Sum.inl k:Key)).bind λd=>if aB d=true then some d else none)=_;rw[P6,h];rfl
theorem L6:∀es:List (Int×Int),ig (es.map kI)=some (es.map (·.1))
 |[]=>rfl
 |p::r=>by rw[aao];show(ig (r.map kI)).map (p.1::·)=_;rw[L6 r];rfl
theorem RW(h:es.length<64):i7 (aZ es)=some (.lst ((b7 (es.map (·.1))).map D.int)):=by
 show(match ig (es.map kI) with|some ns=>if ns.length<64 then some (D.lst ((b7 ns).map D.int)) else none|none=>none)=_;rw[L6];dsimp only;rw[if_pos (by rw[List.length_map];exact h)]
theorem Lh:∀es:List (Int×Int),aL ((es.map kI).map (·.2))=true
 |[]=>rfl
 |p::r=>by rw[aao,aao];unfold aL;rw[Lh r];rfl
theorem Bp(h1:fv ρ=some (.int v,t1))(h2:ρ[i]? = some (some (aZ es,.own)))(h3:fk ρ=some (.int k,t2))(hl:es.length<sizeLine):
  m7 i fk fv ρ=some (.nx (bQ ρ i (aZ (gQ es k v)))):=by
 unfold m7;rw[h1,h2,h3];unfold aZ;dsimp only[iu];rw[if_pos (by rw[Lh,List.length_map,aaq hl];rfl),Qp]
theorem Bj(es:List (Int×Int))(k v j:Int):bN (gQ es k v) j=if j=k then some v else bN es j:=by
 unfold gQ
 by_cases h:(es.any λp=>decide (p.1=k))=true
 .rw[if_pos h];unfold bN
  induction es with
  |nil=>cases h
  |cons p r ih=>
   rw[aao,adA,adA]
   by_cases hp:p.1=k
   .rw[if_pos hp];dsimp only
    by_cases hj:j=k
    .rw[aaq (hp.trans hj.symm),if_pos hj];rfl
    .have nZ:¬p.1=j:=λe=>hj (e.symm.trans hp)
     rw[ab8 nZ,if_neg hj];dsimp only
     by_cases hr:(r.any λp=>decide (p.1=k))=true
     .rw[ih hr,if_neg hj]
     .congr 1
      have:r.map (λp=>if p.1=k then(p.1,v) else p)=r:=by
       conv=>rhs;rw[<- List.map_id r]
       refine afX λq m=>?_
       rw[if_neg λe=>hr (adY.mpr ⟨q,m,aaq e⟩)];rfl
      rw[this]
   .rw[if_neg hp];have hr:(r.any λp=>decide (p.1=k))=true:=by
     rw[afV,ab8 hp] at h;exact h
    by_cases hj:p.1=j
    .rw[aaq hj,if_neg λe=>hp (hj.trans e)]
    .rw[ab8 hj];exact ih hr
 .rw[if_neg h];unfold bN;rw[ag6]
  by_cases hj:j=k
  .have:(es.find? λp=>decide (p.1=j))=none:=af3.mpr λq m hq=>h (adY.mpr ⟨q,m,by rw[<- hj];exact hq⟩)
   rw[this,if_pos hj,hj];simp
  .rw[if_neg hj];have:([(k,v)].find? λp=>decide (p.1=j))=none:=af3.mpr λq m hq=>hj (by cases aaU.mp m;exact(aaC hq).symm)
   rw[this,Option.or_none]
theorem Rf(es:List (Int×Int))(k v:Int):(gQ es k v).map (·.1)=if k∈es.map (·.1) then es.map (·.1) else es.map (·.1)++[k]:=by
 unfold gQ
 by_cases h:(es.any λp=>decide (p.1=k))=true
 .have hm:k∈es.map (·.1):=by
   obtain⟨p,m,hp⟩:=adY.mp h;exact abY.mpr ⟨p,m,aaC hp⟩
  rw[if_pos h,if_pos hm,ade];refine afX λp m=>?_
  show(if p.1=k then(p.1,v) else p).1=p.1
  split<;>rfl
 .have hm:k∉es.map (·.1):=λm=>by
   obtain⟨p,m,hp⟩:=abY.mp m;exact h (adY.mpr ⟨p,m,aaq hp⟩)
  rw[if_neg h,if_neg hm,adp];rfl
theorem OR(h:(es.map (·.1)).Nodup):((gQ es k v).map (·.1)).Nodup:=by
 rw[Rf]
 by_cases hm:k∈es.map (·.1)
 .rw[if_pos hm];exact h
 .rw[if_neg hm];exact acR.mpr ⟨h,ab4.mpr ⟨(λm=>by cases m),acW⟩,λa ha b hb e=>hm (by cases aaU.mp hb;exact e ▸ ha)⟩
theorem aaa:(gQ es k v).length<=es.length+1:=by
 have:=congrArg List.length (Rf es k v);rw[List.length_map] at this;rw[this]
 split
 .rw[List.length_map];lia
 .rw[abD,List.length_map];exact abL _
theorem qG:(∃v,bN es k=some v)↔k∈es.map (·.1):=by
 unfold bN;constructor
 .rintro⟨v,h⟩
  cases e:es.find? λp=>decide (p.1=k) with
  |none=>rw[e] at h;cases h
  |some p=>exact abY.mpr ⟨p,afU e,aaC (agK e :)⟩
 .intro h;obtain⟨p,m,hp⟩:=abY.mp h;cases e:es.find? λp=>decide (p.1=k) with
  |none=>exact absurd (aaq hp) (af3.mp e p m)
  |some q=>exact⟨q.2,rfl⟩
def jO(ps:List (Int×Int)):List (Int×Int):=ps.foldl (λm p=>gQ m p.1 p.2) []
theorem foldI:∀(ps m:List (Int×Int)),(ps.map kI).foldl (λm p=>putD m p.1 p.2) (m.map kI)=(ps.foldl (λm p=>gQ m p.1 p.2) m).map kI
 |[],_=>rfl
 |p::r,m=>by rw[aao,afa,afa];show(r.map kI).foldl _ (putD (m.map kI) (Sum.inl p.1) (.int p.2))=_;rw[Qp];exact foldI r _
noncomputable def dP(p:Int×Int):D:=.tup [.int p.1,.int p.2]
theorem RK:∀ps:List (Int×Int),iU (ps.map dP)=some (ps.map kI)
 |[]=>rfl
 |p::r=>by
  rw[aao];show(match iu (.int p.1),iU (r.map dP) with|some k,some ps=>if aB (.int p.2)=true then some ((k,D.int p.2)::ps) else none|_,_=>none)=_;rw[RK r];rfl
theorem Pk:xq (.lst (ps.map dP))=some (aZ (jO ps)):=by
 show(iU (ps.map dP)).map _=_;rw[RK];show some (D.bf ((ps.map kI).foldl (λm p=>putD m p.1 p.2) []))=_;rw[show([]:List (Key×D))=([]:List (Int×Int)).map kI from rfl,foldI];rfl
theorem Q2(hn:(ps.map (·.1)).Nodup)(k:Int):bN (jO ps) k=bN ps k:=by
 have go:∀(ps m),(ps.map (·.1)).Nodup->bN (ps.foldl (λm p=>gQ m p.1 p.2) m) k=(bN ps k).or (bN m k):=by
  intro ps
  induction ps with
  |nil=>intro m _;rfl
  |cons p r ih=>
   intro m h;rw[aao] at h;obtain⟨h1,h2⟩:=ab4.mp h;rw[afa,ih _ h2,Bj]
   by_cases hk:k=p.1
   .have hr:bN r k=none:=by
     cases e:bN r k with
     |none=>rfl
     |some v=>exact absurd (qG.mp ⟨v,e⟩) (hk ▸ h1)
    rw[hr,if_pos hk];unfold bN;rw[adA,aaq hk.symm];rfl
   .rw[if_neg hk];have:bN (p::r) k=bN r k:=by unfold bN;rw[adA,ab8 λe=>hk e.symm]
    rw[this]
 unfold jO;rw[go ps [] hn];cases bN ps k<;>rfl
open PySem PySem.Spec PyProof.Rows
def jA(fa fb:EF):EF:=λρ=>match fa ρ,fb ρ with
 |some (.lst ds,.sh o),some (.int i,_)=>(cB ds i).map λd=>(d,.sh o)
 |_,_=>none
theorem V8{fa fb:EF}{ρ:aO}{d:D}{tg:Tag}(e:jA fa fb ρ=some (d,tg)):∃ds o i t2,fa ρ=some (.lst ds,.sh o)/\fb ρ=some (.int i,t2)/\cB ds i=some d/\tg=.sh o:=by
 unfold jA at e
 split at e
 .rename_i ds o i t2 h1 h2;cases h3:cB ds i with
  |none=>rw[h3] at e;cases e
  |some d3=>
   rw[h3] at e;cases e;exact⟨ds,o,i,t2,h1,h2,h3,rfl⟩
 .cases e
theorem tW{X:Cx}{a b:Expr}{fa fb:EF}{pos:Pos}(ha:FP X a fa)(hb:FP X b fb)(hs:Bc b:=by exact λ_ _=>rfl):FP X (.Subscript a b pos) (jA fa fb):=by
 exists 46;exists 20,Ds F1 pa pb hs;obtain⟨ds,o,i,t2,e1,h_,e3,rfl⟩:=V8 e;refine sa ok e1 λH1 x f1 s1 r1 g1=>?_
 exists 47
 have r1:=r1.same s2;obtain⟨p,xs,f,rfl,hq,rs,hf⟩:=r1.dD;cases r2;unfold cB at e3;cases h:kM ds.length i with
 |none=>rw[h] at e3;cases e3
 |some j=>
  rw[h,ac0] at e3;obtain⟨v,f',hv,rv,hm⟩:=rs.get e3;refine .inl ⟨p,xs,i,v,rfl,rfl,hq,?_,q H2 v f' (s1.trans s2) rv λa m=>g1 a ?_⟩
  .unfold cB;rw[<- rs.length,h,ac0];exact hv
  .exact hf a (hm a m)
mutual
noncomputable def py:D->PyData
 |.bl b=>.bool b
 |.int i=>.int i
 |.str x=>.str x
 |.tup ds=>.tuple (d9 ds)
 |.lst ds=>.list (d9 ds)
 |.gP ds=>.list (d9 ds)
 |_=>.none
noncomputable def d9:List D->List PyData
 |[]=>[]
 |d::ds=>py d::d9 ds
end
mutual
noncomputable def fV:D->Bool
 |.az|.bl _|.int _|.str _=>true
 |.tup ds|.lst ds|.gP ds=>mJ ds
 |_=>false
noncomputable def mJ:List D->Bool
 |[]=>true
 |d::ds=>fV d&&mJ ds
end
mutual
theorem nM(I:Inv X ah σ H s):∀{d} {v} {f} {u},Rep X.K H d v f->RelV v u->fV d=true->∃as,Reads s.heap u (py d) as
 |.az,_,_,_,r,q,_=>by cases r;cases q;exact⟨_,by unfold py;exact .none⟩
 |.bl b,_,_,_,r,q,_=>by cases r;cases q;exact⟨_,by unfold py;exact .bool b⟩
 |.int i,_,_,_,r,q,_=>by cases r;obtain⟨t,rfl⟩:=q;exact⟨_,by unfold py;exact .int i t⟩
 |.str x,_,_,_,r,q,_=>by cases r;obtain⟨t,rfl⟩:=q;exact⟨_,by unfold py;exact .str x t⟩
 |.tup ds,_,_,_,r,q,e=>by
  obtain⟨a,xs,rfl,hq,rs⟩:=r.ic;cases q;obtain⟨us,v1,⟨o,h1,h2,n,h3⟩,_⟩:=I.tuple hq;obtain⟨as,ra⟩:=B_ I rs v1 (by unfold fV at e;exact e);exact⟨_,by unfold py;exact .tuple h1 h2 h3 (by simpa using ra)⟩
 |.lst ds,_,_,_,r,q,e=>by
  exists 67;cases q;obtain⟨us,v1,⟨o,n,h1,h2,_,h3⟩,_⟩:=I.list hq;obtain⟨as,ra⟩:=B_ I rs v1 (by unfold fV at e;exact e);exact⟨_,by unfold py;exact .list h1 h2 h3 (by simpa using ra)⟩
 |.gP ds,_,_,_,r,q,e=>by
  obtain⟨a,xs,rfl,hq,rs⟩:=r.sG;cases q;obtain⟨us,v1,⟨o,n,h1,h2,_,h3⟩,_⟩:=I.list hq;obtain⟨as,ra⟩:=B_ I rs v1 (by unfold fV at e;exact e);exact⟨_,by unfold py;exact .list h1 h2 h3 (by simpa using ra)⟩
 |.bf _,_,_,_,_,_,e=>by unfold fV at e;cases e
 |.cj _,_,_,_,_,_,e=>by unfold fV at e;cases e
 |.ins _ _,_,_,_,_,_,e=>by unfold fV at e;cases e
 |.exc _,_,_,_,_,_,e=>by unfold fV at e;cases e
theorem B_(I:Inv X ah σ H s):∀{ds} {xs} {f} {us},aC X.K H ds xs f->aU xs us->mJ ds=true->∃as,ReadsAll s.heap us (d9 ds) as
 |[],_,_,_,r,q,_=>by cases r;cases q;exact⟨_,by unfold d9;exact .nil⟩
 |d::ds,_,_,_,r,q,e=>by
  cases r with
  |cons r1 r2=>
   cases q with
   |cons q1 q2=>
    unfold mJ at e;obtain⟨e1,e2⟩:=(aaV _ _).mp e;obtain⟨as,h1⟩:=nM I r1 q1 e1;obtain⟨bs,h2⟩:=B_ I r2 q2 e2;exact⟨_,by unfold d9;exact .cons h1 h2⟩
end
mutual
theorem noDict:∀d:D,(py d).hasDict=false
 |.az=>by unfold py;exists 63
 |.bl _=>by unfold py;exists 63
 |.int _=>by unfold py;exists 63
 |.str _=>by unfold py;exists 63
 |.tup ds=>by unfold py;exists 63;exact noDicts ds
 |.lst ds=>by unfold py;exists 63;exact noDicts ds
 |.gP ds=>by unfold py;exists 63;exact noDicts ds
 |.bf _=>by unfold py;exists 63
 |.cj _=>by unfold py;exists 63
 |.ins _ _=>by unfold py;exists 63
 |.exc _=>by unfold py;exists 63
theorem noDicts:∀ds:List D,PyData.hasDictAll (d9 ds)=false
 |[]=>by unfold d9;simp only[PyData.hasDictAll]
 |d::ds=>by unfold d9;simp only[PyData.hasDictAll,noDict d,noDicts ds,Bool.or_self]
end
def vC(d:D):Bool:=fV d&&(py d).showable&&decide ((py d).depth<=40)&&decide ((py d).shown.length<=sizeLine)
def mU(d:D):Option D:=if vC d=true then(if decide (dep d≠0)=true then some (.str (py d).shown) else none) else none
def Kq(K:PySem.W.Frag):List V->Hp->VK->Prop:=λxs H Q=>∃a d f,xs=[V.ref a]/\Rep K H d (.ref a) f/\vC d=true/\Q (.str (py d).shown) H
theorem X0{k:Nat}(hr:bH k X.A):g_ X (.builtin "repr") (Kq X.K):=by
 exists 43;obtain⟨a,d,f,rfl,rd,hs,q⟩:=h;obtain⟨u,rfl,ru⟩:=vals1 r;unfold vC at hs;obtain⟨hs,h4⟩:=(aaV _ _).mp hs;obtain⟨hs,h3⟩:=(aaV _ _).mp hs;obtain⟨h1,h2⟩:=(aaV _ _).mp hs;obtain⟨as,rr⟩:=nM I rd ru h1;cases ru;have hu:=hr.un;have h3:=aaC h3;exact repr_of_reads' rr h2 (PyData.noDict_hsm (noDict d)) hr.gd (by omega) (λb o e=>e) (λh' t tk hk=>⟨.str (py d).shown,H,I.kept hk,⟨t,rfl⟩,q⟩) (aaC h4)
theorem Z8{K:PySem.W.Frag}:qp K (Kq K) mU:=by
 intro H x d1 f1 d Q r e k;unfold mU at e
 by_cases h1:vC d1=true
 .rw[if_pos h1] at e
  by_cases h2:decide (dep d1≠0)=true
  .rw[if_pos h2] at e;cases e;have hr:∃p,x=.ref p:=by
    cases r<;>first|exact⟨_,rfl⟩|(exact absurd rfl (aaC h2))
   obtain⟨p,rfl⟩:=hr;exact⟨p,d1,f1,rfl,r,h1,k H _ [] (aJ.refl H) (.str _) acW λa m=>nomatch m⟩
  .rw[if_neg h2] at e;cases e
 .rw[if_neg h1] at e;cases e
theorem jq{k:Nat}{a:Expr}{fa:EF}{p pos:Pos}(hr:bH k X.A)(hm:X.mg "repr"=none)(ha:FP X a fa)(hg:Gl X "repr":=by rfl)(hs:Y2 X a:=by rfl):FP X (.Call (.Name "repr" p) [a] [] pos) (e1 mU fa):=
 fp_1 Z8 ha λta pa=>sI (X0 hr) hg hm boot_repr (d8 pa fY hs) (he:=hs)
theorem abz{d:D}(h:vC d=true)(hd:dep d≠0):mU d=some (.str (py d).shown):=by unfold mU;rw[if_pos h,if_pos (aaq hd)]
def wM(i:Int):Prop:=i.natAbs<10 ^ 12
noncomputable def v7(r:List Int):D:=.tup (r.map D.int)
def dQ(rs:List (List Int)):List D:=rs.map v7
theorem za:∀r:List Int,d9 (r.map D.int)=r.map PyData.int
 |[]=>rfl
 |i::r=>by rw[aao,aao];unfold d9;rw[za r];unfold py;rfl
theorem Ao:∀r:List Int,mJ (r.map D.int)=true
 |[]=>rfl
 |i::r=>by rw[aao];unfold mJ;rw[Ao r];rfl
theorem log2_small{n:Nat}(h:n<10 ^ 12):n.log2<1920:=by
 by_cases hz:n=0
 .subst hz;decide
 .rw[Nat.log2_lt hz];exact ac3 h (adk (show 10 ^ 12<=2 ^ 40 by decide) (Nat.pow_le_pow_right (by decide) (by decide)))
theorem Oz:∀r:List Int,(∀i∈r,wM i)->PyData.showableAll (r.map PyData.int)=true
 |[],_=>rfl
 |i::r,h=>by
  rw[aao];simp only[PyData.showableAll,PyData.showable,aaV,agM];exact⟨log2_small (h i aad),Oz r λj m=>h j (aab _ m)⟩
theorem KD:∀r:List Int,(∀i∈r,wM i)->PyData.weightAll (r.map PyData.int)<=50*r.length
 |[],_=>by simp[PyData.weightAll]
 |i::r,h=>by
  rw[aao,acj];have h1:i.natAbs<10 ^ 12:=h i aad;have h2:=KD r λj m=>h j (aab _ m)
  have h3:(PyData.int i).weight<=41:=by
   simp only[PyData.weight]
   split
   .omega
   .rename_i hz;have sR:i.natAbs≠0:=by
     intro q
     apply hz
     rw[Int.natAbs_eq_zero.mp q];rfl
    have:i.natAbs.log2<40:=by
     rw[Nat.log2_lt sR];exact ac3 h1 (by decide)
    omega
  simp only[PyData.weightAll];omega
theorem Rb:∀r:List Int,(∀i∈r,wM i)->PyData.leavesShortAll 13 (r.map PyData.int)=true
 |[],_=>rfl
 |i::r,h=>by
  rw[aao];simp only[PyData.leavesShortAll,PyData.leavesShort,aaV,agM];exact⟨PyData.shown_int_le (h i aad),Rb r λj m=>h j (aab _ m)⟩
theorem depthAll_ints:∀r:List Int,PyData.depthAll (r.map PyData.int)=0
 |[]=>rfl
 |i::r=>by rw[aao];simp only[PyData.depthAll,PyData.depth,depthAll_ints r];rfl
noncomputable def j_(r:List Int):PyData:=.tuple (r.map PyData.int)
theorem abw(r:List Int):py (v7 r)=j_ r:=by unfold v7 j_;unfold py;rw[za]
theorem D3:∀rs:List (List Int),d9 (dQ rs)=rs.map j_
 |[]=>rfl
 |r::rs=>by
  show d9 (v7 r::dQ rs)=j_ r::rs.map j_;unfold d9;rw[abw,D3 rs]
theorem O_:∀rs:List (List Int),mJ (dQ rs)=true
 |[]=>rfl
 |r::rs=>by
  show mJ (v7 r::dQ rs)=true;unfold mJ;rw[O_ rs,Bool.and_true];unfold v7 fV;exact Ao r
def dW(d:D):Bool:=fV d&&(py d).canLay0&&decide ((py d).depth<=40)
def wN(d1 d2:D):Option D:=if(dW d1&&dW d2)=true then some (.bl (PyData.eqv (py d1) (py d2))) else none
def lB(d1 d2:D):Option D:=if(dW d1&&dW d2)=true then some (.bl (!PyData.eqv (py d1) (py d2))) else none
def Ar(K:PySem.W.Frag)(neg:Bool):R2:=λx y H Q=>∃d1 d2 f1 f2,Rep K H d1 x f1/\Rep K H d2 y f2/\dW d1=true/\dW d2=true/\Q (.bl (if neg=true then !PyData.eqv (py d1) (py d2) else PyData.eqv (py d1) (py d2))) H
theorem lay_of(h:dW d=true):fV d=true/\(py d).canLay0=true/\(py d).depth<=40:=by
 unfold dW at h;obtain⟨h,h3⟩:=(aaV _ _).mp h;obtain⟨h1,h2⟩:=(aaV _ _).mp h;exact⟨h1,h2,aaC h3⟩
theorem OV(hu:X.A.units+64<cLine):di X (compareOp .NotEq) (Ar X.K true):=by
 exists 42;obtain⟨d1,d2,f1,f2,r1,r2,l1,l2,q⟩:=h;obtain⟨a1,a2,a3⟩:=lay_of l1;obtain⟨b1,b2,b3⟩:=lay_of l2;obtain⟨as,ra⟩:=nM I r1 rx a1;obtain⟨bs,rb⟩:=nM I r2 ry b1;exact SeqAt.compareNe_reads ra rb a2 b2 (by omega) ⟨.bl _,H,I,rfl,q⟩
theorem aaD(hu:X.A.units+64<cLine):di X (compareOp .Eq) (Ar X.K false):=by
 exists 42;obtain⟨d1,d2,f1,f2,r1,r2,l1,l2,q⟩:=h;obtain⟨a1,a2,a3⟩:=lay_of l1;obtain⟨b1,b2,b3⟩:=lay_of l2;obtain⟨as,ra⟩:=nM I r1 rx a1;obtain⟨bs,rb⟩:=nM I r2 ry b1;exact SeqAt.compareEq_reads ra rb a2 b2 (by omega) ⟨.bl _,H,I,rfl,q⟩
theorem Qm{K:PySem.W.Frag}:gq K (Ar K true) lB:=by
 exists 41;unfold lB at e
 by_cases hc:(dW d1&&dW d2)=true
 .rw[if_pos hc] at e;cases e;obtain⟨c1,c2⟩:=(aaV _ _).mp hc;exact⟨d1,d2,f1,f2,r1,r2,c1,c2,k H _ (aJ.refl H) (.bl _)⟩
 .rw[if_neg hc] at e;cases e
theorem UN{K:PySem.W.Frag}:gq K (Ar K false) wN:=by
 exists 41;unfold wN at e;obtain⟨hc,e⟩:=ci e;cases e;obtain⟨c1,c2⟩:=(aaV _ _).mp hc;exact⟨d1,d2,f1,f2,r1,r2,c1,c2,k H _ (aJ.refl H) (.bl _)⟩
theorem xQ(hu:X.A.units+64<cLine)(ha:FP X a fa)(hb:FP X b fb):FT X (.Compare a [.NotEq] [b] pos) (tV (e2 lB fa fb)):=j6 (OV hu) Qm ha hb (je _)
theorem T8(hu:X.A.units+64<cLine)(ha:FP X a fa)(hb:FP X b fb):FP X (.Compare a [.NotEq] [b] pos) (e2 lB fa fb):=nI (OV hu) Qm ha hb (je _)
theorem abf(hu:X.A.units+64<cLine)(ha:FP X a fa)(hb:FP X b fb):FP X (.Compare a [.Eq] [b] pos) (e2 wN fa fb):=nI (aaD hu) UN ha hb (je _)
theorem AI:∀r:List Int,PyData.canLayAll0 (r.map PyData.int)=true
 |[]=>rfl
 |i::r=>by rw[aao];simp only[PyData.canLayAll0,PyData.canLay0,AI r,agf]
theorem Sd:∀rs:List (List Int),PyData.canLayAll0 (rs.map j_)=true/\PyData.depthAll (rs.map j_)<=1
 |[]=>⟨rfl,by simp[PyData.depthAll]⟩
 |r::rs=>by
  obtain⟨h1,h2⟩:=Sd rs;rw[aao];refine⟨by simp only[PyData.canLayAll0,j_,PyData.canLay0,h1,Bool.and_true];exact AI r,?_⟩;simp only[PyData.depthAll,j_,PyData.depth,depthAll_ints r];omega
theorem Wd(rs:List (List Int)):dW (.lst (dQ rs))=true:=by
 obtain⟨h1,h2⟩:=Sd rs;have e:py (.lst (dQ rs))=.list (rs.map j_):=by unfold py;rw[D3]
 unfold dW;rw[e];have a1:fV (.lst (dQ rs))=true:=by unfold fV;exact O_ rs
 have a2:(PyData.list (rs.map j_)).canLay0=true:=by simp only[PyData.canLay0];exact h1
 have a3:(PyData.list (rs.map j_)).depth<=40:=by simp only[PyData.depth];omega
 rw[a1,a2,aaq a3];rfl
end L2.Ev
namespace L2.Ev
open PySem PySem.Spec PyProof.Rows
theorem Z0:yT "tuple":=by
 intro K t m;simp only[aaA,adB,agr] at m;rcases m with rfl|rfl|rfl|rfl|rfl|rfl<;>rfl
noncomputable def o9(t:TF)(fa fb:EF):EF:=λρ=>match t ρ with
 |some true=>fa ρ
 |some false=>fb ρ
 |none=>none
theorem LD(hc:FT X c tc)(ha:FP X a fa)(hb:FP X b fb):FP X (.IfExp c a b pos) (o9 tc fa fb):=by
 obtain⟨t,p,q⟩:=hc;obtain⟨t1,p1,q1⟩:=ha;obtain⟨t2,p2,q2⟩:=hb;exists 21,afj p p1 p2;unfold o9 at e;cases h:tc ρ with
 |none=>rw[h] at e;cases e
 |some y=>
  rw[h] at e;refine q ok h λH1 s1=>?_
  cases y with
  |true=>rw[if_pos rfl];exact q1 (ok.same s1) e λH2 v fp s2 r2 g2=>k H2 v fp (s1.trans s2) r2 (g2.back s1)
  |false=>rw[if_neg abk];exact q2 (ok.same s1) e λH2 v fp s2 r2 g2=>k H2 v fp (s1.trans s2) r2 (g2.back s1)
theorem NI(h:tc ρ=some true):o9 tc fa fb ρ=fa ρ:=by unfold o9;rw[h]
theorem LU(h:tc ρ=some false):o9 tc fa fb ρ=fb ρ:=by unfold o9;rw[h]
noncomputable def Hs(_ j:Int):Bool:=decide (0<j)&&decide (j<1073741824)
def oDiv:=yf Hs λi j=>i / j
theorem acB(ha:FP X a fa)(hb:FP X b fb):FP X (.BinOp a .FloorDiv b pos) (e2 oDiv fa fb):=wU adD (Gw λi j h=>by
 obtain⟨h1,h2⟩:=(aaV _ _).mp h;exact⟨aaC h1,aaC h2⟩) ha hb
theorem acI(h:0<n)(h2:n<1073741824):oDiv (.int m) (.int n)=some (.int (m / n)):=by
 show(if Hs m n=true then some (D.int (m / n)) else none)=_;rw[if_pos (by unfold Hs;rw[aaq h,aaq h2];rfl)]
def jo(neg:Bool):D->D->Option D
 |.int i,.lst ds=>(eN ds).map λns=>.bl (if neg=true then !(ns.any (· == i)) else ns.any (· == i))
 |_,_=>none
theorem Uq(i:Int)(ns:List Int):vf (.int i) (ns.map V.int)=ns.any (· == i):=by
 unfold vf;rw[agw];rfl
theorem aaT(ns:List Int):(ns.map V.int).all oj=true:=by
 rw[agY];exact adt.mpr λ_ _=>rfl
theorem Jv{K:PySem.W.Frag}:gq K (BO K neg) (jo neg):=by
 exists 41;cases d1 with
 |int i=>
  cases d2 with
  |lst ds=>
   have e:((eN ds).map λns=>D.bl (if neg=true then !(ns.any (· == i)) else ns.any (· == i)))=some d:=e;exists h,eN ds,ns,e;cases e;obtain⟨p,xs,f,rfl,hq,rs,_⟩:=r2.dD;cases r1;have ex:=r6 rs h;subst ex;refine⟨p,_,rfl,.inl hq,rfl,aaT ns,?_⟩;rw[Uq];exists 49
  |_=>cases e
 |_=>cases e
theorem Kh(ha:FP X a fa)(hb:FP X b fb)(hm:behindInMarks .In b=false:=by rfl):FT X (.Compare a [.In] [b] pos) (tV (e2 (jo false) fa fb)):=j6 I_ Jv ha hb hm
theorem Ff(ha:FP X a fa)(hb:FP X b fb)(hm:behindInMarks .NotIn b=false:=by rfl):FT X (.Compare a [.NotIn] [b] pos) (tV (e2 (jo true) fa fb)):=j6 Fg Jv ha hb hm
theorem L1(ha:FP X a fa)(hb:FP X b fb)(hm:behindInMarks .NotIn b=false:=by rfl):FP X (.Compare a [.NotIn] [b] pos) (e2 (jo true) fa fb):=nI Fg Jv ha hb hm
theorem uA{ns:List Int}:jo neg (.int i) (.lst (ns.map D.int))=some (.bl (if neg=true then !(ns.any (· == i)) else ns.any (· == i))):=by
 show((eN (ns.map D.int)).map _)=_;rw[uv];rfl
def mR(i:Nat)(fv:EF):SF:=λρ=>match fv ρ,ρ[i]? with
 |some (d,_),some (some (.lst ds,.own))=>if(aB d&&aL ds&&decide (ds.length<sizeLine))=true then some (.nx (bQ ρ i (.lst (ds++[d])))) else none
 |_,_=>none
theorem DA(i:Nat)(hv:FP X a fv)(va:VA X i x:=by walk_at "va")(hs:Y2 X a:=by rfl)
  (iQ:attributeBase (.Name x p1) "append" X.env (eval (.Name x p1) X.env)=eval (.Name x p1) X.env:=by rfl)
  (iW:((backTo p3 (starEach [a] X.env)).all (λx=>!x.1)&&(backToKw p3 (keywordEach [] X.env)).all (λx=>x.1.isSome)&&decide ([a].length+([]:List Keyword).length+(if([]:List Keyword).isEmpty then 0 else 1)<30))=true:=by rfl)
  (iS:(p2.endLine==p3.line)=true:=by rfl) (iY:swapsWith (.Call (.Attribute (.Name x p1) "append" p2) [a] [] p3) none pos.line X.env=pure false:=by rfl) :
  fC X (.Expr (.Call (.Attribute (.Name x p1) "append" p2) [a] [] p3) pos) (mR i fv):=by
 obtain⟨tv,jF,sv⟩:=hv;exists 25,wX (vO PySem.F.plainAttrs_list PySem.F.slot_list_append PySem.F.type_list_append BB va.pe (d8 jF fY hs) iQ iW iS hs rfl) iY;unfold mR at e
 split at e
 .rename_i d td ds g1 g2;obtain⟨hc,e⟩:=ci e;cases e;obtain⟨c1,c3⟩:=(aaV _ _).mp hc;obtain⟨c1,c2⟩:=(aaV _ _).mp c1;obtain⟨xv,fp,bR,r,zz⟩:=ok.sl i _ _ g2;refine⟨xv,bR,?_⟩;obtain⟨l,xs,f,rfl,hq,_,_⟩:=r.dD;exists 70;refine sv ok g1 λH1 v um s1 rv _=>?_
  have r':=r.same s1;have b_:=ok.same s1;generalize hw:(V.ref l)=w at r' bR;cases r' with
  | @lst a' ys _ f' h rs=>
   cases hw;have hn:=rs.aB c2;subst hn;have yS:=rv.aB c1;subst yS;refine⟨_,ys,v,rfl,rfl,h,by rw[<- rs.length];exact aaC c3,?_⟩;have im:aV H1 (upd H1 l (.lst (ys++[v]))):=aV.upd h rfl;refine q z σ _ (Ok.B5 b_ g2 bR zz aad h rfl (.lst cD ?_)) (.refl _ _);exact aC.append (rs.frame (λa m=>nomatch m) im) (aC.cons (rv.frame (λa m=>nomatch m) im) .nil)
 .cases e
theorem E1(h1:fv ρ=some (.int n,t1))(h2:ρ[i]? = some (some (.lst (ns.map D.int),.own)))(hl:ns.length<sizeLine):
  mR i fv ρ=some (.nx (bQ ρ i (.lst ((ns++[n]).map D.int)))):=by
 unfold mR;rw[h1,h2];dsimp only;have Wj:∀ns:List Int,aL (ns.map D.int)=true:=λns=>by
  induction ns with
  |nil=>rfl
  |cons n r ih=>rw[aao];unfold aL;rw[ih];rfl
 rw[if_pos (by rw[Wj,List.length_map,aaq hl];rfl),adp];rfl
def cutD(ds:List D)(lo hi:Option Int):List D:=(ds.drop (HT.gW ds.length 0 lo)).take (HT.gW ds.length ds.length hi-HT.gW ds.length 0 lo)
def oO(lo hi:Option Int):D->Option D
 |.lst ds=>if aL ds=true then some (.lst (cutD ds lo hi)) else none
 |.gP ds=>if aL ds=true then some (.lst (cutD ds lo hi)) else none
 |_=>none
theorem aC.BP{K:PySem.W.Frag}:∀{ds} {xs} (n),aC K H ds xs []->aC K H (ds.drop n) (xs.drop n) []
 |ds,xs,0,r=>r
 |[],_,n+1,r=>by cases r;exact .nil
 |d::ds,xs,n+1,r=>by
  generalize hf:([]:List Addr)=fp at r;cases r with
  | @cons _ _ _ _ f1 f2 r1 r2=>
   obtain⟨z1,z2⟩:=agI.mp hf.symm;subst z1 z2;exact aC.BP n r2
theorem aC.Be{K:PySem.W.Frag}:∀{ds} {xs} (n),aC K H ds xs []->aC K H (ds.take n) (xs.take n) []
 |ds,xs,0,r=>.nil
 |[],_,n+1,r=>by cases r;exact .nil
 |d::ds,xs,n+1,r=>by
  generalize hf:([]:List Addr)=fp at r;cases r with
  | @cons _ _ _ _ f1 f2 r1 r2=>
   obtain⟨z1,z2⟩:=agI.mp hf.symm;subst z1 z2;exact aC.cons r1 (aC.Be n r2)
def Ce(X:Cx)(e:Option Expr)(v:Option Int):Prop:=∃t,PO X e t/\∀σ H Q,Q v H->t σ H Q
theorem Oi:Ce X none none:=⟨_,Ge,λ_ _ _ q=>q⟩
theorem Ms{j p}:Ce X (some (.Constant (.int i) j p)) (some i):=⟨_,DV M6,λ_ _ _ q=>⟨i,rfl,q⟩⟩
theorem K7{lo hi:Option Expr}(hl:Ce X lo l)(hh:Ce X hi h)(ha:FP X a fa):FP X (.Subscript a (.Slice lo hi none p2) pos) (e1 (oO l h) fa):=by
 exists 61;obtain⟨tl,pl,ql⟩:=hl;obtain⟨th,ph,qh⟩:=hh;exists 21,E8 Di p pl ph;obtain⟨d1,t1,g1,g2,rfl⟩:=v8 e;refine q ok g1 λH1 x f1 s1 r1 _=>?_
 refine ql σ H1 _ (qh σ H1 _ ?_);have fin:∀{ds} {xs} {f} {w},aC X.K H1 ds xs f->bX X.K H1 w xs->(if aL ds=true then some (D.lst (cutD ds l h)) else none)=some d->OY X.K (.ref w) l h H1 Q:=λ{ds xs f w} rs hq e=>by
  exists 73;cases e;have hn:=rs.aB hi;subst hn;refine⟨w,xs,rfl,hq,λp hp=>?_⟩;have s2:aJ H1 (upd H1 p (.lst (k9 xs l h))):=λb o e=>by rw[aP (cV e hp)];exact e
  have rr:aC X.K H1 (cutD ds l h) (k9 xs l h) []:=by
   unfold cutD k9;rw[rs.length];exact aC.Be _ (aC.BP _ rs)
  refine k _ _ [p] (s1.trans s2) (.lst cD (rr.same s2)) ⟨ab4.mpr ⟨(λm=>by cases m),acW⟩,λa m=>?_⟩;cases aaU.mp m;exact s1.free hp
 cases d1 with
 |lst ds=>
  obtain⟨w,xs,f,rfl,hq,rs,_⟩:=r1.dD;exact fin rs hq g2
 |gP ds=>
  obtain⟨w,xs,rfl,hq,rs⟩:=r1.sG;exact fin rs hq g2
 |_=>cases g2
end L2.Ev
namespace L2
open PySem PySem.Spec PyProof.Rows
theorem Inv.LV{ch:List Addr}{o:HO}(I:Inv X ah σ H s)(hf:∀b∈ch,iE X ah H b)(k:∀b o,b∉ch->s.heap.get? b=some o->h'.get? b=some o)
  (hT:s.heap.objs.size<=T) (new:dM X.prog X.w (upd H T o) h' T o):Inv X ah σ (upd H T o) { s with heap:=h',toks:=t' }:=by
 have nT:=I.aK.fresh hT;have mF:∀b u,H b=some u->b∉ch:=λb u e m=>by rw[(hf b m).1] at e;cases e
 refine I.step (λb m=>⟨(hf b m).2.2.2.1,(hf b m).2.1,(hf b m).2.2.2.2.1,(hf b m).2.2.2.2.2⟩) (λb o _ _ m e _=>k b o m e) (λb o _ _ m e _=>⟨o.slots,k b o m e⟩)
  (λb o _ e n=>by rw[aP (acX (ac3 (ab2 e) hT))];exact n) (λb o m e=>⟨o,k b o m e⟩) (λb xs e=>by rw[aP (cV e nT)];exact e) (λb o u e=>by rw[aP (cV e nT)];exact e)
  (λb ps e=>⟨#[],by rw[aP (cV e nT),e];simp⟩) (λm hm=>?_) (λb u e=>?_) I.bare
 .obtain⟨o,es,ep,ho,r⟩:=hm;exact⟨o,es,ep,k _ o (λm=>(hf _ m).2.1 rfl) ho,r⟩
 .by_cases hb:b=T
  .subst hb;rw[cD] at e;cases e;exact new
  .rw[aP hb] at e;refine(I.aK b u e).nO (λc v hc q=>k c v ?_ q) (λc q=>by rw[aP (cV q nT)];exact q) λc xs q=>by rw[aP (cV q nT)];exact q
   rcases hc with z|z
   .rw[z];exact mF b u e
   .exact mF c _ z
theorem Inv.F3{ch:List Addr}(I:Inv X ah σ H s)(hf:∀b∈ch,iE X ah H b)(k:∀b o,b∉ch->s.heap.get? b=some o->h'.get? b=some o):Inv X ah σ H { s with heap:=h',toks:=t' }:=by
 have mF:∀b u,H b=some u->b∉ch:=λb u e m=>by rw[(hf b m).1] at e;cases e
 refine I.step (λb m=>⟨(hf b m).2.2.2.1,(hf b m).2.1,(hf b m).2.2.2.2.1,(hf b m).2.2.2.2.2⟩) (λb o _ _ m e _=>k b o m e) (λb o _ _ m e _=>⟨o.slots,k b o m e⟩)
  (λb o _ e n=>n) (λb o m e=>⟨o,k b o m e⟩) (λb xs e=>e) (λb o u e=>e) (λb ps e=>⟨#[],by rw[e];simp⟩) (λm hm=>?_) (λb u e=>?_) I.bare
 .obtain⟨o,es,ep,ho,r⟩:=hm;exact⟨o,es,ep,k _ o (λm=>(hf _ m).2.1 rfl) ho,r⟩
 .refine(I.aK b u e).nO (λc v hc q=>k c v ?_ q) (λc q=>q) λc xs q=>q
  rcases hc with z|z
  .rw[z];exact mF b u e
  .exact mF c _ z
def Ga(K:PySem.W.Frag)(l1 l2:Addr):It:=
  ⟨λi H=>∃xs ys x y,bX K H l1 xs/\bX K H l2 ys/\xs[i]? = some x/\ys[i]? = some y,
   λi H v H'=>∃T a b,H T=none/\v=.ref T/\H'=upd H T (.tup [a,b])/\(∀xs,bX K H l1 xs->xs[i]? = some a)/\∀ys,bX K H l2 ys->ys[i]? = some b,
   λi H=>∃xs ys,bX K H l1 xs/\bX K H l2 ys/\(xs.length<=i\/ys.length<=i),false⟩
def ad1(z TI TO i1 i2 l1 l2:Addr)(i:Nat)(h:Heap):Prop:=IsZip h z TI TO .none/\IsPair h TI (.ref i1) (.ref i2)/\(∃a b,IsPair h TO a b)/\h.IsListIter i1 l1 i/\h.IsListIter i2 l2 i
theorem Vp{K:PySem.W.Frag}{x1}{z TI TO i1 i2 l1 l2:Addr}(D:ZipApart z TI TO i1 i2 l1 l2):
  Turn P w K (.Tuple elts x1 pos) (Ga K l1 l2) [z,TI,TO,i1,i2] z (ad1 z TI TO i1 i2 l1 l2) where
 mem:=by simp
 obj:=λi h st b hb=>by
  obtain⟨s1,s2,⟨a,b',s3⟩,⟨o4,e4,c4,d4⟩,⟨o5,e5,c5,d5⟩⟩:=st;simp only[aaA,adB,agr] at hb;rcases hb with rfl|rfl|rfl|rfl|rfl
  .exact⟨_,s1,λv q=>by cases q⟩
  .exact⟨_,s2,λv q=>by cases q⟩
  .exact⟨_,s3,λv q=>by cases q⟩
  .exact⟨o4,e4,λv q=>by rw[d4] at q;cases q⟩
  .exact⟨o5,e5,λv q=>by rw[d5] at q;cases q⟩
 keep:=λi h h' st k=>by
  obtain⟨s1,s2,⟨a,b',s3⟩,s4,s5⟩:=st;exact⟨k _ (by simp) _ s1,k _ (by simp) _ s2,⟨a,b',k _ (by simp) _ s3⟩,s4.at λo e=>k _ (by simp) o e,s5.at λo e=>k _ (by simp) o e⟩
 item:=by
  exists 40;subst hP hw hK;obtain⟨s1,s2,⟨a,b',s3⟩,s4,s5⟩:=st;obtain⟨xs,ys,x,y,q1,q2,e1,e2⟩:=hg;obtain⟨us,v1,p1,z1⟩:=I.list q1;obtain⟨ws,v2,p2,z2⟩:=I.list q2;obtain⟨u,hu,ru⟩:=v1.get e1;obtain⟨t,ht,rt⟩:=v2.get e2;refine wpAny_pyNext_zip_item D s1 s2 s3 s4 s5 p1.isList p2.isList (by simpa using hu) (by simpa using ht) λh' a1 a2 a3 a4 a5 a6 a7=>⟨_,rfl,?_⟩
  refine wpAny_letOwnedTupleGo_zip a1 λrq b1 b2=>?_
  have lz:=ab2 s1;have nz:=af5 lz;have T2:=b2.extBut _ _ nz a5;have nT:=I.aK.fresh (abL _);have I1:Inv X ah σ (upd H s.heap.objs.size (.tup [x,y])) { s with heap:=rq }:=I.LV (ch:=[z,TO,i1,i2]) (λb m=>hf b (by
    simp only[aaA,adB,agr] at m ⊢;rcases m with rfl|rfl|rfl|rfl<;>simp)) (λb o m e=>by
    simp only[aaA,adB,agr,not_or] at m;exact b2.extBut _ _ m.1 (a7 b o m.1 m.2.1 m.2.2.1 m.2.2.2 e)) (abL _) (show dM X.prog X.w _ rq _ (.tup [x,y]) from⟨show 2<=sizeLine by unfold sizeLine;lia,[u,t],.cons ru (.cons rt .nil),⟨_,T2,rfl,rfl,_,rfl⟩⟩)
  refine⟨.ref s.heap.objs.size,_,I1,rfl,⟨_,x,y,nT,rfl,rfl,λRU h=>by rw[I.CK h q1];exact e1,λys' h=>by rw[I.CK h q2];exact e2⟩,?_,λb m=>?_⟩
  .have up:∀c o,c≠z->h'.get? c=some o->rq.get? c=some o:=λc o n e=>b2.extBut _ _ n e
   exact⟨b1,up _ _ D.TIz (a7 TI _ D.TIz D.TITO D.TIi1 D.TIi2 s2),⟨u,t,up _ _ D.TOz a2⟩,a3.at λo e=>up _ o D.i1z e,a4.at λo e=>up _ o D.i2z e⟩
  .rw[aP]
   .exact(hf b m).1
   .rintro rfl
    obtain⟨o4,e4,_⟩:=id s4;obtain⟨o5,e5,_⟩:=id s5;simp only[aaA,adB,agr] at m;rcases m with m|m|m|m|m
    .exact nz m
    .exact absurd (ab2 s2) (by rw[<- m];exact afe _)
    .exact absurd (ab2 s3) (by rw[<- m];exact afe _)
    .exact absurd (ab2 e4) (by rw[<- m];exact afe _)
    .exact absurd (ab2 e5) (by rw[<- m];exact afe _)
 done:=by
  exists 40;subst hP hw hK;obtain⟨s1,s2,⟨a,b',s3⟩,s4,s5⟩:=st;obtain⟨xs,ys,q1,q2,e⟩:=hg;obtain⟨us,v1,p1,z1⟩:=I.list q1;obtain⟨ws,v2,p2,z2⟩:=I.list q2;have l1:=v1.length;have l2:=v2.length;refine wpAny_pyNext_zip_end (I.ok.hd (hc.resolve_right λz=>abk z)) D s1 s2 s3 s4 s5 p1.isList p2.isList (e.imp (λe=>by simp;lia) λe=>by simp;lia) λh' k=>⟨rfl,I.F3 (ch:=[z,TO,i1,i2]) (λb m=>hf b (by
    simp only[aaA,adB,agr] at m ⊢;rcases m with rfl|rfl|rfl|rfl<;>simp)) λb o m e=>?_⟩
  simp only[aaA,adB,agr,not_or] at m;exact k b o m.1 m.2.1 m.2.2.1 m.2.2.2 e
 self:=λ_ _ _ _ _ st h=>wpAny_pyIter_zip st.1 h
def afb(K:PySem.W.Frag)(ta:TA):TI:=λσ H R=>ta σ H λvs H1=>∃l1 l2 xs ys,vs=[.ref l1,.ref l2]/\bX K H1 l1 xs/\bX K H1 l2 ys/\R (Ga K l1 l2) H1
theorem Zz{x1}(hg:Gl X "zip")(hm:X.mg "zip"=none)(ha:PA X [a,b] ta)(hs:starEach [a,b] X.env=[(false,eval a X.env),(false,eval b X.env)]:=by rfl)(c_:Y2 X b:=by rfl):
  PI X (.Tuple elts x1 tp) (.Call (.Name "zip" p) [a,b] [] pos) (afb X.K ta):=by
 intro ah s σ H R I h;refine afS (pJ I hg hm boot_zip (af0 (ha.n I h λus s1 vs H1 I1 r1 q1=>?_) (by rw[hs,c_]) (by rw[c_];rfl)));obtain⟨l1,l2,xs,ys,rfl,h1,h2,q⟩:=q1;obtain⟨u,v,rfl,ru,rv⟩:=vals2 r1;cases ru;cases rv;obtain⟨us,v1,p1,z1⟩:=I1.list h1;obtain⟨ws,v2,p2,z2⟩:=I1.list h2;have b1:l1<s1.heap.objs.size:=let⟨o,n,e,_⟩:=p1;ab2 e
 have b2:=let⟨o,n,e,_⟩:=p2;ab2 e
 refine call_zip_2 p1.isList p2.isList λh' g1 g2 g3 g4 g5 g6 k=>?_
 refine wpAny_pyIter_zip g1 ?_;refine⟨_,_,_,_,H1,rfl,I1.kept k,Vp (zipApart_new b1 b2),⟨g1,g2,⟨_,_,g3⟩,g4,g5⟩,λc hc=>?_,q⟩;have up:∀j,iE X ah H1 (s1.heap.objs.size+j):=λj=>I1.rH (Nat.le_add_right _ _) (I1.aK.fresh (Nat.le_add_right _ _))
 simp only[aaA,adB,agr] at hc;rcases hc with rfl|rfl|rfl|rfl|rfl
 .exact up 4
 .exact up 2
 .exact up 3
 .exact up 0
 .exact up 1
end L2
namespace L2.Ev
open PySem PySem.Spec PyProof.Rows
def qz(fa fb:EF):IF:=λρ=>match fa ρ,fb ρ with
 |some (.lst ds,t1),some (.lst es,t2)=>if(aL ds&&aL es)=true then some ((ds.zip es).map λp=>.tup [p.1,p.2],jK [(.lst ds,t1),(.lst es,t2)]) else none
 |_,_=>none
theorem aC.QM{K:PySem.W.Frag}{i:Nat}(r:aC K H ds vs [])(e:ds[i]? = some d):∃v,vs[i]? = some v/\Rep K H d v []:=by
 obtain⟨v,f,e1,r1,s⟩:=r.get e;have:f=[]:=List.eq_nil_iff_forall_not_mem.mpr λa m=>by have:=s a m;cases this
 subst this;exact⟨v,e1,r1⟩
theorem acY{K:PySem.W.Frag}{f1 f2:List Addr}(c1:aL ds=true)(c2:aL es=true):
  qu K (Ga K l1 l2) ((ds.zip es).map λp=>.tup [p.1,p.2]) [⟨.lst ds,.ref l1,f1⟩,⟨.lst es,.ref l2,f2⟩]:=by
 intro H i hh;obtain⟨p1,xs,g1,e1,q1,r1,_⟩:=(hh _ aad).dD;obtain⟨p2,ys,g2,e2,q2,r2,_⟩:=(hh _ (aab _ aad)).dD;cases e1;cases e2;have n1:=r1.aB c1;have n2:=r2.aB c2;subst n1 n2;refine⟨λd hd=>?_,λhl=>?_⟩
 .rw[acn] at hd;cases hz:(ds.zip es)[i]? with
  |none=>rw[hz] at hd;cases hd
  |some pr=>
   rw[hz] at hd;cases hd;obtain⟨k1,k2⟩:=List.getElem?_zip_eq_some.mp hz;obtain⟨x,hx,rx⟩:=r1.QM k1;obtain⟨y,hy,ry⟩:=r2.QM k2;refine⟨⟨xs,ys,x,y,q1,q2,hx,hy⟩,λv H1 hv=>?_⟩;obtain⟨T,a,b,hT,rfl,rfl,ha,hb⟩:=hv;have ea:=ha xs q1;have eb:=hb ys q2;rw[hx] at ea;rw[hy] at eb;cases ea;cases eb;have s2:aJ H (upd H T (.tup [x,y])):=λb o e=>by rw[aP (cV e hT)];exact e
   exact⟨s2,[],.tup (cg.of cD) (aC.cons (rx.same s2) (aC.cons (ry.same s2) .nil)),λa m=>nomatch m⟩
 .rw[List.length_map,List.length_zip,r1.length,r2.length] at hl;exact⟨xs,ys,q1,q2,by lia⟩
theorem Qf{x1}(hm:X.mg "zip"=none)(ha:FP X a fa)(hb:FP X b fb)(hg:Gl X "zip":=by rfl)(hs:starEach [a,b] X.env=[(false,eval a X.env),(false,eval b X.env)]:=by rfl)(c_:Y2 X b:=by rfl):
  FI X (.Tuple elts x1 tp) (.Call (.Name "zip" p) [a,b] [] pos) (qz fa fb):=by
 obtain⟨t,pa,hlen,q⟩:=ao ha (ao hb aD c_) (by rw[hs,c_]);exists 24,Zz hg hm pa hs c_;unfold qz at e
 split at e
 .rename_i d1 t1 d2 t2 h1 h2;obtain⟨hc,e⟩:=ci e;cases e;obtain⟨c1,c2⟩:=(aaV _ _).mp hc;refine q ok (by unfold au aE;rw[h1,h2]) λH1 vs fp s1 r g=>?_
  cases r with
  | @cons _ v1 _ _ f1 _ r1 r=>
   cases r with
   | @cons _ v2 _ _ f2 _ r2 r=>
    cases r;obtain⟨l1,xs,g1,rfl,q1,_,_⟩:=r1.dD;obtain⟨l2,ys,g2,rfl,q2,_,_⟩:=r2.dD;refine⟨l1,l2,xs,ys,rfl,q1,q2,k H1 _ [⟨.lst d1,.ref l1,f1⟩,⟨.lst d2,.ref l2,f2⟩] s1 (λh m=>?_) (acY c1 c2)⟩;have go:=g.over ok;rcases aaA.mp m with rfl|m
    .exact⟨r1,λa ma=>go a (abj _ ma)⟩
    .cases aaU.mp m;exact⟨r2,λa ma=>go a (aas _ (abj _ ma))⟩
 .cases e
end L2.Ev
namespace L2
open PySem PySem.Spec PyProof.Rows
theorem K3:∀{bs:List Bool} {us},aU (bs.map V.bl) us->us=bs.map Value.bool
 |[],_,r=>by rw[agX] at r;cases r;rfl
 |b::bs,_,r=>by
  rw[aao] at r;cases r with
  |cons r1 r2=>cases r1;rw[K3 r2];rfl
theorem range_all(bs:List Bool):(List.range bs.length).all (λj=>bs.getD j true)=bs.all id:=by
 induction bs with
 |nil=>rfl
 |cons b r ih=>
  rw[acj,List.range_succ_eq_map,ag2,agY,ag2,<- ih];rfl
theorem VN(hc:X.calm=true):g_ X (.builtin "all") (λxs H Q=>∃(p:Addr) (bs:List Bool),xs=[V.ref p]/\bX X.K H p (bs.map V.bl)/\Q (.bl (bs.all id)) H):=by
 exists 43;obtain⟨p,bs,rfl,hq,q⟩:=h;obtain⟨u,rfl,ru⟩:=vals1 r;cases ru;obtain⟨ay,v1,pl,hz⟩:=I.list hq;have ei:=K3 v1;subst ei;have lp:=let⟨o,n,e,_⟩:=pl;ab2 e
 have hh:X.A.in1.handled=none:=I.ok.hd hc;refine call_all_walk (wpAny_pyIter_list pl.isList ?_);refine⟨s.heap.objs.size,_,_,_,_,_,λj=>bs.getD j true,rfl,Walks.list hh s.heap.objs.size p (acX lp) (bs.map Value.bool).toArray,⟨⟨_,acC _ rfl,rfl,rfl⟩,pl.isList.at λo e=>aax _ e⟩,?_,λh' tk hk=>?_⟩
 .intro i v s' Q' E' hv hQ;rw[List.getElem?_toArray,acn] at hv;exists e,bs[i]?,b,hv;cases hv;dsimp only at hQ;rw[adb,e] at hQ;exact afR hQ
 .have f:=I.rH (abL s.heap.objs.size) (I.aK.fresh (abL _));have I1:Inv X ah σ H { s with heap:=s.heap.push { cls:=.type "list_iterator",data:=.fields #[.ref p,.int 0 0] } }:=I.kept λb o e=>aax _ e
  rw[ab5,List.length_map,range_all];exact⟨.bl _,H,I1.F3 (λb m=>by rw[aaU.mp m];exact f) λb o m e=>hk b o m e,rfl,q⟩
end L2
namespace L2.Ev
open PySem PySem.Spec PyProof.Rows
noncomputable def mV:List D->Option (List Bool)
 |[]=>some []
 |.bl b::r=>(mV r).map (b::·)
 |_=>none
theorem Pe{K:PySem.W.Frag}:∀{ds} {xs} {fp} {bs},aC K H ds xs fp->mV ds=some bs->xs=bs.map V.bl
 |[],_,_,bs,r,e=>by cases r;cases e;rfl
 |d::ds,_,_,bs,r,e=>by
  cases r with
  |cons h t=>
   cases d<;>try (cases e;done)
   cases h;unfold mV at e;exists q,mV ds,r,e;cases e;rw[Pe t q];rfl
def yE:D->Option D
 |.lst ds=>(mV ds).map λbs=>.bl (bs.all id)
 |_=>none
theorem ab7{K:PySem.W.Frag}:qp K (λxs H Q=>∃(p:Addr) (bs:List Bool),xs=[V.ref p]/\bX K H p (bs.map V.bl)/\Q (.bl (bs.all id)) H) yE:=by
 intro H x d1 f1 d Q r e k;cases d1 with
 |lst ds=>
  obtain⟨p,xs,f,rfl,hq,rs,_⟩:=r.dD;have e:(mV ds).map (λbs=>D.bl (bs.all id))=some d:=e;exists h,mV ds,bs,e;cases e;have ex:=Pe rs h;subst ex;exact⟨p,bs,rfl,hq,k H _ [] (aJ.refl H) (.bl _) acW λa m=>nomatch m⟩
 |_=>cases e
theorem CS(hc:X.calm=true)(hm:X.mg "all"=none)(ha:FP X a fa)(hg:Gl X "all":=by rfl)(hs:Y2 X a:=by rfl):FP X (.Call (.Name "all" p) [a] [] pos) (e1 yE fa):=
 fp_1 ab7 ha λta pa=>sI (VN hc) hg hm boot_all (d8 pa fY hs) (he:=hs)
abbrev XF:=aO->Option (D×aO)
theorem ae2(ha:FP X a fa)(hb:FP X b fb):FP X (.Compare a [.Lt] [b] pos) (e2 oLt fa fb):=nI RO tu ha hb (je _)
theorem Yu(ha:FP X a fa)(hb:FP X b fb):FP X (.Compare a [.LtE] [b] pos) (e2 oLe fa fb):=nI Dy tu ha hb (je _)
theorem Y_(ha:FP X a fa)(hb:FP X b fb):FP X (.Compare a [.Is] [b] pos) (e2 jf fa fb):=nI K6 Qk ha hb (je _)
end L2.Ev
namespace L2.Ev
open PySem
theorem e_:∀ns:List Int,aL (ns.map D.int)=true
 |[]=>rfl
 |n::r=>by rw[aao];unfold aL;rw[e_ r];rfl
theorem qe{as bs:List Int}(h:as.length+bs.length<=PySem.sizeLine):gH (.lst (as.map D.int)) (.lst (bs.map D.int))=some (.lst ((as++bs).map D.int)):=by
 show(if(aL (as.map D.int)&&aL (bs.map D.int)&&decide ((as.map D.int).length+(bs.map D.int).length<=PySem.sizeLine))=true then some (D.lst (as.map D.int++bs.map D.int)) else none)=_;rw[e_,e_,List.length_map,List.length_map,aaq h,adp];rfl
theorem aaR(h:ns.length<64):i7 (.lst (ns.map D.int))=some (.lst ((b7 ns).map D.int)):=by
 show(match eN (ns.map D.int) with|some ns=>if ns.length<64 then some (D.lst ((b7 ns).map D.int)) else none|none=>none)=_;rw[uv];dsimp only;rw[if_pos h]
theorem s_{ns:List Int}:pZ (.lst (ns.map D.int))=some (.lst (ns.map D.int)):=by show(if aL (ns.map D.int)=true then some (D.lst (ns.map D.int)) else none)=_;rw[if_pos (e_ ns)]
theorem Qn{ns:List Int}:pZ (.tup (ns.map D.int))=some (.lst (ns.map D.int)):=by show(if aL (ns.map D.int)=true then some (D.lst (ns.map D.int)) else none)=_;rw[if_pos (e_ ns)]
theorem xy{ns:List Int}:uL (.lst (ns.map D.int))=some (.tup (ns.map D.int)):=by show(if aL (ns.map D.int)=true then some (D.tup (ns.map D.int)) else none)=_;rw[if_pos (e_ ns)]
open PySem PySem.Spec PyProof.Rows
theorem aC.look{K:PySem.W.Frag}:∀{es:List (Str×D)}{fs:List (Str×V)} {fp} {f} {d},es.map (·.1)=fs.map (·.1)->aC K H (es.map (·.2)) (fs.map (·.2)) fp->es.lookup f=some d->∃v g,fs.lookup f=some v/\Rep K H d v g/\∀a∈g,a∈fp
 |[],[],_,_,_,_,_,e=>by cases e
 |[],_::_,_,_,_,k,_,_=>by simp at k
 |_::_,[],_,_,_,k,_,_=>by simp at k
 |(x,d0)::es,(y,v0)::fs,fp,f,d,k,r,e=>by
  simp only[aao,af2] at k;obtain⟨rfl,k⟩:=k;cases r with
  |cons r1 r2=>
   by_cases hx:(f==x)=true
   .simp only[List.lookup,hx] at e ⊢;cases e;exact⟨v0,_,rfl,r1,λa m=>abj _ m⟩
   .have hx:(f==x)=false:=by simpa using hx
    simp only[List.lookup,hx] at e ⊢;obtain⟨v,g,h1,h2,h3⟩:=aC.look k r2 e;exact⟨v,g,h1,h2,λa m=>aas _ (h3 a m)⟩
theorem vz:∀{es:List (Str×D)}{fs:List (Str×V)} {f},es.map (·.1)=fs.map (·.1)->es.lookup f=none->fs.lookup f=none
 |[],[],_,_,_=>rfl
 |[],_::_,_,k,_=>by simp at k
 |_::_,[],_,k,_=>by simp at k
 |(x,d0)::es,(y,v0)::fs,f,k,e=>by
  simp only[aao,af2] at k;obtain⟨rfl,k⟩:=k
  by_cases hx:(f==x)=true
  .simp only[List.lookup,hx] at e;cases e
  .have hx:(f==x)=false:=by simpa using hx
   simp only[List.lookup,hx] at e ⊢;exact vz k e
structure ClsAt(K:PySem.W.Frag)(cn:Str)(C:Addr):Prop where
 ns:PySem.W.nsIn K mainGlobals cn=some (some (.ref C))
 cl:lH K C
theorem Rep.n8{K:PySem.W.Frag}(r:Rep K H (.ins cn es) v fp)(hn:PySem.W.nsIn K mainGlobals cn=some (some (.ref C))):
  ∃a dx fs g,v=.ref a/\fp=a::dx::g/\H a=some (.ins C dx fs)/\H dx=some (.own a)/\es.map (·.1)=fs.map (·.1)/\aC K H (es.map (·.2)) (fs.map (·.2)) g:=by
 cases r with
 | @ins _ a C' dx fs _ g h0 h1 h2 h3 h4=>
  rw[hn] at h0;cases h0;exact⟨a,dx,fs,g,rfl,rfl,h1,h2,h3,h4⟩
def bV(cn f:Str)(fa:EF):EF:=λρ=>match fa ρ with
 |some (.ins c es,t)=>if c=cn then(es.lookup f).map λd=>(d,k_ t) else none
 |_=>none
theorem cO.sub(hz:∀a j,z a=some j->∃o,H a=some o)(h:cO z H t f)(s:∀a∈g,a∈f):cO z H (k_ t) g:=by
 cases t with
 |sh o=>exact λa m j q=>h a (s a m) j q
 |own=>exact λa m j q=>by obtain⟨o,w⟩:=hz a j q;rw[h.2 a (s a m)] at w;cases w
 |lk=>exact λa m j q=>by obtain⟨o,w⟩:=hz a j q;rw[h.2 a (s a m)] at w;cases w
theorem bO{cn f:Str}{C:Addr}(hC:ClsAt X.K cn C)(na:jk X.K C f)(ha:FP X a fa)(hb:attributeBase a f X.env (eval a X.env)=eval a X.env:=by rfl):FP X (.Attribute a f pos) (bV cn f fa):=by
 exists 61;exists 21,tY p hb;unfold bV at e;exists h,fa ρ,w,e,0;obtain⟨d0,t0⟩:=w;rw[h] at e;cases d0<;>try (cases e;done)
 rename_i c es;exists 68
 by_cases hc:c=cn
 .subst hc;rw[if_pos rfl] at e;exists hl,es.lookup f,d1,e;cases e;refine q ok h λH1 v fp s1 r1 g1=>?_
  obtain⟨b,dx,fs,g,rfl,rfl,h1,h2,h3,h4⟩:=r1.n8 hC.ns;obtain⟨u,gf,h5,h6,h7⟩:=aC.look h3 h4 hl;exact⟨b,C,dx,fs,u,rfl,h1,hC.cl,na,h5,k H1 u gf s1 h6 (cO.sub (λa j e=>(ok.zd a j e).1) g1 λa m=>aab _ (aab _ (h7 a m)))⟩
 .rw[if_neg hc] at e;cases e
noncomputable def bP(cn m:Str)(F:List D->Option D)(fo:EF)(g:AF):EF:=λρ=>match fo ρ with
 |some (.ins c es,_)=>if c=cn/\es.lookup m=none then(g ρ).bind λps=>(F (.ins c es::ps.map (·.1))).map λd=>(d,.own) else none
 |_=>none
section
variable{X:Cx}
theorem R4(hC:ClsAt X.K cn C)(q:∀{H0} {S} {z} {aq} {ρ} {σ} {H} {Q} {d} {tg},Ok X.K H0 S z aq ρ σ H->fo ρ=some (d,tg)->(∀H' v fp,aJ H H'->Rep X.K H' d v fp->cO z H tg fp->Q v H')->t σ H Q)
  (qa:∀{H0} {S} {z} {aq} {ρ} {σ} {H} {Q} {ps},Ok X.K H0 S z aq ρ σ H->g ρ=some ps->(∀H' vs fp,aJ H H'->aC X.K H' (ps.map (·.1)) vs fp->cO z H (jK ps) fp->Q vs H')->ta σ H Q)
  (ok:Ok X.K H0 S z aq ρ σ H) (e0:bP cn m F fo g ρ=some (d,tg)) (kk:∀H' v fp,aJ H H'->Rep X.K H' d v fp->cO z H tg fp->Q v H') :
  Aw C m (bq X.K F) [] E0 t ta σ H Q:=by
 unfold bP at e0;cases h:fo ρ with
 |none=>rw[h] at e0;cases e0
 |some w=>
  obtain⟨d0,t0⟩:=w;rw[h] at e0;cases d0<;>try (cases e0;done)
  rename_i c Bd;dsimp only at e0
  by_cases hc:c=cn/\Bd.lookup m=none
  .rw[if_pos hc] at e0;obtain⟨rfl,hm⟩:=hc;cases h2:g ρ with
   |none=>rw[h2] at e0;cases e0
   |some qs=>
    rw[h2,ac0] at e0;cases h3:F (.ins c Bd::qs.map (·.1)) with
    |none=>rw[h3] at e0;cases e0
    |some d1=>
     rw[h3] at e0;cases e0;exists 55
     obtain⟨b,dx,fs,gf,rfl,rfl,h4,h5,h6,h7⟩:=r1.n8 hC.ns;refine⟨b,dx,fs,rfl,h4,vz h6 hm,?_⟩;refine qa (ok.same s1) h2 λH2 vs mO s2 r2 _=>?_
     rw[acG];exact⟨_,_,d,.cons (r1.same s2) r2,h3,λH3 u jH s3 r3 nd fr=>kk H3 u jH ((s1.trans s2).trans s3) r3 ⟨nd,λa m=>s1.free (s2.free (fr a m))⟩⟩
  .rw[if_neg hc] at e0;cases e0
theorem fR(hC:ClsAt X.K cn C)(hm:l_ X.K C m f)(G:cE X.prog X.w X.K X.mg X.base dF k f fd ps (bq X.K F))(hr:bH k X.A)(hb:Binds X.K fd ps [])(ho:FP X o fo)(ha:FA X (e::es) g)
  (iP:SE X e es pos:=by exact⟨rfl,rfl⟩)
  (ht:yq X o m apos (e::es) pos pl:=by exact rfl):FP X (.Call (.Attribute o m apos) (e::es) [] pos) (bP cn m F fo g):=by
 obtain⟨t,p,q⟩:=ho;obtain⟨ta,pa,_,qa⟩:=ha;exact⟨_,CH p hC.cl hm G hr hb .nil n_ pa iP.1 iP.2 ht,@λH0 S z aq ρ σ H Q d tg ok e0 kk=>R4 hC q qa ok e0 kk⟩
theorem ck(hC:ClsAt X.K cn C)(hm:l_ X.K C m f)(G:cE X.prog X.w X.K X.mg X.base dF k f fd ps (bq X.K F))(hr:bH k X.A)(hb:Binds X.K fd ps [])(ho:FP X o fo)
  (ht:yq X o m apos [] pos pl:=by exact rfl):FP X (.Call (.Attribute o m apos) [] [] pos) (bP cn m F fo aE):=by
 obtain⟨t,p,q⟩:=ho;obtain⟨ta,pa,_,qa⟩:=aD (X:=X);refine⟨_,P0 p hC.cl hm G hr hb .nil n_ ht,@λH0 S z aq ρ σ H Q d tg ok e0 kk=>R4 hC q (@λ_ _ _ _ _ _ H _ _ _ e q=>by cases e;exact q H _ _ (aJ.refl H) .nil .nil) ok e0 kk⟩
end
noncomputable abbrev MF:=D->List D->Option (D×D)
def dO(K:PySem.W.Frag)(G:MF):Sp:=λvs H Q _=>∃a ws d0 bI ds f7 r d1,vs=V.ref a::ws/\Rep K H d0 (.ref a) bI/\bI.Nodup/\aC K H ds ws f7/\(∀b∈f7,b∉bI)/\G d0 ds=some (r,d1)/\
 ∀H' v bT,aV H H'->(∀b o,b∉bI->H b=some o->H' b=some o)->Rep K H' d1 (.ref a) bT->bT.Nodup->(∀b∈bT,b∈bI\/H b=none)->Rep K H' r v []->Q v H'
def apart(i:Nat)(ps:List (D×Tag)):Bool:=match jK ps with
 |.sh o=>!o.contains i
 |_=>true
theorem F7{K:PySem.W.Frag}(ok:Ok K H0 S z aq ρ σ H)(h:apart i ps=true)(g:cO z H (jK ps) fp)(zz:uC z i .own bI):∀b∈fp,b∉bI:=by
 intro b m n;unfold apart at h;have zb:=zz.2 b n;cases ht:jK ps with
 |sh o=>
  rw[ht] at h g;have:=g b m i zb;simp at h;exact h this
 |own=>
  rw[ht] at g;obtain⟨⟨o,w⟩,_⟩:=ok.zd b i zb;rw[g.2 b m] at w;cases w
 |lk=>
  rw[ht] at g;obtain⟨⟨o,w⟩,_⟩:=ok.zd b i zb;rw[g.2 b m] at w;cases w
def xO(i:Nat)(cn m:Str)(G:MF)(g:AF):XF:=λρ=>match ρ[i]?,g ρ with
 |some (some (.ins c es,.own)),some ps=>if c=cn/\es.lookup m=none/\apart i ps=true then(G (.ins c es) (ps.map (·.1))).map λw=>(w.1,bQ ρ i w.2) else none
 |_,_=>none
theorem Kl(e:xO i cn m G g ρ=some (r,ρ')):∃es ps d1,ρ[i]? = some (some (.ins cn es,.own))/\g ρ=some ps/\es.lookup m=none/\apart i ps=true/\G (.ins cn es) (ps.map (·.1))=some (r,d1)/\ρ'=bQ ρ i d1:=by
 unfold xO at e
 split at e
 .rename_i c es ps h1 h2
  by_cases hc:c=cn/\es.lookup m=none/\apart i ps=true
  .rw[if_pos hc] at e;obtain⟨rfl,hm,ha⟩:=hc;exists h3,G (.ins c es) (ps.map (·.1)),w,e;cases e;exact⟨es,ps,w.2,h1,h2,hm,ha,h3,rfl⟩
  .rw[if_neg hc] at e;cases e
 .cases e
def FZ(X:Cx)(e:Expr)(f:XF):Prop:=∃t,PE X e t/\∀{H0} {S} {z} {aq} {ρ} {σ} {H} {Q} {d} {ρ'},
 Ok X.K H0 S z aq ρ σ H->f ρ=some (d,ρ')->(∀z' H' v,Ok X.K H0 S z' aq ρ' σ H'->Rep X.K H' d v []->Q v H')->t σ H Q
section
variable{X:Cx}
theorem acH(hC:ClsAt X.K cn C)(hN:X.N[i]? = some x)
  (qa:∀{H0:Hp} {S} {z} {aq} {ρ} {σ} {H} {Q} {ps},Ok X.K H0 S z aq ρ σ H->g ρ=some ps->(∀H' vs fp,aJ H H'->aC X.K H' (ps.map (·.1)) vs fp->cO z H (jK ps) fp->Q vs H')->ta σ H Q)
  (ok:Ok X.K H0 S z aq ρ σ H) (e0:xO i cn m G g ρ=some (d,ρ')) (kk:∀z' H' v,Ok X.K H0 S z' aq ρ' σ H'->Rep X.K H' d v []->Q v H') :
  Aw C m (dO X.K G) [] E0 (Dw i) ta σ H Q:=by
 obtain⟨Bd,qs,d1,h1,h2,hm,oK,hG,rfl⟩:=Kl e0;obtain⟨v,bI,hs,r0,zz⟩:=ok.sl i _ _ h1;refine⟨v,hs,?_⟩;obtain⟨b,dx,fs,gf,rfl,FQ,h4,h5,h6,h7⟩:=r0.n8 hC.ns;refine⟨b,dx,fs,rfl,h4,vz h6 hm,?_⟩;refine qa ok h2 λH2 vs mO s2 r2 g2=>?_
 rw[acG];have mQ:=ok.same s2;refine⟨b,vs,_,bI,_,mO,d,d1,rfl,r0.same s2,zz.1,r2,F7 ok oK g2 zz,hG,λH3 u bT im kp r1 nd fr rr=>?_⟩;obtain⟨z',iD⟩:=mQ.put h1 hs zz im kp r1 nd fr;exact kk z' H3 u iD rr
theorem lR(i:Nat)(hC:ClsAt X.K cn C)(hm:l_ X.K C m f)(GG:cE X.prog X.w X.K X.mg X.base dF k f fd ps (dO X.K G))(hr:bH k X.A)(hb:Binds X.K fd ps [])(va:VA X i x:=by walk_at "va")
  (ht:yq X (.Name x p1) m apos [] pos pl:=by exact rfl):FZ X (.Call (.Attribute (.Name x p1) m apos) [] [] pos) (xO i cn m G aE):=
 ⟨_,P0 va.pe hC.cl hm GG hr hb .nil n_ ht,@λH0 S z aq ρ σ H Q d ρ' ok e0 kk=>acH hC va.N (@λ_ _ _ _ _ _ H _ _ _ e q=>by cases e;exact q H _ _ (aJ.refl H) .nil .nil) ok e0 kk⟩
noncomputable def sZ(f:XF):SF:=λρ=>(f ρ).map λw=>.nx w.2
theorem kD(he:FZ X e fx)(iY:swapsWith e none pos.line X.env=pure false:=by rfl):fC X (.Expr e pos) (sZ fx):=by
 obtain⟨t,p,q⟩:=he;exists 23,wX p iY;unfold sZ at e;exists h,fx ρ,w,e,0;obtain⟨d,aQ⟩:=w;rw[h] at e;cases e;exact q ok h λz' H1 v b_ r1=>k z' σ H1 b_ (.refl _ _)
def RN(i:Nat)(f:XF):SF:=λρ=>match f ρ with
 |some (d,ρ')=>some (.nx (iH ρ' i d .own))
 |none=>none
theorem Zd(i:Nat)(he:FZ X e fx)(hN:X.N.Nodup)(hi:X.N[i]? = some x:=by rfl)(hx:Loc X.env.scope x:=by first|exact Or.inl rfl|exact Or.inr rfl)
  (hs:swapsWith e (some (.Name x pos')) pos.line X.env=pure false:=by rfl) (hf:v6 X x:=by first|exact .inl rfl|exact .inr rfl) (pQ:kc X x=false:=by rfl):fC X (.Assign [.Name x pos'] e pos) (RN i fx):=by
 obtain⟨t,p,q⟩:=he;exists 23,Bx hN hi hx p hs hf;unfold RN at e;cases h:fx ρ with
 |none=>rw[h] at e;cases e
 |some w=>
  obtain⟨d,aQ⟩:=w;rw[h] at e;cases e;refine q ok h λz1 H1 v b_ r1=>?_
  exact b_.stored (aJ.refl H1) r1 .nil λz' aW=>k z' _ H1 aW (.set hi pQ)
end
noncomputable def uO(cn:Str)(G:MF)(g:AF):EF:=λρ=>(g ρ).bind λps=>match G (.ins cn []) (ps.map (·.1)) with
 |some (.az,d)=>some (d,.own)
 |_=>none
section
variable{X:Cx}
theorem make_core{Q:VK}(hn:PySem.W.nsIn X.K mainGlobals cn=some (some (.ref C)))(r1:aC X.K H1 ds vs fp)(h3:G (.ins cn []) ds=some (.az,d))(kk:∀H' v fp,aJ H1 H'->Rep X.K H' d v fp->fp.Nodup->(∀a∈fp,H1 a=none)->Q v H'):
  ∀x dx,H1 x=none->H1 dx=none->dx≠x->dO X.K G (.ref x::(vs++[])) (upd (upd H1 dx (.own x)) x (.ins C dx [])) (λv H2=>v=.az/\Q (.ref x) H2) E0:=by
 intro b dx nb Bf ne;rw[acG];have s2:aJ H1 (upd (upd H1 dx (.own b)) b (.ins C dx [])):=λc o e=>by rw[aP (cV e nb),aP (cV e Bf)];exact e
 refine⟨b,vs,.ins cn [],[b,dx],_,fp,.az,d,rfl,.ins hn cD (by rw[aP ne];exact cD) rfl .nil,?_,r1.same s2,λc m n=>?_,h3,λH3 u bT im kp r3 nd fr rr=>?_⟩
 .exact ab4.mpr ⟨λm=>ne (aaU.mp m).symm,ab4.mpr ⟨(λm=>nomatch m),acW⟩⟩
 .obtain⟨o,w,_⟩:=r1.cG c m;rcases aaA.mp n with e|n
  .rw[e,nb] at w;cases w
  .rw[aaU.mp n,Bf] at w;cases w
 .cases rr;refine⟨rfl,kk H3 _ bT (λc o e=>?_) r3 nd λc m=>?_⟩
  .refine kp c o (λn=>?_) (s2 c o e);rcases aaA.mp n with q|n
   .rw[q,nb] at e;cases e
   .rw[aaU.mp n,Bf] at e;cases e
  .rcases fr c m with q|q
   .rcases aaA.mp q with q|q
    .rw[q];exact nb
    .rw[aaU.mp q];exact Bf
   .exact s2.free q
theorem PZ(hn:PySem.W.nsIn X.K mainGlobals cn=some (some (.ref C)))
  (qa:∀{H0} {S} {z} {aq} {ρ} {σ} {H} {Q} {ps},Ok X.K H0 S z aq ρ σ H->g ρ=some ps->(∀H' vs fp,aJ H H'->aC X.K H' (ps.map (·.1)) vs fp->cO z H (jK ps) fp->Q vs H')->ta σ H Q)
  (ok:Ok X.K H0 S z aq ρ σ H) (e0:uO cn G g ρ=some (d,tg)) (kk:∀H' v fp,aJ H H'->Rep X.K H' d v fp->cO z H tg fp->Q v H') :
  Dh C (dO X.K G) [] E0 ta σ H Q:=by
 unfold uO at e0;exists h2,g ρ,qs,e0,0;rw[h2,ac0] at e0;exists h3,G (.ins cn []) (qs.map (·.1)),w,e0,0;obtain⟨r,d1⟩:=w;rw[h3] at e0;cases r<;>try (cases e0;done)
 cases e0;refine qa ok h2 λH1 vs fp s1 r1 _=>?_
 exact make_core hn r1 h3 λH' v fp s2 r3 nd fr=>kk H' v fp (s1.trans s2) r3 ⟨nd,λa m=>s1.free (fr a m)⟩
theorem P8(hn:PySem.W.nsIn X.K mainGlobals cn=some (some (.ref C)))(M:Mk X.K C f)(GG:cE X.prog X.w X.K X.mg X.base dF k f fd ps (dO X.K G))(hr:bH (k+1) X.A)(hm:X.mg x=some (.ref C))(hb:Binds X.K fd ps [])(hg:GD X x:=by exact⟨rfl,by decide⟩):
  FP X (.Call (.Name x p) [] [] pos) (uO cn G aE):=
 ⟨_,aa4 M GG hr hg.1 hm hb .nil n_ hg.2,@λH0 S z aq ρ σ H Q d tg ok e0 kk=>PZ hn (@λ_ _ _ _ _ _ H _ _ _ e q=>by cases e;exact q H _ _ (aJ.refl H) .nil .nil) ok e0 kk⟩
theorem Mt(hn:PySem.W.nsIn X.K mainGlobals cn=some (some (.ref C)))(M:Mk X.K C f)(GG:cE X.prog X.w X.K X.mg X.base dF k f fd ps (dO X.K G))(hr:bH (k+1) X.A)(hm:X.mg x=some (.ref C))(hb:Binds X.K fd ps [])(ha:FA X (e::es) g)(hg:GD X x:=by exact⟨rfl,by decide⟩)
  (he:SE X e es pos:=by exact⟨rfl,rfl⟩):FP X (.Call (.Name x p) (e::es) [] pos) (uO cn G g):=by
 obtain⟨ta,pa,_,qa⟩:=ha;exact⟨_,aaG M GG hr hg.1 hm hb .nil n_ pa hg.2 he.1 he.2,@λH0 S z aq ρ σ H Q d tg ok e0 kk=>PZ hn qa ok e0 kk⟩
end
end L2.Ev
namespace L2
open PySem PySem.Spec PyProof.Rows
noncomputable abbrev Cx.kP(X:Cx)(xs:List Str):Cx:={ X with fn:=λy=>!(xs.contains y) }
theorem iF.kP{st:List Stmt}(hX:X.fn=λ_=>true)(h:iF (X.kP xs) st t):iF X st t:=λah s σ H W I hw=>by
 have I':Inv (X.kP xs) ah σ H s:=⟨⟨I.ok.mod,I.ok.kind,I.ok.glob,I.ok.blt,I.ok.above,I.ok.inj,I.ok.has,λx c _ e=>I.ok.uZ x c (by rw[hX]) e,I.ok.hd,I.ok.frames,I.ok.zB,I.ok.zV,I.ok.bs,I.ok.kF,I.ok.vE,I.ok.vR,I.ok.kq,I.ok.qU⟩,I.os,I.bare,I.base,I.loc,I.cell,I.free,I.jZ,I.pin,I.aK,I.len,I.hq⟩
 have back:∀{aI} {H'} {s'},Inv (X.kP xs) ah aI H' s'->Inv X ah aI H' s':=λJ=>⟨I.ok,J.os,J.bare,J.base,J.loc,J.cell,J.free,J.jZ,J.pin,J.aK,J.len,J.hq⟩
 refine ae0 (h ah s σ H W I' hw) (λf s' q=>?_) λ_ _ z=>z
 cases f with
 |next=>obtain⟨a,b,J,q⟩:=q;exact⟨a,b,back J,q⟩
 |brk=>obtain⟨a,b,J,q⟩:=q;exact⟨a,b,back J,q⟩
 |cont=>obtain⟨a,b,J,q⟩:=q;exact⟨a,b,back J,q⟩
 |ret u=>obtain⟨v,a,b,J,r,q⟩:=q;exact⟨v,a,b,back J,r,q⟩
end L2
namespace L2.Ev
open PySem PySem.Spec PyProof.Rows
noncomputable def jS:List Nat->aO->Option (List D)
 |[],_=>some []
 |i::J,ρ=>match ρ[i]? with
  |some (some (d,Tag.own))=>(jS J ρ).map (d::·)
  |_=>none
def zH(J:List Nat)(im:Bool)(X:Cx)(H0:Hp)(S:List Addr)(aq:List pH)(pC:St)(E:Ends):Out->Prop
 |.rt p=>∃r es,p=.tup (r::es)/\∀z ρ σ H v cN,Ok X.K H0 S z aq ρ σ H->jS J ρ=some es->Kp X pC σ->Rep X.K H r v cN->cN.Nodup->(∀b∈cN,(H0 b=none\/b∈S)/\∀i∈J,z b≠some i)->(im=true->cN=[])->E.rt v H
 |o=>qk X H0 S aq pC E o
def FJ(J:List Nat)(im:Bool)(X:Cx)(st:List Stmt)(f:SF):Prop:=∃t,iF X st t/\∀{H0} {S} {z} {aq} {ρ} {σ} {H} {E} {o},
 Ok X.K H0 S z aq ρ σ H->f ρ=some o->zH J im X H0 S aq σ E o->t E σ H
def qQ(J:List Nat)(im:Bool)(X:Cx)(st:Stmt)(f:SF):Prop:=∃t,PS X st t/\∀{H0} {S} {z} {aq} {ρ} {σ} {H} {E} {o},
 Ok X.K H0 S z aq ρ σ H->f ρ=some o->zH J im X H0 S aq σ E o->t E σ H
noncomputable abbrev E3:=FJ [0]
noncomputable abbrev FM:=FJ [0] true
theorem zH.of(k:zH J im X H0 S aq σ E o)(a:Kp X σ aI):zH J im X H0 S aq aI E o:=by
 cases o with
 |nx ρ=>exact qk.of (o:=.nx ρ) k a
 |bk ρ=>exact qk.of (o:=.bk ρ) k a
 |ct ρ=>exact qk.of (o:=.ct ρ) k a
 |er raw cn ρ=>exact vI.of k a
 |rt d=>obtain⟨r,d0,e,k⟩:=k;exact⟨r,d0,e,λz ρ s H v cN ok h b=>k z ρ s H v cN ok h (a.trans b)⟩
noncomputable def jI(f:SF):SF:=λρ=>match f ρ with
 |some (.nx ρ')=>some (.nx ρ')
 |some (.bk ρ')=>some (.bk ρ')
 |some (.ct ρ')=>some (.ct ρ')
 |some (.er raw cn ρ')=>some (.er raw cn ρ')
 |_=>none
section
variable{st:Stmt}{rest:List Stmt}
theorem bx(h:fC X st f):qQ J im X st (jI f):=by
 obtain⟨t,p,q⟩:=h;refine⟨t,p,@λH0 S z aq ρ σ H E o ok e k=>?_⟩;unfold jI at e;cases h:f ρ with
 |none=>rw[h] at e;cases e
 |some w=>
  rw[h] at e;refine q ok h ?_;cases w<;>first|(cases e;done)|(cases e;exact k)
theorem jz:FJ J im X [] g9:=⟨_,Ow,@λ_ _ z _ _ σ H _ _ ok e k=>by cases e;exact k z σ H ok (.refl _ _)⟩
theorem cQ(h:qQ J im X st f):FJ J im X [st] f:=let⟨t,p,q⟩:=h;⟨t,Kw p,q⟩
theorem bu(h1:qQ J im X st f)(h2:FJ J im X rest g):FJ J im X (st::rest) (cu f g):=by
 obtain⟨t,p,q⟩:=h1;obtain⟨t',p',q'⟩:=h2;exists 23,zL p p';unfold cu at e;cases h:f ρ with
 |none=>rw[h] at e;cases e
 |some w=>
  refine q ok h ?_;rw[h] at e;cases w with
  |nx ρ'=>exact λz' aI H' aW a=>q' aW e (k.of a)
  |rt d=>cases e;exact k
  |bk ρ'=>cases e;exact k
  |ct ρ'=>cases e;exact k
  |er _ _ _=>cases e;exact k
theorem gU(hc:FT X c tc)(ha:FJ J im X a f)(hb:FJ J im X b g):qQ J im X (.If c a b pos) (fN tc f g):=by
 obtain⟨t,p,q⟩:=hc;obtain⟨t1,p1,q1⟩:=ha;obtain⟨t2,p2,q2⟩:=hb;exists 23,Jm p p1 p2;unfold fN at e;cases h:tc ρ with
 |none=>rw[h] at e;cases e
 |some y=>
  rw[h] at e;refine q ok h λH1 s1=>?_
  cases y with
  |true=>rw[if_pos rfl];exact q1 (ok.same s1) e k
  |false=>rw[if_neg abk];exact q2 (ok.same s1) e k
theorem pS:qQ J im X st OM:=⟨_,Rw,@λ_ _ _ _ _ _ _ _ _ _ e _=>by cases e⟩
def qD(f:EF)(J:List Nat:=[0]):SF:=λρ=>match f ρ,jS J ρ with
 |some (r,_),some es=>if aB r=true then some (.rt (.tup (r::es))) else none
 |_,_=>none
theorem pU(he:FP X e f):qQ J im X (.Return (some e) pos) (qD f J):=by
 obtain⟨t,p,q⟩:=he;exists 23,wY p;unfold qD at e
 split at e
 .rename_i r tg es h1 h2
  by_cases hi:aB r=true
  .rw[if_pos hi] at e;cases e;obtain⟨r',gA,ee,k⟩:=k;cases ee;refine q ok h1 λH1 v fp s1 r1 _=>?_
   have hn:=r1.aB hi;subst hn;exact k z ρ σ H1 v [] (ok.same s1) h2 (.refl _ _) r1 acW (λb m=>nomatch m) λ_=>rfl
  .rw[if_neg hi] at e;cases e
 .cases e
def uE(f:XF)(J:List Nat:=[0]):SF:=λρ=>match f ρ with
 |some (r,ρ')=>(jS J ρ').map λes=>.rt (.tup (r::es))
 |none=>none
theorem Rq(he:FZ X e f):qQ J im X (.Return (some e) pos) (uE f J):=by
 obtain⟨t,p,q⟩:=he;exists 23,wY p;unfold uE at e;cases h1:f ρ with
 |none=>rw[h1] at e;cases e
 |some w=>
  rw[h1] at e;obtain⟨es,h2,rfl⟩:=ach.mp e;obtain⟨r',gA,ee,k⟩:=k;cases ee;exact q ok h1 λz' H1 v b_ r1=>k z' w.2 σ H1 v [] b_ h2 (.refl _ _) r1 acW (λb m=>nomatch m) λ_=>rfl
def OC(i:Nat)(J:List Nat:=[0]):SF:=λρ=>match ρ[i]?,jS J ρ with
 |some (some (r,Tag.own)),some es=>if J.contains i=true then none else some (.rt (.tup (r::es)))
 |_,_=>none
theorem NW(i:Nat)(va:VA X i x:=by walk_at "va"):qQ J false X (.Return (some (.Name x p1)) pos) (OC i J):=by
 exists 23,wY va.pe;unfold OC at e
 split at e
 .rename_i r es h1 h0
  by_cases hj:J.contains i=true
  .rw[if_pos hj] at e;cases e
  .rw[if_neg hj] at e;cases e;obtain⟨r',gA,ee,k⟩:=k;cases ee;obtain⟨v,fp,hs,rr,zz⟩:=ok.sl i _ _ h1;refine⟨v,hs,k z ρ σ H v fp ok h0 (.refl _ _) rr zz.1 (λb m=>⟨(ok.zd b i (zz.2 b m)).2,λj mj q=>?_⟩) λq=>nomatch q⟩;rw[zz.2 b m] at q;cases q;exact hj (afd.mpr mj)
 .cases e
end
noncomputable def Bb(n:Nat)(d0:D)(ds:List D):aO:=some (d0,.own)::(ds.map (λd=>some (d,.sh []))++List.replicate (n-(ds.length+1)) none)
def runM(n N:Nat)(b:SF):MF:=λd0 ds=>if ds.length + 1=n then(match b (Bb N d0 ds) with
 |some (.rt (.tup [r,d1]))=>some (r,d1)
 |some (.nx ρ)=>match ρ[0]? with
  |some (some (d1,Tag.own))=>some (.az,d1)
  |_=>none
 |_=>none) else none
theorem adT(h:jS [0] ρ=some [d]):ρ[0]? = some (some (d,.own)):=by
 unfold jS at h
 split at h
 .rename_i d' e;cases h;exact e
 .cases h
def EC(im:Bool)(K:PySem.W.Frag)(G:MF):Sp:=λvs H Q _=>∃v0 ws d0 bI ds f7 r d1,vs=v0::ws/\Rep K H d0 v0 bI/\bI.Nodup/\aC K H ds ws f7/\(∀b∈f7,b∉bI)/\G d0 ds=some (r,d1)/\
 ∀H' v bT cN,aV H H'->(∀b o,b∉bI->H b=some o->H' b=some o)->Rep K H' d1 v0 bT->bT.Nodup->(∀b∈bT,b∈bI\/H b=none)->Rep K H' r v cN->cN.Nodup->(∀b∈cN,(b∈bI\/H b=none)/\b∉bT)->(im=true->cN=[])->Q v H'
section
variable{K:PySem.W.Frag}
theorem WU:∀vs H Q E,dO K G vs H Q E->EC true K G vs H Q E:=by
 rintro _ _ _ _ ⟨a,ws,d0,bI,ds,f7,r,d1,h1,h2,h3,h4,h5,h6,q⟩
 exact⟨.ref a,ws,d0,bI,ds,f7,r,d1,h1,h2,h3,h4,h5,h6,λH' v bT cN a1 a2 a3 a4 a5 a6 _ _ e=>q H' v bT a1 a2 a3 a4 a5 (by rw[<- e rfl];exact a6)⟩
theorem aeX{st:Stmt}(F:jR K x qual st f fd)(S:qK N ps (cT st))(h0:N[0]? = some x0)
  (hb:∀(aX) (A) (outer) (s) (H) (E),bH k (A.deeper (envOfC qual (cT st) s.heap.objs.size f aX))->E3 im ((jm dF P w K mg base N qual (cT st) f aX A outer s H E).gb.kP [x0]) (ie st) b) :
  cE P w K mg base dF (k+1) f fd ps (EC im K (runM ps.length N.length b)):=by
 have r_:∀{d0} {ds} {r},runM ps.length N.length b d0 ds=some r->ds.length+1=ps.length:=λ{d0 ds r} e=>by
  unfold runM at e
  split at e
  .assumption
  .cases e
 refine F.ok S (λvs H Q E h=>?_) λaX A outer s H vs Q E hr h=>?_<;>obtain⟨v0,ws,d0,bI,ds,f7,r,d1,e0,r0,V4,rs,dj,e,q⟩:=h
 .rw[e0,acj,<- rs.length,r_ e]
 .obtain⟨t,pt,sd⟩:=hb aX A outer s H E hr;refine⟨t,pt.kP rfl,?_⟩;have r0':aC K H [d0] [v0] bI:=by have:=aC.cons r0 .nil;rwa [acG] at this
  obtain⟨z,ok⟩:=Ok.lD r0' V4 rs dj;rw[e0];have fin:∀{z} {ρ} {σ} {H'} {v} {cN},Ok K H bI z [] ρ σ H'->ρ[0]? = some (some (d1,.own))->Kp ((jm dF P w K mg base N qual (cT st) f aX A outer s H E).gb.kP [x0]) (start N (v0::ws)) σ->Rep K H' r v cN->cN.Nodup->(∀b∈cN,(H b=none\/b∈bI)/\z b≠some 0)->(im=true->cN=[])->Q v H':=by
   intro z ρ σ H' v cN aW h1 kp rr yC qJ hi;obtain⟨u,bT,hs,r1,zz⟩:=aW.sl 0 d1 .own h1;have hk:=kp 0 _ h0 (by
    show(x0==("self":Str)||(!([x0].contains ("self":Str))&&!(!([x0].contains x0))))=true
    by_cases h:x0=("self":Str)
    .rw[h];rfl
    .simp[afZ h])
   rw[hk] at hs;cases hs;have st:∀{c} {o},H c=some o->jl o=false->H' c=some o:=λ{c o} e' mo=>aW.en c _ e' λm=>by
    obtain⟨o',w,mP⟩:=r0.cG c m;rw[e'] at w;cases w;rw[mo] at mP;cases mP
   exact q H' v bT cN ⟨λc xs e'=>st e' rfl,λc o u e'=>st e' rfl,λc φ e'=>st e' rfl⟩ (λc o n e'=>aW.en c o e' n) r1 zz.1 (λc m=>((aW.zd c 0 (zz.2 c m)).2).symm.imp id id) rr yC (λc m=>⟨(qJ c m).1.symm.imp id id,λm'=>(qJ c m).2 (zz.2 c m')⟩) hi
  have hl:=r_ e;unfold runM at e;rw[if_pos hl] at e;cases ho:b (Bb N.length d0 ds) with
  |none=>rw[ho] at e;cases e
  |some o=>
   rw[ho] at e;refine sd ok ho ?_;cases o with
   |rt p=>
    have hp:p=.tup [r,d1]:=by
     split at e<;>rename_i hh
     .cases e;cases hh;rfl
     .cases hh
     .cases e
    exact⟨r,[d1],hp,λz ρ σ H' v cN aW h1 kp rr nd fr=>fin aW (adT h1) kp rr nd λb m=>⟨(fr b m).1,(fr b m).2 0 aad⟩⟩
   |nx ρ'=>
    exists 68
    split at e
    .rename_i dd h1;cases e;exact λz σ H' aW kp=>fin aW h1 kp .az acW (λb m=>nomatch m) λ_=>rfl
    .cases e
   |bk _=>cases e
   |ct _=>cases e
   |er _ _ _=>cases e
end
noncomputable def dY(f:Str)(d:D):List (Str×D)->List (Str×D)
 |[]=>[(f,d)]
 |(g,x)::r=>if g=f then(g,d)::r else(g,x)::dY f d r
theorem Qq:∀{es} {fs},es.map (·.1)=fs.map (·.1)->(dY f d es).map (·.1)=(fH f v fs).map (·.1)
 |[],[],_=>rfl
 |[],_::_,k=>by simp at k
 |_::_,[],k=>by simp at k
 |(x,d0)::es,(y,v0)::fs,k=>by
  simp only[aao,af2] at k;obtain⟨rfl,k⟩:=k;unfold dY fH
  by_cases hx:x=f
  .rw[if_pos hx,if_pos hx,aao,aao,k]
  .rw[if_neg hx,if_neg hx,aao,aao,Qq k]
theorem Oh:∀{es},es.lookup f=some d0->(dY f d es).map (·.1)=es.map (·.1)
 |[],e=>by cases e
 |(x,d1)::es,e=>by
  unfold dY
  by_cases hx:x=f
  .rw[if_pos hx];rfl
  .have hb:=adz.mpr λq=>hx q.symm
   simp only[List.lookup,hb] at e;rw[if_neg hx,aao,Oh e];rfl
section
variable{K:PySem.W.Frag}
theorem aC.fH(rd:Rep K H d v fd):∀{es} {fs} {g},es.map (·.1)=fs.map (·.1)->aC K H (es.map (·.2)) (fs.map (·.2)) g->
  ∃g',aC K H ((dY f d es).map (·.2)) ((L2.fH f v fs).map (·.2)) g'/\(∀a∈g',a∈g\/a∈fd)/\(g.Nodup->fd.Nodup->(∀a∈fd,a∉g)->g'.Nodup)
 |[],[],_,_,r=>by
  cases r;exact⟨fd++[],.cons rd .nil,λa m=>.inr (by simpa using m),λ_ n _=>by simpa using n⟩
 |[],_::_,_,k,_=>by simp at k
 |_::_,[],_,k,_=>by simp at k
 |(x,d0)::es,(y,v0)::fs,_,k,r=>by
  simp only[aao,af2] at k;obtain⟨rfl,k⟩:=k;cases r with
  | @cons _ _ _ _ f1 f2 r1 r2=>
   unfold dY L2.fH
   by_cases hx:x=f
   .rw[if_pos hx,if_pos hx];refine⟨fd++f2,.cons rd r2,λa m=>(abl.mp m).elim .inr λm=>.inl (aas _ m),λn1 n2 n3=>?_⟩;exact acR.mpr ⟨n2,(acR.mp n1).2.1,λa ma b mb e=>n3 a ma (aas _ (e ▸ mb))⟩
   .rw[if_neg hx,if_neg hx];obtain⟨g',h1,h2,h3⟩:=aC.fH rd k r2;refine⟨f1++g',.cons r1 h1,λa m=>?_,λn1 n2 n3=>?_⟩
    .rcases abl.mp m with m|m
     .exact .inl (abj _ m)
     .exact(h2 a m).imp (aas _) id
    .obtain⟨a1,a2,a3⟩:=acR.mp n1;refine acR.mpr ⟨a1,h3 a2 n2 (λa m q=>n3 a m (aas _ q)),λa ma b mb e=>?_⟩;rcases h2 b mb with q|q
     .exact a3 a ma b q e
     .exact n3 b q (abj _ (e ▸ ma))
theorem aC.place:∀{es}{fs:List (Str×V)} {g},es.map (·.1)=fs.map (·.1)->aC K H (es.map (·.2)) (fs.map (·.2)) g->g.Nodup->es.lookup f=some d0->
  ∃v gf,fs.lookup f=some v/\Rep K H d0 v gf/\gf.Nodup/\(∀a∈gf,a∈g)/\∀(H') (d1) (g1),aV H H'->(∀b o,b∉gf->H b=some o->H' b=some o)->Rep K H' d1 v g1->g1.Nodup->(∀b∈g1,b∈gf\/H b=none)->
   ∃g',aC K H' ((dY f d1 es).map (·.2)) (fs.map (·.2)) g'/\g'.Nodup/\∀b∈g',b∈g\/H b=none
 |[],_,_,_,_,_,e=>by cases e
 |_::_,[],_,k,_,_,_=>by simp at k
 |(x,d)::es,(y,v0)::fs,_,k,r,nd,e=>by
  simp only[aao,af2] at k;obtain⟨rfl,k⟩:=k;cases r with
  | @cons _ _ _ _ f1 f2 r1 r2=>
   obtain⟨a1,a2,a3⟩:=acR.mp nd
   by_cases hx:x=f
   .subst hx;have hb:=aen x;simp only[List.lookup,hb] at e ⊢;cases e;refine⟨v0,f1,rfl,r1,a1,λa m=>abj _ m,λH' d1 g1 im kp rr n1 fr=>?_⟩;refine⟨g1++f2,?_,acR.mpr ⟨n1,a2,λa ma b mb e=>?_⟩,λb m=>?_⟩
    .unfold dY;rw[if_pos rfl];refine .cons rr (r2.frame (λa m=>?_) im);obtain⟨o,w,_⟩:=r2.cG a m;rw[kp a o (λq=>a3 a q a m rfl) w,w]
    .subst e;obtain⟨o,w,_⟩:=r2.cG a mb;rcases fr a ma with q|q
     .exact a3 a q a mb rfl
     .rw[q] at w;cases w
    .rcases abl.mp m with m|m
     .exact(fr b m).imp (abj _) id
     .exact .inl (aas _ m)
   .have hb:=adz.mpr λq=>hx q.symm
    simp only[List.lookup,hb] at e ⊢;obtain⟨v,gf,h1,h2,h3,h4,h5⟩:=aC.place k r2 a2 e;refine⟨v,gf,h1,h2,h3,λa m=>aas _ (h4 a m),λH' d1 g1 im kp rr n1 fr=>?_⟩;obtain⟨g',c1,c2,c3⟩:=h5 H' d1 g1 im kp rr n1 fr;refine⟨f1++g',?_,acR.mpr ⟨a1,c2,λa ma b mb e=>?_⟩,λb m=>?_⟩
    .unfold dY;rw[if_neg hx];refine .cons (r1.frame (λa m=>?_) im) c1;obtain⟨o,w,_⟩:=r1.cG a m;rw[kp a o (λq=>a3 a m a (h4 a q) rfl) w,w]
    .subst e;obtain⟨o,w,_⟩:=r1.cG a ma;rcases c3 a mb with q|q
     .exact a3 a ma a q rfl
     .rw[q] at w;cases w
    .rcases abl.mp m with m|m
     .exact .inl (abj _ m)
     .exact(c3 b m).imp (aas _) id
theorem Rep.O3(r:Rep K H (.ins cn es) v fp)(hn:PySem.W.nsIn K mainGlobals cn=some (some (.ref C)))(nd:fp.Nodup)(e:es.lookup f=some d0):
  ∃a dx fs u gf,(a∉gf/\dx∉gf)/\v=.ref a/\H a=some (.ins C dx fs)/\fs.lookup f=some u/\Rep K H d0 u gf/\gf.Nodup/\(∀b∈gf,b∈fp)/\∀(H':Hp) (d1) (g1),aV H H'->(∀b o,b∉gf->H b=some o->H' b=some o)->Rep K H' d1 u g1->g1.Nodup->(∀b∈g1,b∈gf\/H b=none)->
   ∃bT,Rep K H' (.ins cn (dY f d1 es)) v bT/\bT.Nodup/\∀b∈bT,b∈fp\/H b=none:=by
 obtain⟨a,dx,fs,g,rfl,rfl,h1,h2,h3,h4⟩:=r.n8 hn;obtain⟨n1,n2⟩:=ab4.mp nd;obtain⟨n3,n4⟩:=ab4.mp n2;obtain⟨u,gf,c1,c2,c3,c4,c5⟩:=aC.place h3 h4 n4 e;refine⟨a,dx,fs,u,gf,⟨λm=>n1 (aab _ (c4 _ m)),λm=>n3 (c4 _ m)⟩,rfl,h1,c1,c2,c3,λb m=>aab _ (aab _ (c4 b m)),λH' d1 g1 im kp rr m1 fr=>?_⟩;obtain⟨g',e1,e2,e3⟩:=c5 H' d1 g1 im kp rr m1 fr;have ka:=kp a _ (λq=>n1 (aab _ (c4 a q))) h1;have kd:=kp dx _ (λq=>n3 (c4 dx q)) h2;refine⟨a::dx::g',.ins hn ka kd (by rw[Oh e];exact h3) e1,?_,λb m=>?_⟩
 .refine ab4.mpr ⟨λm=>?_,ab4.mpr ⟨λm=>?_,e2⟩⟩
  .rcases aaA.mp m with q|m
   .exact n1 (by rw[q];exact aad)
   .rcases e3 a m with q|q
    .exact n1 (aab _ q)
    .rw[h1] at q;cases q
  .rcases e3 dx m with q|q
   .exact n3 q
   .rw[h2] at q;cases q
 .rcases aaA.mp m with q|m
  .exact .inl (by rw[q];exact aad)
  .rcases aaA.mp m with q|m
   .exact .inl (by rw[q];exact aab _ aad)
   .exact(e3 b m).imp (λq=>aab _ (aab _ q)) id
theorem Rep.place(r:Rep K H (.ins cn es) v fp)(hn:PySem.W.nsIn K mainGlobals cn=some (some (.ref C)))(nd:fp.Nodup)(e:es.lookup f=some d0):
  ∃a dx fs u gf,v=.ref a/\H a=some (.ins C dx fs)/\fs.lookup f=some u/\Rep K H d0 u gf/\gf.Nodup/\(∀b∈gf,b∈fp)/\∀(H') (d1) (g1),aV H H'->(∀b o,b∉gf->H b=some o->H' b=some o)->Rep K H' d1 u g1->g1.Nodup->(∀b∈g1,b∈gf\/H b=none)->
   ∃bT,Rep K H' (.ins cn (dY f d1 es)) v bT/\bT.Nodup/\∀b∈bT,b∈fp\/H b=none:=
 let⟨a,dx,fs,u,gf,_,h⟩:=r.O3 hn nd e;⟨a,dx,fs,u,gf,h⟩
end
theorem Ok.fld{K:PySem.W.Frag}(hC:ClsAt K cn C)(ok:Ok K H0 S z aq ρ σ H)(h:ρ[i]? = some (some (.ins cn es,.own)))
  (hs:σ[i]? = some (some (.ref b))) (hb:H b=some (.ins C dx fs)) (s1:aJ H H1) (r1:Rep K H1 d y fd) (nd:fd.Nodup) (fr:∀c∈fd,H c=none):∃z',Ok K H0 S z' aq (bQ ρ i (.ins cn (dY f d es))) σ (upd H1 b (.ins C dx (L2.fH f y fs))):=by
 obtain⟨v,bI,bR,r0,zz⟩:=ok.sl i _ _ h;rw[hs] at bR;cases bR;obtain⟨b',xh,vv,g,e,rfl,h3,h4,h5,h6⟩:=(r0.same s1).n8 hC.ns;cases e;rw[s1 _ _ hb] at h3;cases h3;have h3:=s1 _ _ hb;have qM:∀c∈fd,c∉b::dx::g:=λc m n=>by
  obtain⟨⟨o,w⟩,_⟩:=ok.zd c i (zz.2 c n);rw[fr c m] at w;cases w
 have me:b∈b::dx::g:=aad;have md:dx∈b::dx::g:=aab _ aad;have mg:∀{c},c∈g->c∈b::dx::g:=λm=>aab _ (aab _ m)
 obtain⟨n1,n2⟩:=ab4.mp zz.1;obtain⟨n3,n4⟩:=ab4.mp n2;have ne:∀{c},c∈g->c≠b:=λm q=>n1 (q ▸ aab _ m)
 have im:aV H1 (upd H1 b (.ins C dx (L2.fH f y fs))):=aV.upd h3 rfl;obtain⟨g',c1,c2,c3⟩:=aC.fH (r1.frame (λc m=>aP λq:c=b=>qM c m (q ▸ me)) im) h5 (h6.frame (λc m=>aP (ne m)) im);have out:∀{c},c∈g'->c∈g\/c∈fd:=λ{c} m=>c2 c m
 refine ok.put h hs zz ((aV.of s1).trans im) (λc o n e=>by rw[aP λq:c=b=>n (q ▸ me)];exact s1 c o e) (.ins hC.ns cD (by rw[aP λq:dx=b=>n1 (q ▸ aad)];exact h4) (Qq h5) c1) ?_ λc m=>?_
 .refine ab4.mpr ⟨λm=>?_,ab4.mpr ⟨λm=>(out m).elim n3 λq=>qM dx q md,c3 n4 nd λc m n=>qM c m (mg n)⟩⟩;rcases aaA.mp m with q|m
  .exact n1 (q ▸ aad)
  .exact(out m).elim (λq=>n1 (aab _ q)) λq=>qM b q me
 .rcases aaA.mp m with q|m
  .exact .inl (q ▸ me)
  .rcases aaA.mp m with q|m
   .exact .inl (q ▸ md)
   .exact(out m).imp mg (fr c)
def yI(i:Nat)(cn f:Str)(fv:EF):SF:=λρ=>match fv ρ,ρ[i]? with
 |some (d,t),some (some (.ins c es,.own))=>if c=cn/\es.length<1000/\(jV t||aB d)=true then some (.nx (bQ ρ i (.ins c (dY f d es)))) else none
 |_,_=>none
theorem fU(i:Nat)(hC:ClsAt X.K cn C)(na:jk X.K C f)(hv:FP X a fv)(va:VA X i x:=by walk_at "va")(hs:swapsWith a (some (.Attribute (.Name x p1) f pos')) pos.line X.env=pure false:=by rfl):fC X (.Assign [.Attribute (.Name x p1) f pos'] a pos) (yI i cn f fv):=by
 obtain⟨t,p,q⟩:=hv;exists 23,aby va.pe p hs;unfold yI at e
 split at e
 .rename_i d tg c es h1 h2
  by_cases hc:c=cn/\es.length<1000/\(jV tg||aB d)=true
  .rw[if_pos hc] at e;cases e;obtain⟨rfl,hl,ho⟩:=hc;obtain⟨v,bI,bR,r0,zz⟩:=ok.sl i _ _ h2;refine q ok h1 λH1 y fd s1 r1 g1=>⟨v,bR,?_⟩
   obtain⟨b,dx,fs,g,rfl,rfl,h3,h4,h5,h6⟩:=r0.n8 hC.ns;have lf:fs.length<1000:=by have:=congrArg List.length h5;exists 64;lia
   refine⟨b,C,dx,fs,rfl,s1 _ _ h3,hC.cl,na,lf,?_⟩;have g:fd.Nodup/\∀a∈fd,H a=none:=by
    rcases(ag4 _ _).mp ho with h|h
    .cases tg<;>first|exact g1|cases h
    .rw[r1.aB h];exact⟨acW,λc m=>nomatch m⟩
   obtain⟨z',aW⟩:=ok.fld hC h2 bR h3 s1 r1 g.1 g.2;exact k z' σ _ aW (.refl _ _)
  .rw[if_neg hc] at e;cases e
 .cases e
noncomputable def pY:D->Option D
 |.int i=>some (.int (-i))
 |_=>none
theorem z_(ha:FP X a fa):FP X (.UnaryOp .USub a pos) (e1 pY fa):=by
 obtain⟨t,pa,q⟩:=ha;exists 21,Us US pa;obtain⟨d1,t1,g1,g2,rfl⟩:=v8 e;refine q ok g1 λH1 x f1 s1 r1 _=>?_
 cases r1<;>cases g2
 exact⟨_,rfl,k H1 _ [] s1 (.int _) .nil⟩
theorem V6(hm:X.mg x=some (.int n tk))(hg:GD X x:=by exact⟨rfl,by decide⟩):FP X (.Name x pos) (eC (.int n)):=
 ⟨_,M_ hg.1 hm (v:=.int n) ⟨_,rfl⟩ hg.2,@λ_ _ _ _ _ _ H _ _ _ _ e q=>by cases e;exact q H _ _ (aJ.refl H) (.int n) .nil⟩
noncomputable def Ec(o o':D->D->Option D)(fa fb fc:EF):EF:=λρ=>match fa ρ,fb ρ with
 |some (d1,_),some (d2,_)=>match o d1 d2 with
  |some (.bl true)=>match fc ρ with
   |some (d3,_)=>(o' d2 d3).map λd=>(d,.own)
   |none=>none
  |some (.bl false)=>some (.bl false,.own)
  |_=>none
 |_,_=>none
theorem acd(ho:di X (compareOp op) r)(l8:di X (compareOp zo) r')(dd:gq X.K r o)(qY:gq X.K r' o')(ha:FP X a fa)(hb:FP X b fb)(hc:FP X c fc)(hm:lastMarks [op,zo] [b,c]=false:=by with_unfolding_all rfl):
  FP X (.Compare a [op,zo] [b,c] pos) (Ec o o' fa fb fc):=by
 exists 46;obtain⟨tc,pc,sc⟩:=hc;exists 21,X6 ho l8 pa pb pc hm;unfold Ec at e
 split at e
 .rename_i d1 t1 d2 t2 e1 e2;refine sa ok e1 λH1 x f1 s1 r1 _=>?_
  refine sb (ok.same s1) e2 λH2 y f2 s2 r2 _=>?_
  exists h,o d1 d2,w,e,0;refine dd H2 x y d1 d2 f1 f2 w _ (r1.same s2) r2 h λH3 u s3 r3=>?_
  rw[h] at e;cases w<;>try (cases e;done)
  rename_i b';cases r3;refine⟨b',rfl,?_⟩;cases b' with
  |false=>
   cases e;rw[if_neg abk];exact k H3 _ [] ((s1.trans s2).trans s3) (.bl false) .nil
  |true=>
   rw[if_pos rfl];exists 68;exists h3,fc ρ,w3,e,0;obtain⟨d3,t3⟩:=w3;rw[h3] at e;exists 68;cases h4:o' d2 d3 with
   |none=>rw[h4] at e;cases e
   |some d4=>
    rw[h4] at e;cases e;refine sc (((ok.same s1).same s2).same s3) h3 λH4 w' f4 s4 r4 _=>?_
    exact qY H4 y w' d2 d3 f2 f4 d Q ((r2.same s3).same s4) r4 h4 λH5 v5 s5 r5=>k H5 v5 [] ((((s1.trans s2).trans s3).trans s4).trans s5) r5 .nil
 .cases e
theorem Vq(ha:FP X a fa)(hb:FP X b fb)(hc:FP X c fc)(hm:lastMarks [.LtE,.LtE] [b,c]=false:=by with_unfolding_all rfl):FP X (.Compare a [.LtE,.LtE] [b,c] pos) (Ec oLe oLe fa fb fc):=acd Dy Dy tu tu ha hb hc hm
def kC(neg:Bool):D->D->Option D:=λkd dd=>match dd with
 |.bf es=>(iu kd).map λk=>.bl (if neg=true then !(aS es k).isSome else(aS es k).isSome)
 |_=>none
def Fc(neg:Bool):R2:=λy x H Q=>∃a o,x=.ref a/\gj H a y o/\Q (.bl (if neg=true then !o.isSome else o.isSome)) H
theorem Ag{K:PySem.W.Frag}:gq K (Fc neg) (kC neg):=by
 intro H y x d1 d2 f1 f2 d Q r1 r2 e k;cases r2 with
 | @bf a ak es fp h hk rs=>
  have e:((iu d1).map λk=>D.bl (if neg=true then !(aS es k).isSome else(aS es k).isSome))=some d:=e;exists tS,iu d1,key,e;cases e;have ek:=r1.key tS;subst ek;have ev:(eX ak key).isSome=(aS es key).isSome:=by
   obtain⟨h1,h2⟩:=mY hk rs;cases hv:aS es key with
   |none=>rw[h2 hv];rfl
   |some dv=>obtain⟨v,f,jP,_⟩:=h1 dv hv;rw[jP];rfl
  refine⟨a,eX ak key,rfl,gj.k h,?_⟩;rw[ev];exists 49
 |_=>cases e
theorem KS(hu:X.A.units+1<cLine)(ha:FP X a fa)(hb:FP X b fb)(hm:behindInMarks .In b=false:=by rfl):FP X (.Compare a [.In] [b] pos) (e2 (kC false) fa fb):=
 fp_2 Ag ha hb λta tb pa pb=>PU (NY hu pa pb) hm
theorem GR(hu:X.A.units+1<cLine)(ha:FP X a fa)(hb:FP X b fb)(hm:behindInMarks .In b=false:=by rfl):FT X (.Compare a [.In] [b] pos) (tV (e2 (kC false) fa fb)):=by
 exists 46;exists 22,NN (t:=uf (Fc false) ta tb) (NY hu pa pb) hm;obtain⟨tg,e0⟩:=Aq e;obtain⟨d1,t1,d2,t2,e1,h_,e3,rfl⟩:=oZ e0;exists 66
 exists 47
 refine Ag H2 x y d1 d2 f1 f2 _ _ (r1.same s2) r2 e3 λH3 v s3 r3=>?_
 cases r3;exact⟨c,rfl,k H3 ((s1.trans s2).trans s3)⟩
def By(i:Nat)(cn f:Str)(fv:EF):SF:=λρ=>match fv ρ,ρ[i]? with
 | some (d,_),some (some (.ins c es,.own))=>if c=cn then(match es.lookup f with
  |some (.lst ds)=>if(aB d&&aL ds&&decide (ds.length<sizeLine))=true then some (.nx (bQ ρ i (.ins c (dY f (.lst (ds++[d])) es)))) else none
  |_=>none) else none
 |_,_=>none
theorem BL(i:Nat)(hC:ClsAt X.K cn C)(na:jk X.K C f)(hv:FP X a fv)(va:VA X i x:=by walk_at "va")(hs:Y2 X a:=by rfl)
  (hb:attributeBase (.Name x p) f X.env (eval (.Name x p) X.env)=eval (.Name x p) X.env:=by rfl)
  (iQ:attributeBase (.Attribute (.Name x p) f p1) "append" X.env (eval (.Attribute (.Name x p) f p1) X.env)=eval (.Attribute (.Name x p) f p1) X.env:=by rfl)
  (iW:((backTo p3 (starEach [a] X.env)).all (λx=>!x.1)&&(backToKw p3 (keywordEach [] X.env)).all (λx=>x.1.isSome)&&decide ([a].length+([]:List Keyword).length+(if([]:List Keyword).isEmpty then 0 else 1)<30))=true:=by rfl)
  (iS:(p2.endLine==p3.line)=true:=by rfl) (iY:swapsWith (.Call (.Attribute (.Attribute (.Name x p) f p1) "append" p2) [a] [] p3) none pos.line X.env=pure false:=by rfl) :
  fC X (.Expr (.Call (.Attribute (.Attribute (.Name x p) f p1) "append" p2) [a] [] p3) pos) (By i cn f fv):=by
 obtain⟨tv,jF,sv⟩:=hv;exists 25,wX (vO PySem.F.plainAttrs_list PySem.F.slot_list_append PySem.F.type_list_append BB (tY va.pe hb) (d8 jF fY hs) iQ iW iS hs rfl) iY;unfold By at e
 split at e
 .rename_i d td c es g1 g2
  by_cases hc:c=cn
  .subst hc;rw[if_pos rfl] at e
   split at e
   .rename_i ds hl;obtain⟨hc,e⟩:=ci e;cases e;obtain⟨c1,c3⟩:=(aaV _ _).mp hc;obtain⟨c1,c2⟩:=(aaV _ _).mp c1;obtain⟨xv,fp,bR,r,zz⟩:=ok.sl i _ _ g2;refine⟨xv,bR,?_⟩;exists 60;refine⟨b0,C,dx,fs,u,rfl,h1,hC.cl,na,h2,?_⟩;obtain⟨l,xs,f0,rfl,hq,_,_⟩:=h3.dD;exists 70;refine sv ok g1 λH1 v fd s1 rv gv=>?_
    have hn:=rv.aB c1;subst hn;generalize hw:(V.ref l)=w at h3 h6;cases h3 with
    | @lst a' ys _ f' h rs=>
     cases hw;have hn:=rs.aB c2;subst hn;have uJ:=s1 _ _ h;refine⟨_,ys,v,rfl,rfl,uJ,by rw[<- rs.length];exact aaC c3,?_⟩;have im:aV H1 (upd H1 l (.lst (ys++[v]))):=aV.upd uJ rfl;obtain⟨bT,k1,k2,k3⟩:=h6 (upd H1 l (.lst (ys++[v]))) (.lst (ds++[d])) [l] ((aV.of s1).trans im) (λc o n e=>by rw[aP λq=>n (by rw[q];exact aad)];exact s1 c o e)
      (.lst cD (aC.append ((rs.same s1).frame (λa m=>nomatch m) im) (aC.cons (rv.frame (λa m=>nomatch m) im) .nil))) h4 (λc m=>.inl m)
     exists 51;exact q z' σ _ aW (.refl _ _)
   .cases e
  .rw[if_neg hc] at e;cases e
 .cases e
end L2.Ev
namespace L2
open PySem PySem.Spec PyProof.Rows
def CN(K:PySem.W.Frag)(l:Addr):It:=
  ⟨λi H=>∃xs x,bX K H l xs/\xs[i]? = some x,
   λi H v H'=>∃T x,H T=none/\v=.ref T/\H'=upd H T (.tup [.int i,x])/\∀xs,bX K H l xs->xs[i]? = some x,
   λi H=>∃xs,bX K H l xs/\xs.length<=i,false⟩
def Te(e it l:Addr)(i:Nat)(h:Heap):Prop:=(∃old,IsEnum h e it i old)/\h.IsListIter it l i
theorem Wr{K:PySem.W.Frag}{x1}(nZ:e≠it):
  Turn P w K (.Tuple elts x1 pos) (CN K l) [e,it] e (Te e it l) where
 mem:=by simp
 obj:=λi h st b hb=>by
  obtain⟨⟨old,s1⟩,⟨o4,e4,c4,d4⟩⟩:=st;simp only[aaA,adB,agr] at hb;rcases hb with rfl|rfl
  .exact⟨_,s1,λv q=>by cases q⟩
  .exact⟨o4,e4,λv q=>by rw[d4] at q;cases q⟩
 keep:=λi h h' st k=>by
  obtain⟨⟨old,s1⟩,s4⟩:=st;exact⟨⟨old,k _ (by simp) _ s1⟩,s4.at λo e=>k _ (by simp) o e⟩
 item:=by
  exists 40;subst hP hw hK;obtain⟨⟨old,s1⟩,s4⟩:=st;obtain⟨xs,x,q1,e1⟩:=hg;obtain⟨us,v1,p1,z1⟩:=I.list q1;obtain⟨u,hu,ru⟩:=v1.get e1;refine wpAny_pyNext_enum_item s1 s4 p1.isList (by simpa using hu) nZ λh' a1 a2 a3 a4 a5=>⟨_,rfl,?_⟩
  refine wpAny_letOwnedTupleGo_enum a1 λrq b1 b2=>?_
  have lz:=ab2 s1;have nz:=af5 lz;have T2:=b2.extBut _ _ nz a3;have nT:=I.aK.fresh (abL _);have I1:Inv X ah σ (upd H s.heap.objs.size (.tup [.int i,x])) { s with heap:=rq,toks:=s.toks + 1 }:=I.LV (λb m=>hf b m) (λb o m q=>by
    simp only[aaA,adB,agr,not_or] at m;exact b2.extBut _ _ m.1 (a5 b o m.1 m.2 q)) (abL _) (show dM X.prog X.w _ rq _ (.tup [.int i,x]) from⟨show 2<=sizeLine by unfold sizeLine;omega,[.int i s.toks,u],.cons ⟨_,rfl⟩ (.cons ru .nil),⟨_,T2,rfl,rfl,_,rfl⟩⟩)
  refine⟨.ref s.heap.objs.size,_,I1,rfl,⟨_,x,nT,rfl,rfl,λRU h=>by rw[I.CK h q1];exact e1⟩,?_,λb m=>?_⟩
  .exact⟨⟨u,b1⟩,a2.at λo q=>b2.extBut _ o (afZ nZ) q⟩
  .rw[aP]
   .exact(hf b m).1
   .rintro rfl
    obtain⟨o4,e4,_⟩:=id s4;simp only[aaA,adB,agr] at m;rcases m with m|m
    .exact nz m
    .exact absurd (ab2 e4) (by rw[<- m];exact afe _)
 done:=by
  exists 40;subst hP hw hK;obtain⟨⟨old,s1⟩,s4⟩:=st;obtain⟨xs,q1,e1⟩:=hg;obtain⟨us,v1,p1,z1⟩:=I.list q1;have l1:=v1.length;refine wpAny_pyNext_enum_end (I.ok.hd (hc.resolve_right λz=>abk z)) s1 s4 p1.isList (by simp;omega) λh' k=>⟨rfl,I.F3 (ch:=[it]) (λb m=>hf b (by
    simp only[aaA,adB,agr] at m ⊢;exact .inr m)) λb o m q=>?_⟩
  simp only[aaA,adB,agr] at m;exact k b o m q
 self:=λ_ _ _ _ _ st h=>let⟨⟨_,s1⟩,_⟩:=st;wpAny_pyIter_enum s1 h
theorem boot_enumerate:bootBuiltins "enumerate"=some (.type "enumerate"):=by decide +kernel
def VT(K:PySem.W.Frag)(ta:TA):TI:=λσ H R=>ta σ H λvs H1=>∃l xs,vs=[.ref l]/\bX K H1 l xs/\R (CN K l) H1
theorem Y5{x1}(hg:Gl X "enumerate")(hm:X.mg "enumerate"=none)(ha:PA X [a] ta)(hs:Y2 X a:=by rfl):
  PI X (.Tuple elts x1 tp) (.Call (.Name "enumerate" p) [a] [] pos) (VT X.K ta):=by
 intro ah s σ H R I h;refine afS (pJ I hg hm boot_enumerate (af0 (ha.n I h λus s1 vs H1 I1 r1 q1=>?_) (by rw[hs];rfl) rfl));obtain⟨l1,xs,rfl,h1,q⟩:=q1;obtain⟨u,rfl,ru⟩:=r1.one;cases ru;obtain⟨us,v1,p1,z1⟩:=I1.list h1;refine call_enumerate_list p1.isList λh' g1 g2 g3 k=>?_
 refine wpAny_pyIter_enum g1 ?_;refine⟨_,_,_,_,H1,rfl,I1.kept k,Wr (af5 (agl _)),⟨⟨_,g1⟩,g2⟩,λc hc=>?_,q⟩;have up:∀j,iE X ah H1 (s1.heap.objs.size+j):=λj=>I1.rH (Nat.le_add_right _ _) (I1.aK.fresh (Nat.le_add_right _ _))
 simp only[aaA,adB,agr] at hc;rcases hc with rfl|rfl
 .exact up 1
 .exact up 0
def adK:V->List V->Hp->VK->Prop:=λx vs H Q=>∃(l:Addr) (ns:List Int) (n:Int),x=.ref l/\vs=[.int n]/\H l=some (.lst (ns.map V.int))/\n∈ns/\Q .az (upd H l (.lst ((ns.erase n).map V.int)))
noncomputable def Yj(n:Int):Value->Bool
 |.int a _=>a==n
 |_=>false
theorem D0{ns:List Int}(r:aU (ns.map V.int) us)(h:m<us.length)(h2:m<ns.length):∃t,us[m]=.int ns[m] t:=by
 obtain⟨u,hu,ru⟩:=r.get (by rw[acn,aa9 h2];rfl);rw[aa9 h] at hu;obtain⟨t,rt⟩:=ru;exact⟨t,by rw[<- rt];exact acf hu⟩
theorem Ph:∀{ns:List Int} {n} {m} (h:m<ns.idxOf n) (h2),ns[m]≠n
 |[],_,_,_,h2=>absurd h2 (Nat.not_lt_zero _)
 |a::ns,n,m,h,h2=>by
  rw[List.idxOf_cons] at h
  by_cases ha:(a==n)=true
  .rw[ha] at h;exact absurd h (Nat.not_lt_zero _)
  .have ha:(a==n)=false:=by simpa using ha
   rw[ha] at h;cases m with
   |zero=>exact adz.mp ha
   |succ m=>exact Ph (Nat.lt_of_succ_lt_succ h) (Nat.lt_of_succ_lt_succ h2)
theorem Ym{l:List α}:(l.map f).eraseIdx k=(l.eraseIdx k).map f:=by
 rw[List.eraseIdx_eq_take_drop_succ,List.eraseIdx_eq_take_drop_succ,adp,List.map_take,List.map_drop]
theorem aeV:CJ X "list.remove" adK:=by
 intro ah s σ H x vs v us Q I rx rv h;obtain⟨l,ns,n,rfl,rfl,hH,hn,q⟩:=h;cases rx;obtain⟨u,rfl,ru⟩:=rv.one;obtain⟨t,rfl⟩:=ru;obtain⟨z,ay,nn,r,hl,e⟩:=I.uP hH;have hi:ns.idxOf n<ns.length:=List.idxOf_lt_length_of_mem hn;rw[List.length_map] at hl z;have hj:ns.idxOf n<ay.toArray.size:=by rw[ab5];lia
 refine call_meets F.slot_list_remove ⟨_,e,rfl⟩ F.entry_list_remove (F.args_list_remove_2 _ _)
  (MeetsSeq.list_remove l ay.toArray nn (.int n t) (Yj n) (λy my=>?_) (ns.idxOf n) hj ?_ (λm hm h2=>?_) (by rw[ab5];lia)) ⟨e,?_⟩
 .obtain⟨m,hm,em⟩:=Array.mem_iff_getElem.mp my;rw[ab5] at hm;rw[List.getElem_toArray] at em;obtain⟨t',et⟩:=D0 r hm (by lia);rw[<- em,et];exact MeetsSeq.EqGives.int _ _ _ _
 .rw[List.getElem_toArray];obtain⟨t',et⟩:=D0 r (by lia) hi;rw[et];rw[List.getElem_idxOf hi];exact aen n
 .rw[List.getElem_toArray];rw[ab5] at hm;obtain⟨t',et⟩:=D0 r hm (by lia);rw[et];exact adz.mpr (Ph h2 (by lia))
 .refine⟨.az,_,I.HZ (its':=ay.eraseIdx (ns.idxOf n)) hH e ?_ ?_ ?_,rfl,q⟩
  .show ay.toArray.eraseIdxIfInBounds _=(ay.eraseIdx _).toArray;rw[List.eraseIdxIfInBounds_toArray]
  .rw[List.erase_eq_eraseIdx_of_idxOf rfl,<- Ym];exact r.eraseIdx _
  .rw[List.length_map];have:=List.length_erase_le (a:=n) (l:=ns)
   lia
end L2
namespace L2.Ev
open PySem PySem.Spec PyProof.Rows
noncomputable def CC(env:Env):Str×NameKind->Str×NameKind:=λ(n,k)=>if(k==NameKind.free&&env.scope.kind == .function&&env.kindOf n==some .cell) then(n,NameKind.cell) else(n,k)
theorem Ov:∀{names:List (Str×NameKind)} {x},(names.lookup x=some .cell\/names.lookup x=some .free)->(names.map (CC env)).lookup x=some .cell\/(names.map (CC env)).lookup x=some .free
 |[],_,h=>by simp at h
 |(n,k)::r,x,h=>by
  rw[aao];have e:CC env (n,k)=(n,.cell)\/CC env (n,k)=(n,k):=by
   show(if(k==NameKind.free&&env.scope.kind == .function&&env.kindOf n==some .cell)=true then(n,NameKind.cell) else(n,k))=_\/(if(k==NameKind.free&&env.scope.kind == .function&&env.kindOf n==some .cell)=true then(n,NameKind.cell) else(n,k))=_
   split
   .exact .inl rfl
   .exact .inr rfl
  cases hx:x==n with
  |true=>
   simp only[aeg,hx] at h;rcases e with e|e<;>rw[e]<;>simp only[aeg,hx]
   .exact .inl trivial
   .exact h
  |false=>
   simp only[aeg,hx] at h;have ih:=Ov (env:=env) h;rcases e with e|e<;>rw[e]<;>simp only[aeg,hx]<;>exact ih
theorem Xp(h:xZ M0 OS sc M js=true):oS (fT X M0 OS s3 H3 fp) M js sc:=by
 unfold xZ at h;obtain⟨h,a6⟩:=(aaV _ _).mp h;obtain⟨h,a5⟩:=(aaV _ _).mp h;obtain⟨h,a4⟩:=(aaV _ _).mp h;obtain⟨h,a3⟩:=(aaV _ _).mp h;obtain⟨a1,a2⟩:=(aaV _ _).mp h;refine⟨?_,λy hy=>?_,λy hy hl=>?_,a4,λx hx=>?_,aaC a6⟩
 .cases hk:sc.kind<;>rw[hk] at a1<;>first|rfl|exact absurd a1 (by decide)
 .have:=adt.mp a2 y hy;intro z;rw[z] at this;exact absurd this (by decide)
 .have:=adt.mp a3 y hy;rw[hl] at this;have this:=this;cases q:sc.names.lookup y.1 with
  |none=>rw[q] at this;exact absurd this (by decide)
  |some k=>rw[q] at this;cases k<;>first|rfl|exact absurd this (by decide)
 .have:=adt.mp a5 x hx;refine Ov ?_;cases q:OS.names.lookup x with
  |none=>rw[q] at this;exact absurd this (by decide)
  |some k=>rw[q] at this;cases k<;>first|exact .inl rfl|exact .inr rfl|exact absurd this (by decide)
def wV(i:Nat)(fv:EF):SF:=λρ=>match fv ρ,ρ[i]? with
 |some (.int n,_),some (some (.lst ds,.own))=>match eN ds with
  |some ns=>if n∈ns then some (.nx (bQ ρ i (.lst ((ns.erase n).map D.int)))) else none
  |none=>none
 |_,_=>none
theorem Rv:∀{ds} {ns},eN ds=some ns->ds=ns.map D.int
 |[],_,e=>by cases e;rfl
 |d::ds,ns,e=>by
  cases d<;>try (cases e;done)
  rename_i i;unfold eN at e;exists h,eN ds,r,e;cases e;rw[Rv h];rfl
theorem XI(i:Nat)(hv:FP X a fv)(va:VA X i x:=by walk_at "va")(hs:Y2 X a:=by rfl)
  (iQ:attributeBase (.Name x p1) "remove" X.env (eval (.Name x p1) X.env)=eval (.Name x p1) X.env:=by rfl)
  (iW:((backTo p3 (starEach [a] X.env)).all (λx=>!x.1)&&(backToKw p3 (keywordEach [] X.env)).all (λx=>x.1.isSome)&&decide ([a].length+([]:List Keyword).length+(if([]:List Keyword).isEmpty then 0 else 1)<30))=true:=by rfl)
  (iS:(p2.endLine==p3.line)=true:=by rfl) (iY:swapsWith (.Call (.Attribute (.Name x p1) "remove" p2) [a] [] p3) none pos.line X.env=pure false:=by rfl) :
  fC X (.Expr (.Call (.Attribute (.Name x p1) "remove" p2) [a] [] p3) pos) (wV i fv):=by
 obtain⟨tv,jF,sv⟩:=hv;exists 25,wX (vO PySem.F.plainAttrs_list PySem.F.slot_list_remove PySem.F.type_list_remove aeV va.pe (d8 jF fY hs) iQ iW iS hs rfl) iY;unfold wV at e
 split at e
 .rename_i n td ds g1 g2;exists hI,eN ds,ns,e;exists 68;obtain⟨hc,e⟩:=ci e;cases e;have:=Rv hI;subst this;obtain⟨xv,fp,bR,r,zz⟩:=ok.sl i _ _ g2;refine⟨xv,bR,?_⟩;obtain⟨l,xs,f,rfl,hq,_,_⟩:=r.dD;exists 70;refine sv ok g1 λH1 v fd s1 rv gv=>?_
  cases rv;have r':=r.same s1;have b_:=ok.same s1;generalize hw:(V.ref l)=w at r' bR;cases r' with
  | @lst a' ys _ f' h rs=>
   cases hw;have ey:=r6 rs hI;subst ey;have hn:=rs.aB (e_ ns);subst hn;refine⟨_,ns,n,rfl,rfl,h,hc,?_⟩;have im:aV H1 (upd H1 l (.lst ((ns.erase n).map V.int))):=aV.upd h rfl;exact q z σ _ (Ok.B5 b_ g2 bR zz aad h rfl (.lst cD (yY _))) (.refl _ _)
 .cases e
def pP(fa fh:EF):EF:=λρ=>match fa ρ,fh ρ with
 |some (.lst ds,_),some (.int i,_)=>if aL ds=true then some (.lst (cutD ds none (some i)),.own) else none
 |_,_=>none
theorem C6(ha:FP X a fa)(hh:FP X b fh):FP X (.Subscript a (.Slice none (some b) none p2) pos) (pP fa fh):=by
 exists 61;obtain⟨th,ph,qh⟩:=hh;exists 21,E8 Di p Ge (DV ph);unfold pP at e
 split at e
 .rename_i ds t1 i t2 e1 e2;exists 73;cases e;refine q ok e1 λH1 x f1 s1 r1 _=>?_
  refine qh (ok.same s1) e2 λH2 y f2 s2 r2 _=>?_
  cases r2;refine⟨i,rfl,?_⟩;obtain⟨w,xs,f,rfl,hq,rs,_⟩:=(r1.same s2).dD;have hn:=rs.aB hi;subst hn;refine⟨w,xs,rfl,hq,λp hp=>?_⟩;have s3:aJ H2 (upd H2 p (.lst (k9 xs none (some i)))):=λb o e=>by rw[aP (cV e hp)];exact e
  have rr:aC X.K H2 (cutD ds none (some i)) (k9 xs none (some i)) []:=by
   unfold cutD k9;rw[rs.length];exact aC.Be _ (aC.BP _ rs)
  refine k _ _ [p] ((s1.trans s2).trans s3) (.lst cD (rr.same s3)) ⟨ab4.mpr ⟨(λm=>by cases m),acW⟩,λa m=>?_⟩;cases aaU.mp m;exact s1.free (s2.free hp)
 .cases e
theorem Rk(h:l.Nodup):(b7 l).Pairwise (· < ·):=by
 have n:=(qI l).nodup_iff.mpr h;exact(List.Pairwise.and (Bs l) n).imp λ⟨a,b⟩=>Int.lt_iff_le_and_ne.mpr ⟨a,b⟩
noncomputable def F8(i j:Nat):GF:=λd t ρ=>match d,t with
 |.tup [d1,d2],.sh o=>some ((ρ.set i (some (d1,.sh o))).set j (some (d2,.sh o)))
 |_,_=>none
theorem Va{i j:Nat}{d:D}{t:Tag}{ρ ρ':aO}(e:F8 i j d t ρ=some ρ'):∃d1 d2 o,d=.tup [d1,d2]/\t=.sh o/\ρ'=(ρ.set i (some (d1,.sh o))).set j (some (d2,.sh o)):=by
 unfold F8 at e
 split at e
 .cases e;exact⟨_,_,_,rfl,rfl,rfl⟩
 .cases e
theorem Ok.OQ{K:PySem.W.Frag}{H0:Hp}{S:List Addr}{z:Addr->Option Nat}{aq:List pH}{ρ:aO}{σ:St}{H:Hp}{i:Nat}{d:D}{o:List Nat}{v:V}{fp:List Addr}(ok:Ok K H0 S z aq ρ σ H)(r:Rep K H d v fp)(g:∀a∈fp,∀j,z a=some j->j∈o):
  Ok K H0 S (λa=>if z a=some i then none else z a) aq (ρ.set i (some (d,.sh o))) (σ.set i (some v)) H:=by
 have zz:∀{a:Addr}{j:Nat},(if z a=some i then none else z a)=some j->z a=some j/\j≠i:=λ{a j} q=>by
  by_cases w:z a=some i
  .rw[if_pos w] at q;cases q
  .rw[if_neg w] at q;exact⟨q,λe=>w (by rw[<- e];exact q)⟩
 refine⟨λj d' t' e=>?_,λp hp=>?_,λa j e=>ok.zd a j (zz e).1,ok.en,by rw[afT,afT];exact ok.ln⟩
 .by_cases hj:j=i
  .subst hj;have cU:j<ρ.length:=by
    have:=(abP.mp e).1
    rwa [afT] at this
   rw[aea cU] at e;cases e;exact⟨v,fp,aea (by rw[<- ok.ln];exact cU),r,λa m k q=>g a m k (zz q).1⟩
  .rw[acS (afZ hj)] at e;obtain⟨v',jH,bR,r',z'⟩:=ok.sl j d' t' e;refine⟨v',jH,by rw[acS (afZ hj)];exact bR,r',?_⟩;cases t' with
   |sh o=>exact λa m k q=>z' a m k (zz q).1
   |own=>exact⟨z'.1,λa m=>by dsimp only;rw[if_neg (by rw[z'.2 a m];intro w;exact hj (acf w))];exact z'.2 a m⟩
   |lk=>exact⟨z'.1,λa m=>by dsimp only;rw[if_neg (by rw[z'.2 a m];intro w;exact hj (acf w))];exact z'.2 a m⟩
 .obtain⟨r',wz⟩:=ok.hl p hp;refine⟨r',λa m j q=>?_⟩;obtain⟨q,hj⟩:=zz q;obtain⟨Y8,e'⟩:=wz a m j q;exact⟨Y8,λd'=>by rw[acS (afZ hj)];exact e' d'⟩
section
variable{X:Cx}{pos:Pos}
theorem VC(i j:Nat){x y:Str}{p1 p2:Pos}{k:Nat}(hc:X.calm=true)(hN:X.N.Nodup)(hi:X.N[i]? = some x:=by rfl)(hj:X.N[j]? = some y:=by rfl)(hx:Loc X.env.scope x:=by first|exact Or.inl rfl|exact Or.inr rfl)(hy:Loc X.env.scope y:=by first|exact Or.inl rfl|exact Or.inr rfl)
  (hf:v6 X x:=by first|exact .inl rfl|exact .inr rfl) (hg:v6 X y:=by first|exact .inl rfl|exact .inr rfl)
  (sx:kc X x=false:=by rfl) (sy:kc X y=false:=by rfl):FG X (.Tuple [.Name x p1,.Name y p2] k pos) (F8 i j) [i,j]:=by
 refine⟨λn m w e=>?_,_,Pu hc (Er (Hu (i:=i) hN hi hx hf) (Er (Hu (i:=j) hN hj hy hg) L3)) rfl rfl,@λH0 S z aq ρ σ H H1 v d tag fp Q ρ' ok s r g e q=>?_⟩
 .rcases aaA.mp m with z|z
  .rw[z,hi] at e;have e:=acf e;subst e;exact sx
  .rw[aaU.mp z,hj] at e;have e:=acf e;subst e;exact sy
 .obtain⟨d1,d2,o,rfl,rfl,rfl⟩:=Va e;obtain⟨a,xs,rfl,hq,rs⟩:=r.ic;cases rs with
  | @cons _ v1 _ vr f1 f2 r1 tL=>
   cases tL with
   | @cons _ v2 _ vr2 f3 f4 r2 rs3=>
    cases rs3;have b_:=ok.same s;have g:∀a∈f1++(f3++[]),∀j,z a=some j->j∈o:=g;refine⟨a,[v1,v2],rfl,hq,rfl,v1,[v2],rfl,?_⟩;have mQ:=b_.OQ (i:=i) r1 (λb m l e=>g b (abj _ m) l e);have iD:=mQ.OQ (i:=j) (o:=o) r2 (λb m l e=>by
     refine g b (aas _ (abj _ m)) l ?_
     by_cases w:z b=some i
     .rw[if_pos w] at e;cases e
     .rw[if_neg w] at e;exact e)
    refine⟨v2,[],rfl,rfl,q _ _ iD ⟨by rw[afT,afT],λn hn=>?_⟩⟩;rw[acS λe=>hn (by rw[e];exact aab _ aad),acS λe=>hn (by rw[e];exact aad)]
theorem Cp{a b:Expr}{fa fb:EF}(hu:X.A.units+1<cLine)(ha:FP X a fa)(hb:FP X b fb)(hm:behindInMarks .NotIn b=false:=by rfl):FT X (.Compare a [.NotIn] [b] pos) (tV (e2 (kC true) fa fb)):=by
 exists 46;exists 22,NN (t:=uf (Fc true) ta tb) (MA hu pa pb) hm;obtain⟨tg,e0⟩:=Aq e;obtain⟨d1,t1,d2,t2,e1,h_,e3,rfl⟩:=oZ e0;exists 66
 exists 47
 refine Ag H2 x y d1 d2 f1 f2 _ _ (r1.same s2) r2 e3 λH3 v s3 r3=>?_
 cases r3;exact⟨c,rfl,k H3 ((s1.trans s2).trans s3)⟩
end
def wk(X:Cx)(st:Stmt):TS:=λW σ H=>∀(ah) (s),Inv X ah σ H s->Y1 X X.A (exec st X.env) (SP X ah W) X.xe s
theorem LZ{st:Stmt}:PS X st (wk X st):=λah s _ _ _ I h=>h ah s I
inductive ER where
 |ok (d:D) (ρ:aO)|er (cn:XN) (ρ:aO)
def ac7(X:Cx)(H0:Hp)(S:List Addr)(aq:List pH)(σ:St)(Q:VK)(E:XK):ER->Prop
 |.ok d ρ=>∀z H1 H' v fp,Ok X.K H0 S z aq ρ σ H1->aJ H1 H'->Rep X.K H' d v fp->cO z H1 .own fp->Q v H'
 |.er cn ρ=>∀z H' C,Ok X.K H0 S z aq ρ σ H'->PySem.W.nsIn X.K mainGlobals cn.1=some (some (.ref C))->E (.ref C) cn.2 H'
abbrev XR:=aO->Option ER
def FE(X:Cx)(e:Expr)(f:XR):Prop:=∃t,PX X e t/\∀{H0} {S} {z} {aq} {ρ} {σ} {H} {Q} {E} {r},
 Ok X.K H0 S z aq ρ σ H->f ρ=some r->ac7 X H0 S aq σ Q E r->t σ H Q E
theorem Nm:zj X (λ_ _ _ _=>False):=λ_ _ _ _ _ _ _ _ z=>z.elim
def BE(i:Nat)(f:XR):SF:=λρ=>match f ρ with
 |some (.ok d ρ')=>some (.nx (iH ρ' i d .own))
 |some (.er cn ρ')=>some (.er false cn ρ')
 |none=>none
theorem LI(i:Nat)(he:FE X e f)(hN:X.N.Nodup)(hi:X.N[i]? = some x:=by rfl)(hx:Loc X.env.scope x:=by first|exact Or.inl rfl|exact Or.inr rfl)
  (hs:swapsWith e (some (.Name x pos')) pos.line X.env=pure false:=by rfl) (hf:v6 X x:=by first|exact .inl rfl|exact .inr rfl) (pQ:kc X x=false:=by rfl):fC X (.Assign [.Name x pos'] e pos) (BE i f):=by
 obtain⟨t,p,q⟩:=he;exists 23,LZ;unfold BE at e;cases h:f ρ with
 |none=>rw[h] at e;cases e
 |some r=>
  rw[h] at e;intro ah s I;cases r with
  |ok d aQ=>
   cases e;refine Ot Nm hN hi hx p hs hf ah s σ H E I ?_;exact q ok h λz1 H1 H2 v fp b_ s1 r1 g1=>b_.stored s1 r1 g1 λz' aW=>k z' _ H2 aW (.set hi pQ)
  |er cn aQ=>
   cases e;obtain⟨ES,th,kk⟩:=k;refine Ot th hN hi hx p hs hf ah s σ H E I ?_;exact q ok h λz1 H1 C b_ hC=>kk z1 σ H1 C b_ (.refl _ _) hC
noncomputable def kK:List D->Option (List Str)
 |[]=>some []
 |.str x::r=>(kK r).map λm=>x::m
 |_::_=>none
theorem yh{K:PySem.W.Frag}:∀{ds} {xs} {fp} {ys},aC K H ds xs fp->kK ds=some ys->xs=ys.map V.str
 |_,_,_,_,.nil,e=>by cases e;rfl
 |_,_,_,ys,.cons (d:=d) h t,e=>by
  cases d with
  |str x=>
   unfold kK at e;cases q:kK _ with
   |none=>rw[q] at e;cases e
   |some m=>
    rw[q] at e;cases e;cases h;rw[yh t q];rfl
  |_=>cases e
theorem Sq:∀ys:List Str,kK (ys.map D.str)=some ys
 |[]=>rfl
 |y::ys=>by
  show(kK (ys.map D.str)).map (λm=>y::m)=_;rw[Sq ys];rfl
theorem QH:∀{ys} {us},aU (ys.map V.str) us->StrsAre us ys
 |[],_,r=>by cases r;exact .nil
 |y::ys,_,r=>by
  cases r with
  |cons h t=>
   obtain⟨tk,rfl⟩:=h;exact .cons y tk (QH t)
noncomputable def dX(k:Str)(ys:List Str):Nat:=ys.countP (· == k)
theorem count_eq(k:Str):∀ys:List Str,countIn (.str k) (ys.map PyData.str)=(dX k ys:Int)
 |[]=>rfl
 |y::ys=>by
  rw[aao,countIn,count_eq k ys];unfold dX;rw[List.countP_cons];have e:same (.str y) (.str k)=(y==k):=by simp[same]
  rw[e];cases h:(y==k)
  .simp
  .simp;omega
def adx(K:PySem.W.Frag):V->List V->Hp->VK->Prop:=λx vs H Q=>∃(l:Addr) (ys:List Str) (k:Str),x=.ref l/\vs=[.str k]/\bX K H l (ys.map V.str)/\Q (.int (dX k ys)) H
theorem abM{X:Cx}:Jj X "list.count" (adx X.K):=by
 intro ah s σ H x vs v us Q I rx rv h;obtain⟨l,ys,k,rfl,rfl,hH,q⟩:=h;cases rx;obtain⟨u,rfl,ru⟩:=rv.one;obtain⟨t,rfl⟩:=ru;obtain⟨ay,r,pl,hz⟩:=I.list hH;refine count_list_strs pl.isList (QH r) ?_;rw[count_eq];exact⟨.int (dX k ys),H,I.tok _,⟨_,rfl⟩,q⟩
def vV:D->D->Option D
 |.lst ds,.str k=>(kK ds).map λys=>.int (dX k ys)
 |_,_=>none
theorem JZ(ho:FP X o fo)(ha:FP X a fa)(hs:Y2 X a:=by rfl)(iQ:attributeBase o "count" X.env (eval o X.env)=eval o X.env:=by rfl)
  (iW:((backTo p3 (starEach [a] X.env)).all (λx=>!x.1)&&(backToKw p3 (keywordEach [] X.env)).all (λx=>x.1.isSome)&&decide ([a].length+([]:List Keyword).length+(if([]:List Keyword).isEmpty then 0 else 1)<30))=true:=by rfl)
  (iS:(p2.endLine==p3.line)=true:=by rfl):FP X (.Call (.Attribute o "count" p2) [a] [] p3) (e2 vV fo fa):=by
 obtain⟨to,po,so⟩:=ho;obtain⟨ta,pa,sa⟩:=ha;refine⟨_,vO PySem.F.plainAttrs_list PySem.F.slot_list_count PySem.F.type_list_count abM po (d8 pa fY hs) iQ iW iS hs rfl,@λH0 S z aq ρ σ H Q dd tg ok e k=>?_⟩;obtain⟨d1,t1,d2,t2,e1,h_,e3,rfl⟩:=oZ e;unfold vV at e3
 split at e3
 .rename_i ds ky;cases hS:kK ds with
  |none=>rw[hS] at e3;cases e3
  |some ys=>
   rw[hS] at e3;cases e3;refine so ok e1 λH1 v fp s1 r1 _=>?_
   obtain⟨l,xs,f,rfl,hq,rs,_⟩:=r1.dD;have ex:=yh rs hS;subst ex;exists 70;refine sa (ok.same s1) h_ λH2 u mO s2 r2 _=>?_
   cases r2;obtain⟨l',RU,f',e',hq2,tL,_⟩:=(r1.same s2).dD;cases e';have ex:=yh tL hS;subst ex;exact⟨l,ys,ky,rfl,rfl,hq2,k H2 _ [] (s1.trans s2) (.int _) .nil⟩
 .cases e3
def Bv(K:PySem.W.Frag)(t:Addr)(ys:List Str):Prop:=∃(o:Obj) (ay:Array Value) (n:Nat),K.lookup t=some o/\o.cls=.type "tuple"/\o.dict=none/\o.data=.seq ay n/\ay.size<=sizeLine/\aU (ys.map V.str) ay.toList
theorem Qa{K:PySem.W.Frag}:∀ys:List Str,aC K H (ys.map D.str) (ys.map V.str) []
 |[]=>.nil
 |y::ys=>.cons (.str y) (Qa ys)
theorem Xg(hm:X.mg x=some (.ref t))(ht:Bv X.K t ys)(hg:GD X x:=by exact⟨rfl,by decide⟩):FP X (.Name x pos) (eC (.tup (ys.map D.str))):=
 ⟨_,M_ hg.1 hm (v:=.ref t) rfl hg.2,@λ_ _ _ _ _ _ H _ _ _ _ e q=>by cases e;exact q H _ _ (aJ.refl H) (.tup (.inr ht) (Qa ys)) .nil⟩
def pB(neg:Bool):D->D->Option D
 |.str i,.lst ds=>(kK ds).map λns=>.bl (if neg=true then !(ns.any (· == i)) else ns.any (· == i))
 |.str i,.tup ds=>(kK ds).map λns=>.bl (if neg=true then !(ns.any (· == i)) else ns.any (· == i))
 |_,_=>none
theorem R3(i:Str)(ns:List Str):vf (.str i) (ns.map V.str)=ns.any (· == i):=by
 unfold vf;rw[agw];rfl
theorem M5(ns:List Str):(ns.map V.str).all oj=true:=by
 rw[agY];exact adt.mpr λ_ _=>rfl
theorem EX{K:PySem.W.Frag}{neg:Bool}:gq K (BO K neg) (pB neg):=by
 exists 41;unfold pB at e
 split at e
 .rename_i i ds;cases hS:kK ds with
  |none=>rw[hS] at e;cases e
  |some ys=>
   rw[hS] at e;cases e;cases r1;obtain⟨l,xs,f,rfl,hq,rs,_⟩:=r2.dD;have ex:=yh rs hS;subst ex;refine⟨l,_,rfl,.inl hq,rfl,M5 ys,?_⟩;rw[R3];exists 49
 .rename_i i ds;cases hS:kK ds with
  |none=>rw[hS] at e;cases e
  |some ys=>
   rw[hS] at e;cases e;cases r1;cases r2 with
   |tup hq rs=>
    have ex:=yh rs hS;subst ex;refine⟨_,_,rfl,.inr hq,rfl,M5 ys,?_⟩;rw[R3];exists 49
 .cases e
theorem Wf(ha:FP X a fa)(hb:FP X b fb)(hm:behindInMarks .In b=false:=by rfl):FT X (.Compare a [.In] [b] pos) (tV (e2 (pB false) fa fb)):=j6 I_ EX ha hb hm
theorem aco(ha:FP X a fa)(hb:FP X b fb)(hm:behindInMarks .NotIn b=false:=by rfl):FT X (.Compare a [.NotIn] [b] pos) (tV (e2 (pB true) fa fb)):=j6 Fg EX ha hb hm
end L2.Ev
namespace L2
open PySem PySem.Spec PyProof.Rows
theorem P1(h:PE X.gb e t):PX X e (λσ H Q _=>t σ H Q):=λah s σ H Q E I hw=>
 ae0 (h ah s σ H Q (I.kR _) hw) (λ_ _ ⟨v,H',I',r,q⟩=>⟨v,H',I'.lY,r,q⟩) λ_ _ z=>False.elim z
end L2
namespace L2.Ev
open PySem PySem.Spec PyProof.Rows
def zW(fa fh:EF):EF:=λρ=>match fa ρ,fh ρ with
 |some (.lst ds,_),some (.int i,_)=>if aL ds=true then some (.lst (cutD ds (some i) none),.own) else none
 |_,_=>none
theorem aa2(ha:FP X a fa)(hh:FP X b fh):FP X (.Subscript a (.Slice (some b) none none p2) pos) (zW fa fh):=by
 exists 61;obtain⟨th,ph,qh⟩:=hh;exists 21,E8 Di p (DV ph) Ge;unfold zW at e
 split at e
 .rename_i ds t1 i t2 e1 e2;exists 73;cases e;refine q ok e1 λH1 x f1 s1 r1 _=>?_
  refine qh (ok.same s1) e2 λH2 y f2 s2 r2 _=>?_
  cases r2;refine⟨i,rfl,?_⟩;obtain⟨w,xs,f,rfl,hq,rs,_⟩:=(r1.same s2).dD;have hn:=rs.aB hi;subst hn;refine⟨w,xs,rfl,hq,λp hp=>?_⟩;have s3:aJ H2 (upd H2 p (.lst (k9 xs (some i) none))):=λb o e=>by rw[aP (cV e hp)];exact e
  have rr:aC X.K H2 (cutD ds (some i) none) (k9 xs (some i) none) []:=by
   unfold cutD k9;rw[rs.length];exact aC.Be _ (aC.BP _ rs)
  refine k _ _ [p] ((s1.trans s2).trans s3) (.lst cD (rr.same s3)) ⟨ab4.mpr ⟨(λm=>by cases m),acW⟩,λa m=>?_⟩;cases aaU.mp m;exact s1.free (s2.free hp)
 .cases e
def kY(fa fb:EF):EF:=λρ=>match fa ρ,fb ρ with
 |some (.tup ds,.sh o),some (.int i,_)=>(cB ds i).map λd=>(d,.sh o)
 |_,_=>none
theorem qq(ha:FP X a fa)(hb:FP X b fb)(hs:Bc b:=by exact λ_ _=>rfl):FP X (.Subscript a b pos) (kY fa fb):=by
 exists 46;exists 20,Ds F1 pa pb hs;unfold kY at e
 split at e
 .rename_i ds o i t2 e1 h_;cases h3:cB ds i with
  |none=>rw[h3] at e;cases e
  |some d3=>
   rw[h3] at e;cases e;refine sa ok e1 λH1 x f1 s1 r1 g1=>?_
   exists 47
   have r1:=r1.same s2;obtain⟨p,xs,rfl,hq,rs⟩:=r1.ic;cases r2;unfold cB at h3;cases h:kM ds.length i with
   |none=>rw[h] at h3;cases h3
   |some j=>
    rw[h,ac0] at h3;obtain⟨v,f',hv,rv,hm⟩:=rs.get h3;refine .inr (.inl ⟨p,xs,i,v,rfl,rfl,hq,?_,q H2 v f' (s1.trans s2) rv λa m=>g1 a (hm a m)⟩);unfold cB;rw[<- rs.length,h,ac0];exact hv
 .cases e
def vZ(X:Cx)(e:Expr)(f:aO->Option (Bool×aO)):Prop:=∃t,PT X e t/\∀{H0} {S} {z} {aq} {ρ} {σ} {H} {Q} {b} {ρ'},
 Ok X.K H0 S z aq ρ σ H->f ρ=some (b,ρ')->(∀z' H',Ok X.K H0 S z' aq ρ' σ H'->Q b H')->t σ H Q
noncomputable def JD(c:aO->Option (Bool×aO))(f g:SF):SF:=λρ=>match c ρ with
 |some (true,ρ')=>f ρ'
 |some (false,ρ')=>g ρ'
 |none=>none
theorem aem(hc:vZ X c tc)(ha:FS X s1 f)(hb:FS X s2 g):fC X (.If c s1 s2 pos) (JD tc f g):=by
 obtain⟨t,p,q⟩:=hc;obtain⟨t1,p1,q1⟩:=ha;obtain⟨t2,p2,q2⟩:=hb;exists 23,Jm p p1 p2;unfold JD at e;cases h:tc ρ with
 |none=>rw[h] at e;cases e
 |some w=>
  obtain⟨y,aQ⟩:=w;rw[h] at e;refine q ok h λz1 H1 b_=>?_
  cases y with
  |true=>rw[if_pos rfl];exact q1 b_ e k
  |false=>rw[if_neg abk];exact q2 b_ e k
section
variable(P:Program)(w:World)(K:PySem.W.Frag)(mg:Str->Option Value)(base:Heap)(CX:uu)(k:Nat)
def FN(x:Str)(ps:List Str)(sp:Sp)(cm:Bool:=true):Prop:=∃a fd,cE P w K mg base CX k a fd ps sp cm/\mg x=some (.ref a)/\PySem.W.keepIn K (.ref a)=true/\Binds K fd ps []
def MT(C:Addr)(x:Str)(ps:List Str)(sp:Sp)(cm:Bool:=true):Prop:=∃a fd,cE P w K mg base CX k a fd ps sp cm/\Binds K fd ps []/\l_ K C x a
def MI(C:Addr)(ps:List Str)(sp:Sp)(cm:Bool:=true):Prop:=∃a fd,cE P w K mg base CX k a fd ps sp cm/\Binds K fd ps []/\Mk K C a
end
def GL(K:PySem.W.Frag)(x q:Str)(st:Stmt)(f:Addr):Prop:=∃oc od kV dc pm an cd ct sl,K.lookup f=some ⟨oc,od,.func (PySem.W.fnOf x q (mD st) (ie st) (cT st) .none kV dc pm an cd ct),sl⟩/\PySem.W.codeIn K cd q=true/\PySem.W.keepIn K (.ref f)=true
def IC(K:PySem.W.Frag)(x:Str)(st:Stmt):Prop:=∃f,PySem.W.nsIn K mainGlobals x=some (some (.ref f))/\GL K x x st f
def GM(K:PySem.W.Frag)(C:Addr)(x q:Str)(st:Stmt):Prop:=∃f,PySem.W.findIn K (.ref C) x=some (some (.ref f))/\PySem.W.isFn K (.ref f)=true/\GL K x q st f
abbrev BA(x q:Str)(st:Stmt)(ps:List Str):Prop:=∀(kV doc pm) (an) (aX ct) (us),us.length=ps.length->bindArgs (PySem.W.fnOf x q (mD st) (ie st) (cT st) .none kV doc pm an aX ct) ⟨us,[]⟩=pure (ps.zip us)
theorem C9{K:PySem.W.Frag}{x q:Str}{st:Stmt}{f:Addr}(l:GL K x q st f):PySem.W.keepIn K (.ref f)=true/\∃fd,jR K x q st f fd:=by
 obtain⟨oc,od,kV,dc,pm,an,cd,ct,sl,h1,h2,h3⟩:=l;exact⟨h3,_,Pz h1 h2 h3⟩
section
variable{K:PySem.W.Frag}{st:Stmt}
theorem fnW(X:K.In h)(G:h.Ns mainGlobals mg)(l:IC K x st)(ok:∀{f} {fd},jR K x x st f fd->cE P w K mg base CX k f fd ps sp cm)(b:BA x x st ps):FN P w K mg base CX k x ps sp cm:=by
 obtain⟨f,a,l⟩:=l;obtain⟨kp,fd,F⟩:=C9 l;exact⟨f,fd,ok F,PySem.W.mg_of X G a,kp,F.binds b⟩
theorem Tq(l:GM K C x q st)(ok:∀{f} {fd},jR K x q st f fd->cE P w K mg base CX k f fd ps sp cm)(b:BA x q st ps):MT P w K mg base CX k C x ps sp cm:=by
 obtain⟨f,a,i,l⟩:=l;obtain⟨kp,fd,F⟩:=C9 l;exact⟨f,fd,ok F,F.binds b,⟨a,i,kp⟩⟩
theorem adl{sp:Heap->Sp}(X:K.In h)(G:h.Ns mainGlobals mg)(Gh:mg "law"=some (.ref fa))(l:IC K "law" st)
  (b:∀(kV doc pm) (an) (aX ct) (s) (v),BindsTo s (PySem.W.fnOf "law" "law" (mD st) (ie st) (cT st) .none kV doc pm an aX ct) ⟨[v],[]⟩ [(p,v)])
  (ok:∀base:Heap,K.In base->base.Ns mainGlobals mg->∀{f} {fd},jR K "law" "law" st f fd->cE P w K mg base CX k f fd [p] (sp base) cm) :
  ∃fd:FuncData,(∀(s) (v),BindsTo s fd ⟨[v],[]⟩ [(p,v)])/\∀base:Heap,K.In base->base.Ns mainGlobals mg->cE P w K mg base CX k fa fd [p] (sp base) cm:=by
 obtain⟨f,a,oc,od,kV,dc,pm,an,cd,ct,sl,h1,h2,h3⟩:=l;have e:=Gh.symm.trans (PySem.W.mg_of X G a);cases e;exact⟨_,b kV dc pm an cd ct,λbase K1 G1=>ok base K1 G1 (Pz h1 h2 h3)⟩
end
theorem kQ(h1:g d t ρ=some aQ)(h2:f aQ=some (.nx aY)):cz g t f (d::ds) ρ=cz g t f ds aY:=by
 conv=>lhs;unfold cz
 rw[h1];dsimp only;rw[h2]
theorem yo(h1:g d t ρ=some aQ)(h2:f aQ=some (.rt r)):cz g t f (d::ds) ρ=some (.rt r):=by
 unfold cz;rw[h1];dsimp only;rw[h2]
end L2.Ev
namespace L2
open PySem PySem.Spec PyProof.Rows
section
variable{T id:String}
def adv(K:PySem.W.Frag)(T:String)(r:V->List V->Hp->VK->Prop)(to:TE)(t:TX):TX:=λσ H Q E=>to σ H λx H1=>DF K T x H1/\t σ H1 (λy H2=>r x [y] H2 Q) E
theorem Wb(pa:PlainAttrs T)(slot:PySem.Slot T name id)(xB:typeOf (.builtin id)=pure (.type "method_descriptor"))(hm:CJ X.gb id r)(ho:PE X.gb o to)(ha:PX X e t)
  (iQ:attributeBase o name X.env (eval o X.env)=eval o X.env:=by rfl)
  (iW:((backTo cpos (starEach [e] X.env)).all (λx=>!x.1)&&(backToKw cpos (keywordEach [] X.env)).all (λx=>x.1.isSome)
   && decide ([e].length+([]:List Keyword).length+(if([]:List Keyword).isEmpty then 0 else 1)<30))=true:=by rfl)
  (iS:(apos.endLine==cpos.line)=true:=by rfl) (hs:Y2 X e:=by rfl) :
  PX X (.Call (.Attribute o name apos) [e] [] cpos) (adv X.K T r to t):=by
 intro ah s σ H Q E I h;refine wpAny_Call_method_late iQ iW iS rfl (ae0 (adm ho I h) (?_) λ_ _ z=>z)
 rintro v s1 ⟨x,H1,I1,r1,ty,q1⟩
 obtain⟨h1,h2⟩:=Mg I1 r1 ty;refine⟨T,id,pa,slot,xB,h1,h2,?_⟩;rw[hs];refine agH rfl (agP ?_);refine agJ (ae0 (ha ah s1 σ H1 _ _ I1 q1) (?_) λ_ _ z=>z)
 rintro u s2 ⟨y,H2,I2,r2,q2⟩
 refine Calls.spliced_nil ?_;refine ae0 (hm ah s2 σ H2 x [y] v [u] Q (I2.kR _) r1 (.cons r2 .nil) q2) (?_) λ_ _ z=>False.elim z
 rintro _ _ ⟨v,H',I',r,q⟩
 exact⟨v,H',I'.lY,r,q⟩
end
namespace Ev
noncomputable def Ho(fx:XF):aO->Option (Bool×aO):=λρ=>match fx ρ with
 |some (.bl c,ρ')=>some (!c,ρ')
 |_=>none
theorem YO(h:FZ X a fx)(he:∀whole,isTrue a X.env whole=(do let v <- whole;standAt a.pos;holding [v] (truthy v)):=by intro _;rfl):vZ X (.UnaryOp .Not a pos) (Ho fx):=by
 obtain⟨t,p,q⟩:=h;refine⟨_,KR (C5 p he),@λH0 S z aq ρ σ H Q c ρ' ok e k=>?_⟩;unfold Ho at e
 split at e
 .rename_i c' aQ h1;cases e;refine q ok h1 λz' H' v aW r=>?_
  cases r;exact⟨_,rfl,k z' H' aW⟩
 .cases e
noncomputable def xm(ft:TF)(fz:aO->Option (Bool×aO)):aO->Option (Bool×aO):=λρ=>match ft ρ with
 |some true=>fz ρ
 |some false=>some (false,ρ)
 |none=>none
theorem UL(ha:FT X a ft)(hb:vZ X b fz):vZ X (.BoolOp .And [a,b] pos) (xm ft fz):=by
 exists 61;obtain⟨t',p',q'⟩:=hb;refine⟨_,(OL p (Mn p')).pt,@λH0 S z aq ρ σ H Q c ρ' ok e k=>?_⟩;unfold xm at e
 split at e
 .rename_i h1;refine q ok h1 λH1 s1=>?_
  rw[if_pos rfl];exact q' (ok.same s1) e k
 .rename_i h1;cases e;refine q ok h1 λH1 s1=>?_
  rw[if_neg abk];exact k z H1 (ok.same s1)
 .cases e
end Ev
end L2
namespace L2.Ev
open PySem PySem.Spec PyProof.Rows
section
variable{X:Cx}{elts:List Expr}{tp:Pos}{a b:Expr}{fa fb:EF}{p pos:Pos}
def Dv(T:String):D->Option D
 |.tup _=>some (.bl ("tuple" == T))
 |.gP _=>some (.bl ("list" == T))
 |d=>Cm T d
def OB(T:String):Prop:=∀(K:PySem.W.Frag) (t:String),t∈["tuple","list"]->PySem.W.kitOne K (.type t) (.type T)=some (t==T)
theorem U7:OB "tuple":=by
 intro K t m;simp only[aaA,adB,agr] at m;rcases m with rfl|rfl<;>rfl
theorem acM(T:String):g_ X (.builtin "isinstance") (λxs H Q=>(∃x t b,xs=[x,V.ty T]/\jC X.K H x t/\PySem.W.kitOne X.K t (.type T)=some b/\Q (.bl b) H)\/
  (∃a ys b,xs=[.ref a,V.ty T]/\cg X.K H a ys/\PySem.W.kitOne X.K (.type "tuple") (.type T)=some b/\Q (.bl b) H)\/(∃a ys b,xs=[.ref a,V.ty T]/\bX X.K H a ys/\PySem.W.kitOne X.K (.type "list") (.type T)=some b/\Q (.bl b) H)):=by
 exists 43;rcases h with h|⟨a,ys,bb,rfl,hq,e,q⟩|⟨a,ys,bb,rfl,hq,e,q⟩
 .exact MO T ah s σ H xs us Q I r h
 .obtain⟨u,w',rfl,ru,fq⟩:=vals2 r;cases fq;cases(show u=Value.ref a from ru);obtain⟨ay,_,⟨o,h1,h2,_⟩,_⟩:=I.tuple hq;exact PySem.W.kia_one PySem.W.kitx_tuple I.d_ ⟨o,h1,h2⟩ e (λz=>nomatch z) λtk=>⟨.bl bb,H,I.tok tk,rfl,q⟩
 .obtain⟨u,w',rfl,ru,fq⟩:=vals2 r;cases fq;cases(show u=Value.ref a from ru);obtain⟨ay,_,⟨o,n,h1,h2,_⟩,_⟩:=I.list hq;exact PySem.W.kia_one PySem.W.kitx_list I.d_ ⟨o,h1,h2⟩ e (λz=>nomatch z) λtk=>⟨.bl bb,H,I.tok tk,rfl,q⟩
theorem afD{T:String}{x:Str}(hT:yT T)(Sw:OB T)(hm:X.mg "isinstance"=none)(HH:X.mg x=none)(ha:FP X a fa)(Ex:bootBuiltins x=some (.type T):=by decide +kernel)(hg:Gl X "isinstance":=by rfl)(Ir:Gl X x:=by rfl)(hn:x≠"__name__":=by decide)(kO:(x==("__debug__":Str))=false:=by decide)
  (hs:starEach [a,.Name x p2] X.env=[(false,eval a X.env),(false,eval (.Name x p2) X.env)]:=by rfl) (hpl:(backTo pos (starEach [.Name x p2] X.env)).any (·.1)=false:=by rfl):FP X (.Call (.Name "isinstance" p) [a,.Name x p2] [] pos) (e1 (Dv T) fa):=by
 obtain⟨ta,pa,sa⟩:=ha;have c_:starEach [.Name x p2] X.env=[(false,eval (.Name x p2) X.env)]:=rfl;exists 21,sI (acM T) hg hm (show bootBuiltins "isinstance"=some (.builtin "isinstance") by decide +kernel) (d8 pa (d8 (LR (v:=.ty T) Ir HH Ex rfl hn kO) fY) (by rw[hs,c_])) (he:=by rw[hs,c_]) (hpl:=hpl);obtain⟨d1,t1,h1,h2,rfl⟩:=v8 e;refine sa ok h1 λH1 v fp s1 r1 _=>?_
 unfold Dv at h2
 split at h2
 .cases h2;obtain⟨w,xs,rfl,hq,_⟩:=r1.ic;exact .inr (.inl ⟨w,xs,_,rfl,hq,Sw X.K "tuple" (by decide),k H1 _ [] s1 (.bl _) .nil⟩)
 .cases h2;obtain⟨w,xs,rfl,hq,_⟩:=r1.sG;exact .inr (.inr ⟨w,xs,_,rfl,hq,Sw X.K "list" (by decide),k H1 _ [] s1 (.bl _) .nil⟩)
 .unfold Cm at h2;exists ht,AG d1,t,h2;cases h2;obtain⟨ty,mem⟩:=r1.ty ht;exact .inl ⟨v,_,_,rfl,ty,hT X.K t mem,k H1 _ [] s1 (.bl _) .nil⟩
end
def KH(i:Nat)(cn f:Str)(fv:EF):SF:=λρ=>match fv ρ,ρ[i]? with
 | some (.lst ls,_),some (some (.ins c es,.own))=>if c=cn then(match es.lookup f with
  |some (.lst ds)=>if(aL ls&&aL ds&&decide (ds.length+ls.length<=sizeLine))=true then some (.nx (bQ ρ i (.ins c (dY f (.lst (ds++ls)) es)))) else none
  |_=>none) else none
 |_,_=>none
theorem V3(i:Nat)(hC:ClsAt X.K cn C)(na:jk X.K C f)(hv:FP X a fv)(va:VA X i x:=by walk_at "va")(hs:Y2 X a:=by rfl)
  (hb:attributeBase (.Name x p) f X.env (eval (.Name x p) X.env)=eval (.Name x p) X.env:=by rfl)
  (iQ:attributeBase (.Attribute (.Name x p) f p1) "extend" X.env (eval (.Attribute (.Name x p) f p1) X.env)=eval (.Attribute (.Name x p) f p1) X.env:=by rfl)
  (iW:((backTo p3 (starEach [a] X.env)).all (λx=>!x.1)&&(backToKw p3 (keywordEach [] X.env)).all (λx=>x.1.isSome)&&decide ([a].length+([]:List Keyword).length+(if([]:List Keyword).isEmpty then 0 else 1)<30))=true:=by rfl)
  (iS:(p2.endLine==p3.line)=true:=by rfl) (iY:swapsWith (.Call (.Attribute (.Attribute (.Name x p) f p1) "extend" p2) [a] [] p3) none pos.line X.env=pure false:=by rfl) :
  fC X (.Expr (.Call (.Attribute (.Attribute (.Name x p) f p1) "extend" p2) [a] [] p3) pos) (KH i cn f fv):=by
 obtain⟨tv,jF,sv⟩:=hv;exists 25,wX (vO PySem.F.plainAttrs_list PySem.F.slot_list_extend PySem.F.type_list_extend Yp (tY va.pe hb) (d8 jF fY hs) iQ iW iS hs rfl) iY;unfold KH at e
 split at e
 .rename_i ls td c es g1 g2
  by_cases hc:c=cn
  .subst hc;rw[if_pos rfl] at e
   split at e
   .rename_i ds hl
    by_cases hc:(aL ls&&aL ds&&decide (ds.length+ls.length<=sizeLine))=true
    .rw[if_pos hc] at e;cases e;obtain⟨c1,c3⟩:=(aaV _ _).mp hc;obtain⟨c1,c2⟩:=(aaV _ _).mp c1;obtain⟨xv,fp,bR,r,zz⟩:=ok.sl i _ _ g2;refine⟨xv,bR,?_⟩;exists 60;refine⟨b0,C,dx,fs,u,rfl,h1,hC.cl,na,h2,?_⟩;obtain⟨l,xs,f0,rfl,hq,_,_⟩:=h3.dD;exists 70;refine sv ok g1 λH1 v fd s1 rv gv=>?_
     generalize hw:(V.ref l)=w at h3 h6;cases h3 with
     | @lst a' ys _ f' h rs=>
      cases hw;have hn:=rs.aB c2;subst hn;cases rv with
      | @lst b' zs _ f2 h' rz=>
       have hn:=rz.aB c1;subst hn;have uJ:=s1 _ _ h;refine⟨_,b',ys,zs,rfl,rfl,uJ,h',by rw[<- rs.length,<- rz.length];exact aaC c3,?_⟩;have im:aV H1 (upd H1 l (.lst (ys++zs))):=aV.upd uJ rfl;obtain⟨bT,k1,k2,k3⟩:=h6 (upd H1 l (.lst (ys++zs))) (.lst (ds++ls)) [l] ((aV.of s1).trans im) (λc o n e=>by rw[aP λq=>n (by rw[q];exact aad)];exact s1 c o e)
        (.lst cD (aC.append (f:=[]) (g:=[]) ((rs.same s1).frame (λa m=>nomatch m) im) (rz.frame (λa m=>nomatch m) im))) h4 (λc m=>.inl m)
       exists 51;exact q z' σ _ aW (.refl _ _)
    .rw[if_neg hc] at e;cases e
   .cases e
  .rw[if_neg hc] at e;cases e
 .cases e
def B7(fx:XF)(fb:EF):XF:=λρ=>match fx ρ with
 |some (d1,ρ')=>match fb ρ' with
  |some (d2,_)=>(oEq d1 d2).map λd=>(d,ρ')
  |none=>none
 |none=>none
theorem afr(ha:FZ X a fx)(hb:FP X b fb):FZ X (.Compare a [.Eq] [b] pos) (B7 fx fb):=by
 exists 46;refine⟨_,KY Ft pa pb (je _),@λH0 S z aq ρ σ H Q d ρ' ok e k=>?_⟩;unfold B7 at e;cases h1:fx ρ with
 |none=>rw[h1] at e;cases e
 |some w=>
  obtain⟨d1,aQ⟩:=w;rw[h1] at e;exists 68;cases h2:fb aQ with
  |none=>rw[h2] at e;cases e
  |some w2=>
   obtain⟨d2,t2⟩:=w2;rw[h2] at e;exists 68;cases h3:oEq d1 d2 with
   |none=>rw[h3] at e;cases e
   |some d3=>
    rw[h3] at e;cases e;refine sa ok h1 λz1 H1 x b_ r1=>?_
    refine sb b_ h2 λH2 y f2 s2 r2 _=>?_
    exact Gn H2 x y d1 d2 [] f2 _ _ (r1.same s2) r2 h3 λH3 v s3 r3=>k z1 H3 v ((b_.same s2).same s3) r3
section
variable{X:Cx}{pos:Pos}
def Ab(i:Nat)(f:XR):SF:=λρ=>match f ρ with
 | some (.ok d ρ')=>(match ρ[i]?,ρ'[i]? with
  |some (some (.lst _,.own)),some (some (.lst ds,.own))=>if decide (ds.length<sizeLine)=true then some (.nx (bQ ρ' i (.lst (ds++[d])))) else none
  |_,_=>none)
 |_=>none
theorem Vg{a:Expr}{f:XR}{x:Str}{p1 p2 p3:Pos}(i:Nat)(hv:FE X a f)(va:VA X i x:=by walk_at "va")(hs:Y2 X a:=by rfl)
  (iQ:attributeBase (.Name x p1) "append" X.env (eval (.Name x p1) X.env)=eval (.Name x p1) X.env:=by rfl)
  (iW:((backTo p3 (starEach [a] X.env)).all (λx=>!x.1)&&(backToKw p3 (keywordEach [] X.env)).all (λx=>x.1.isSome)&&decide ([a].length+([]:List Keyword).length+(if([]:List Keyword).isEmpty then 0 else 1)<30))=true:=by rfl)
  (iS:(p2.endLine==p3.line)=true:=by rfl) (iY:swapsWith (.Call (.Attribute (.Name x p1) "append" p2) [a] [] p3) none pos.line X.env=pure false:=by rfl) :
  fC X (.Expr (.Call (.Attribute (.Name x p1) "append" p2) [a] [] p3) pos) (Ab i f):=by
 obtain⟨tv,pv,sv⟩:=hv;have P:=Wb (X:=X) (name:="append") (apos:=p2) (cpos:=p3) PySem.F.plainAttrs_list PySem.F.slot_list_append PySem.F.type_list_append BB (MJ (X:=X.gb) (pos:=p1) (i:=i) va.N va.v va.d va.c) pv iQ iW iS hs;exists 25,LZ;intro ah s I;unfold Ab at e
 split at e
 .rename_i d ρ' h
  split at e
  .rename_i ds0 ds g0 g2
   by_cases hc:decide (ds.length<sizeLine)=true
   .rw[if_pos hc] at e;cases e;refine Xn Nm P iY ah s σ H E I ?_;obtain⟨xv,fp,bR,r,zz⟩:=ok.sl i _ _ g0;refine⟨xv,bR,?_⟩;obtain⟨l,xs,f',rfl,hq,_,_⟩:=r.dD;exists 70;refine sv ok h λz1 H1 H2 v fd Gy s1 rv gv=>?_
    have gv:fd.Nodup/\∀a∈fd,H1 a=none:=gv;obtain⟨xv2,mO,c_,r2,Hi⟩:=Gy.sl i _ _ g2;rw[bR] at c_;cases c_;have LP:=r2.same s1;generalize hw:(V.ref l)=w at LP r2 bR;cases LP with
    | @lst a' ys _ f' h rs=>
     cases hw;have qM:∀c∈fd,c∉(l::f'):=λc m n=>by
      obtain⟨⟨o,w⟩,_⟩:=Gy.zd c i (Hi.2 c n);rw[gv.2 c m] at w;cases w
     refine⟨_,ys,v,rfl,rfl,h,by rw[<- rs.length];exact aaC hc,?_⟩;obtain⟨n1,n2⟩:=ab4.mp Hi.1;have im:aV H2 (upd H2 l (.lst (ys++[v]))):=aV.upd h rfl;have mE:=rs.frame (H':=upd H2 l (.lst (ys++[v]))) (λc m=>aP λq=>n1 (by rw[<- q];exact m)) im;have rd':=rv.frame (H':=upd H2 l (.lst (ys++[v]))) (λc m=>aP λq=>qM c m (by rw[q];exact aad)) im;have Cq:(l::(f'++(fd++[]))).Nodup:=by
      rw[acG];refine ab4.mpr ⟨λm=>?_,acR.mpr ⟨n2,gv.1,λc mc e me ee=>qM e me (by rw[<- ee];exact aab _ mc)⟩⟩;rcases abl.mp m with m|m
      .exact n1 m
      .exact qM l m aad
     have Xh:∀c∈l::(f'++(fd++[])),c∈l::f'\/H1 c=none:=by
      intro c m;rw[acG] at m;rcases aaA.mp m with q|m
      .exact .inl (by rw[q];exact aad)
      .rcases abl.mp m with m|m
       .exact .inl (aab _ m)
       .exact .inr (gv.2 c m)
     obtain⟨z',aW⟩:=Gy.put (bT:=l::(f'++(fd++[]))) (d1:=.lst (ds++[d])) g2 bR Hi ((aV.of s1).trans im) (λc o n e=>by rw[aP λq=>n (by rw[q];exact aad)];exact s1 c o e)
      (.lst cD (aC.append mE (.cons rd' .nil))) Cq Xh
     exact q z' σ _ aW (.refl _ _)
   .rw[if_neg hc] at e;cases e
  .cases e
 .cases e
end
end L2.Ev
namespace L2.Ev
open PySem
theorem sq(h:sf ρ=some (.nx ρ'))(h2:sg ρ'=r):cu sf sg ρ=r:=by rw[j0,h,pX,h2]
theorem lG(h:f ρ=some (d,t))(h2:sg (iH ρ i d t)=r):cu (dJ i f) sg ρ=r:=sq (by unfold dJ;rw[h]) h2
theorem qo(h:tf ρ=some b)(h2:cu (if b=true then sf else g9) sg ρ=r):cu (fN tf sf g9) sg ρ=r:=by
 have e:fN tf sf g9 ρ=(if b=true then sf else g9) ρ:=by rw[jn,h];cases b<;>rfl
 rw[j0,e,<- j0,h2]
theorem cK(h:tf ρ=some false)(h2:sg ρ=r):cu (fN tf sf g9) sg ρ=r:=sq (by rw[jn,h];rfl) h2
theorem bA(h:f ρ=some (d,t))(h2:op d=some d1):e1 op f ρ=some (d1,.own):=by rw[yM,h,Nb,h2];rfl
theorem aG(h:f ρ=some (d1,t1))(h2:g ρ=some (d2,t2))(h3:op d1 d2=some d):e2 op f g ρ=some (d,.own):=by rw[jN,h,h2,xU,h3];rfl
theorem cL(h:g ρ=some ps)(h2:F (ps.map (·.1))=some d):cP F g ρ=some (d,.own):=by rw[s_call,h,MU,h2];rfl
theorem a_(h:f ρ=some (.bl b,t)):tV f ρ=some b:=by rw[zQ,h];rfl
theorem kN(h:tf ρ=some b):nW tf ρ=some (!b):=by rw[CL,h];rfl
open PySem PySem.Spec PyProof.Rows
def wA(i:Nat)(cn f:Str)(fk fv:EF):SF:=λρ=>match fv ρ,ρ[i]?,fk ρ with
 | some (d,_),some (some (.ins c es,.own)),some (kd,_)=>if c=cn then(match es.lookup f,iu kd with
  |some (.bf ak),some k=>if(aB d&&aL (ak.map (·.2))&&decide (ak.length<sizeLine))=true then some (.nx (bQ ρ i (.ins c (dY f (.bf (putD ak k d)) es)))) else none
  |_,_=>none) else none
 |_,_,_=>none
theorem zY(i:Nat)(hu:X.A.units+1<cLine)(hC:ClsAt X.K cn C)(na:jk X.K C f)(hk:FP X k fk)(hv:FP X v fv)(va:VA X i x:=by walk_at "va")
  (hb:attributeBase (.Name x p) f X.env (eval (.Name x p) X.env)=eval (.Name x p) X.env:=by rfl)
  (hs:swapsWith v (some (.Subscript (.Attribute (.Name x p) f p1) k pos')) pos.line X.env=pure false:=by rfl) :
  fC X (.Assign [.Subscript (.Attribute (.Name x p) f p1) k pos'] v pos) (wA i cn f fk fv):=by
 obtain⟨tk,pk,sk⟩:=hk;obtain⟨tv,jF,sv⟩:=hv;exists 25,w6 hu (tY va.pe hb) pk jF hs;unfold wA at e
 split at e
 .rename_i d td c es kd F6 g1 g2 g3
  by_cases hc:c=cn
  .subst hc;rw[if_pos rfl] at e
   split at e
   .rename_i ak key hl zI
    by_cases hc:(aB d&&aL (ak.map (·.2))&&decide (ak.length<sizeLine))=true
    .rw[if_pos hc] at e;cases e;obtain⟨c1,c3⟩:=(aaV _ _).mp hc;obtain⟨c1,c2⟩:=(aaV _ _).mp c1;refine sv ok g1 λH1 v fd s1 rv gv=>?_
     have hn:=rv.aB c1;subst hn;obtain⟨xv,fp,bR,r,zz⟩:=(ok.same s1).sl i _ _ g2;refine⟨xv,bR,?_⟩;exists 60;refine⟨b0,C,dx,fs,u,rfl,h1,hC.cl,na,h2,?_⟩;refine sk (ok.same s1) g3 λH2 y Dm s2 rk _=>?_
     have ek:=rk.key zI;subst ek;have r':=h3.same s2;generalize hw:u=w at r' h6;cases r' with
     | @bf l ks _ f' h f9 rs=>
      have hn:=rs.aB c2;subst hn;have hlen:ks.length=ak.length:=by have:=congrArg List.length f9;simpa using this.symm
      refine⟨l,_,rfl,nR.k h (by rw[hlen];exact aaC c3),?_⟩;have im:aV H2 (upd H2 l (.dK (putK ks key v))):=aV.upd h rfl;have kp:∀(c) o,c∉[l]->H1 c=some o->upd H2 l (.dK (putK ks key v)) c=some o:=λc o n e=>by rw[aP λq=>n (by rw[q];exact aad)];exact s2 c o e
      obtain⟨bT,k1,k2,k3⟩:=h6 (upd H2 l (.dK (putK ks key v))) (.bf (putD ak key d)) [l] ((aV.of s2).trans im) kp
       (.bf cD (vG f9) (AE f9 (rs.frame (λa m=>nomatch m) im) ((rv.same s2).frame (λa m=>nomatch m) im))) h4 (λc m=>.inl m)
      obtain⟨z',aW⟩:=(ok.same s1).put g2 bR zz ((aV.of s2).trans im) (λc o n e=>kp c o (λm=>n (h5 c m)) e) k1 k2 k3;exact q z' σ _ aW (.refl _ _)
    .rw[if_neg hc] at e;cases e
   .cases e
  .rw[if_neg hc] at e;cases e
 .cases e
def Cb(i:Nat)(cn f:Str)(fv:EF):SF:=λρ=>match fv ρ,ρ[i]? with
 | some (.int j,_),some (some (.ins c es,.own))=>if c=cn/\es.length < 1000 then(match es.lookup f with
  |some (.int k)=>some (.nx (bQ ρ i (.ins c (dY f (.int (k+j)) es))))
  |_=>none) else none
 |_,_=>none
theorem CU(i:Nat)(hC:ClsAt X.K cn C)(na:jk X.K C f)(hv:FP X a fv)(va:VA X i x:=by walk_at "va"):fC X (.AugAssign (.Attribute (.Name x p1) f pos') .Add a pos) (Cb i cn f fv):=by
 obtain⟨t,p,q⟩:=hv;exists 23,VZ va.pe p adh;unfold Cb at e
 split at e
 .rename_i j tg c es h1 h2
  by_cases hc:c=cn/\es.length<1000
  .rw[if_pos hc] at e;obtain⟨rfl,hl⟩:=hc
   split at e
   .rename_i m hf;cases e;obtain⟨v,bI,bR,r0,zz⟩:=ok.sl i _ _ h2;refine⟨v,bR,?_⟩;obtain⟨b,dx,fs,u,gf,rfl,h3,e2,e3,_⟩:=r0.place hC.ns zz.1 hf;obtain⟨b',xh,vv,g,ev,rfl,Ae,h4,h5,h6⟩:=r0.n8 hC.ns;cases ev;rw[h3] at Ae;cases Ae;cases e3;have lf:fs.length<1000:=by have:=congrArg List.length h5;exists 64;omega
    refine⟨b,C,dx,fs,_,rfl,h3,hC.cl,na,e2,q ok h1 λH1 y fd s1 r1 g1=>?_⟩;cases r1;refine⟨m,j,rfl,rfl,dx,fs,s1 _ _ h3,lf,?_⟩;obtain⟨z',aW⟩:=ok.fld hC h2 bR h3 s1 (.int (m+j)) acW λc m=>nomatch m
    exact k z' σ _ aW (.refl _ _)
   .cases e
  .rw[if_neg hc] at e;cases e
 .cases e
noncomputable def rR(f:EF):TF:=λρ=>match f ρ with
 |some (.lst ds,_)=>some (!ds.isEmpty)
 |_=>none
theorem Pd(h:FP X a f)(he:∀whole,isTrue a X.env whole=(do let v <- whole;standAt a.pos;holding [v] (truthy v)):=by intro _;rfl):FT X a (rR f):=by
 obtain⟨t,p,q⟩:=h;refine⟨_,aaS p he,@λH0 S z aq ρ σ H Q b ok e k=>?_⟩;unfold rR at e
 split at e
 .rename_i ds tg e1;cases e;refine q ok e1 λH1 v fp s1 r1 _=>?_
  obtain⟨w,xs,f,rfl,hq,rs,_⟩:=r1.dD;have he:(!ds.isEmpty)=!xs.isEmpty:=by cases rs<;>rfl
  exact⟨_,.inl ⟨xs,hq,rfl⟩,he ▸ k H1 s1⟩
 .cases e
theorem S3(hu:X.A.units+1<cLine)(ha:FP X a fa)(hb:FP X b fb)(hm:behindInMarks .NotIn b=false:=by rfl):FP X (.Compare a [.NotIn] [b] pos) (e2 (kC true) fa fb):=
 fp_2 Ag ha hb λta tb pa pb=>PU (MA hu pa pb) hm
end L2.Ev
namespace L2
open PySem PySem.Spec PyProof.Rows
theorem Ql(I:Inv X ah σ H s)(h:cg X.K H a (ks.map kV)):(tupleKind (gJ X.prog X.w)).is s.heap ks a:=by
 obtain⟨ay,r,⟨o,h1,h2,_,n,h3⟩,_⟩:=I.Oc h;exact⟨o,ay.toArray,n,h1,h2,h3,by simpa using Ib r⟩
def N6(K:PySem.W.Frag)(neg:Bool):R2:=λx y H Q=>∃b a k ak,x=.ref b/\y=.ref a/\cg K H b (List.map kV k)/\H a=some (.dT ak)/\Q (.bl (if neg=true then !(eX ak k).isSome else(eX ak k).isSome)) H
theorem abN(hu:X.A.units+1<cLine):di X (compareOp .In) (N6 X.K false):=by
 rintro ah s σ H x y v u Q I rx ry ⟨b,a,k,ak,rfl,rfl,hq,e,q⟩
 obtain rfl:v=Value.ref b:=rx;obtain rfl:u=Value.ref a:=ry;obtain⟨z,hd,xs,rel,dd⟩:=nN I.aK (.inl e);refine wpAny_in_heap (af1 hu) (Ql I hq) hd dd ?_;have w:=(rel.val k).vt;rw[agg] at w;rw[<- w];exact⟨.bl (eX ak k).isSome,H,I.tok _,rfl,q⟩
def aat(K:PySem.W.Frag)(td ty:TE):TE:=λσ H Q=>td σ H λx H1=>ty σ H1 λy H2=>∃a b k ak v,x=.ref a/\y=.ref b/\cg K H2 b (List.map kV k)/\H2 a=some (.dT ak)/\eX ak k=some v/\Q v H2
theorem abe(hu:X.A.units+1<cLine)(ho:PE X o td)(hi:PE X i ty)(hs:zA i):PE X (.Subscript o i pos) (aat X.K td ty):=by
 exists 44;refine NX PySem.F.slot_dict_getitem.lookup hs (ho.n I h λu s1 x H1 I1 rx q1=>cM (hi ah s1 σ H1 _ I1 q1) λiv s2 hq=>?_);obtain⟨y,H2,I2,ry,a,b,k,ak,v,ex,ey,hq,e,l,q2⟩:=hq;subst ex;subst ey;exists 59;obtain rfl:iv=Value.ref b:=ry;obtain⟨z,hd,xs,rel,dd⟩:=nN I2.aK (.inl e);obtain⟨w',hw,fq⟩:=iA.some_of (by rw[<- l];exact rel.val k);obtain⟨p,hp,xT⟩:=ach.mp hw;refine⟨dd.typeIs,wpAny_getItem_heap (af1 hu) (Ql I2 hq) dd hp ?_⟩;rw[xT];exact⟨v,H2,I2.tok _,fq,q2⟩
namespace Ev
def iy:List D->Option (List Key)
 |[]=>some []
 |d::ds=>match iu d,iy ds with
  |some k,some ks=>some (k::ks)
  |_,_=>none
theorem aC.keys{K:PySem.W.Frag}:∀{ds} {xs} {fp} {ks},aC K H ds xs fp->iy ds=some ks->xs=ks.map L2.kV
 |[],_,_,_,.nil,e=>by cases e;rfl
 |d::ds,_,_,ks,.cons r rs,e=>by
  unfold iy at e
  split at e
  .rename_i k oz h1 h2;cases e;rw[r.key h1,aC.keys rs h2];rfl
  .cases e
def Gz(neg:Bool):D->D->Option D
 |.tup ds,.cj es=>(iy ds).map λk=>.bl (if neg=true then !(aS es k).isSome else(aS es k).isSome)
 |_,_=>none
theorem afM{neg:Bool}{K:PySem.W.Frag}:gq K (N6 K neg) (Gz neg):=by
 exists 41;cases d1<;>try (cases e;done)
 cases d2<;>try (cases e;done)
 rename_i ds es;have e:((iy ds).map λk=>D.bl (if neg=true then !(aS es k).isSome else(aS es k).isSome))=some d:=e;obtain⟨w,xs,rfl,hq,rs⟩:=r1.ic;cases hk:iy ds with
 |none=>rw[hk] at e;cases e
 |some ks=>
  rw[hk] at e;cases e;obtain rfl:=aC.keys rs hk;cases r2 with
  | @cj a ak _ f h f9 tL=>
   have ev:(eX ak ks).isSome=(aS es ks).isSome:=by
    obtain⟨h1,h2⟩:=mY f9 tL;cases hv:aS es ks with
    |none=>rw[h2 hv];rfl
    |some dv=>obtain⟨v,f,jP,_⟩:=h1 dv hv;rw[jP];rfl
   refine⟨w,a,ks,ak,rfl,rfl,hq,h,?_⟩;rw[ev];exists 49
theorem Vd(hu:X.A.units+1<cLine)(ha:FP X a fa)(hb:FP X b fb)(hm:behindInMarks .In b=false:=by rfl):FT X (.Compare a [.In] [b] pos) (tV (e2 (Gz false) fa fb)):=j6 (abN hu) afM ha hb hm
def uW(fa fb:EF):EF:=λρ=>match fa ρ,fb ρ with
 |some (.cj es,t),some (.tup ds,_)=>(iy ds).bind λk=>(aS es k).map λd=>(d,k_ t)
 |_,_=>none
theorem JU(hu:X.A.units+1<cLine)(ha:FP X a fa)(hb:FP X b fb)(hs:zA b):FP X (.Subscript a b pos) (uW fa fb):=by
 exists 46;exists 20,abe hu pa pb hs;unfold uW at e
 split at e
 .rename_i es t ds t2 e1 h_;cases hk:iy ds with
  |none=>rw[hk] at e;cases e
  |some ks=>
   rw[hk,ac0] at e;cases hv:aS es ks with
   |none=>rw[hv] at e;cases e
   |some dv=>
    rw[hv] at e;cases e;refine sa ok e1 λH1 x f1 s1 r1 g1=>?_
    exists 47
    obtain⟨w,xs,rfl,hq,rs⟩:=r2.ic;obtain rfl:=aC.keys rs hk;have CY:=r1.same s2;cases CY with
    | @cj l ak _ f h f9 tL=>
     obtain⟨h1,_⟩:=mY f9 tL;obtain⟨v,f,jP,rv,sub⟩:=h1 _ hv;refine⟨l,w,ks,ak,v,rfl,rfl,hq,h,jP,?_⟩;exact q H2 v f (s1.trans s2) rv (cO.sub (λa j e=>(ok.zd a j e).1) g1 λa m=>aab _ (sub a m))
 .cases e
def A9(neg:Bool):D->D->Option D
 |d1,.lst ds=>if(dW d1&&dW (.lst ds))=true then some (.bl (if neg=true then !(d9 ds).any λy=>PyData.eqv y (py d1) else(d9 ds).any λy=>PyData.eqv y (py d1))) else none
 |_,_=>none
def F2(K:PySem.W.Frag)(neg:Bool):R2:=λx y H Q=>∃d1 ds f1 f2,Rep K H d1 x f1/\Rep K H (.lst ds) y f2/\dW d1=true/\dW (.lst ds)=true/\Q (.bl (if neg=true then !(d9 ds).any λy=>PyData.eqv y (py d1) else(d9 ds).any λy=>PyData.eqv y (py d1))) H
theorem Tz(hu:X.A.units+64<cLine):di X (compareOp .In) (F2 X.K false):=by
 exists 42;obtain⟨d1,ds,f1,f2,r1,r2,l1,l2,q⟩:=h;obtain⟨a1,a2,a3⟩:=lay_of l1;obtain⟨b1,b2,b3⟩:=lay_of l2;obtain⟨as,ra⟩:=nM I r1 rx a1;obtain⟨bs,rb⟩:=nM I r2 ry b1;rw[py] at rb b2 b3;simp only[PyData.canLay0] at b2;exact SeqAt.in_list_reads rb ra b2 a2 (by have:=Nat.min_le_right (PyData.depthAll (d9 ds)) (py d1).depth;omega) ⟨.bl _,H,I,rfl,q⟩
theorem aak(hu:X.A.units+64<cLine):di X (compareOp .NotIn) (F2 X.K true):=by
 exists 42;obtain⟨d1,ds,f1,f2,r1,r2,l1,l2,q⟩:=h;obtain⟨a1,a2,a3⟩:=lay_of l1;obtain⟨b1,b2,b3⟩:=lay_of l2;obtain⟨as,ra⟩:=nM I r1 rx a1;obtain⟨bs,rb⟩:=nM I r2 ry b1;rw[py] at rb b2 b3;simp only[PyData.canLay0] at b2;exact SeqAt.notIn_list_reads rb ra b2 a2 (by have:=Nat.min_le_right (PyData.depthAll (d9 ds)) (py d1).depth;omega) ⟨.bl _,H,I,rfl,q⟩
theorem Ob{K:PySem.W.Frag}:gq K (F2 K neg) (A9 neg):=by
 exists 41;cases d2<;>try (cases e;done)
 rename_i ds;have e:(if(dW d1&&dW (.lst ds))=true then some (D.bl (if neg=true then !(d9 ds).any λy=>PyData.eqv y (py d1) else(d9 ds).any λy=>PyData.eqv y (py d1))) else none)=some d:=by cases d1<;>exact e
 by_cases hc:(dW d1&&dW (.lst ds))=true
 .rw[if_pos hc] at e;cases e;obtain⟨c1,c2⟩:=(aaV _ _).mp hc;exact⟨d1,ds,f1,f2,r1,r2,c1,c2,k H _ (aJ.refl H) (.bl _)⟩
 .rw[if_neg hc] at e;cases e
theorem Uy(hu:X.A.units+64<cLine)(ha:FP X a fa)(hb:FP X b fb)(hm:behindInMarks .NotIn b=false:=by rfl):FT X (.Compare a [.NotIn] [b] pos) (tV (e2 (A9 true) fa fb)):=j6 (aak hu) Ob ha hb hm
theorem Z5(hu:X.A.units+64<cLine)(ha:FP X a fa)(hb:FP X b fb)(hm:behindInMarks .In b=false:=by rfl):FP X (.Compare a [.In] [b] pos) (e2 (A9 false) fa fb):=nI (Tz hu) Ob ha hb hm
theorem Ep:FP X (.Dict [] [] pos) (eC (.cj [])):=by
 refine⟨_,ae5,@λH0 S z aq ρ σ H Q d tg ok e k p hp=>?_⟩;cases e;have s2:aJ H (upd H p (.dT [])):=λb o e=>by rw[aP (cV e hp)];exact e
 exact k _ _ [p] s2 (.cj cD rfl .nil) ⟨ab4.mpr ⟨(λm=>by cases m),acW⟩,λa m=>by cases aaU.mp m;exact hp⟩
end Ev
end L2
namespace L2
open PySem PySem.W PyProof.Rows
structure oR(r:Nat->Nat->Bool)(n:Nat):Prop where
 tr:∀i j k,i<n->j<n->k<n->r i j=true->r j k=true->r i k=true
 tt:∀i j,i<n->j<n->i≠j->r i j=false->r j i=true
def jT(r:Nat->Nat->Bool)(p:Array Nat)(m:Nat):Prop:=∀i j,i<j->j<m->r (p.getD i 0) (p.getD j 0)=true
def ya(r:Nat->Nat->Bool)(p:Array Nat)(m:Nat):Prop:=∀i j,i<j->j<m->r (p.getD j 0) (p.getD i 0)=true
noncomputable abbrev bg(n:Nat)(p:Array Nat):Prop:=p.Perm (List.range n).toArray
section
variable{p:Array Nat}
theorem bg.sz(P:bg n p):p.size=n:=by rw[Array.Perm.size_eq P];simp
theorem getD_at(h:i<p.size):p.getD i 0=p[i]:=by simp[Array.getD,h]
theorem bg.lt(P:bg n p)(h:i<n):p.getD i 0<n:=by
 have hs:i<p.size:=by rw[bg.sz P];exact h
 rw[getD_at hs];have m:p[i]∈p.toList:=by simp
 have:=(agk.mp P).mem_iff.mp m;simpa using this
theorem bg.ne(P:bg n p)(hi:i<n)(hj:j<n)(h:i≠j):p.getD i 0≠p.getD j 0:=λe'=>by
 have hs:i<p.size:=by rw[bg.sz P];exact hi
 have bR:j<p.size:=by rw[bg.sz P];exact hj
 rw[getD_at hs,getD_at bR] at e';have nd:=(agk.mp P).nodup_iff.mpr (by simpa using List.nodup_range);have w:=agV.mp nd;rcases Nat.lt_or_gt_of_ne h with q|q
 .exact w i j (by simpa using hs) (by simpa using bR) q (by simpa using e')
 .exact w j i (by simpa using bR) (by simpa using hs) q (by simpa using e'.symm)
def vL(cmp:Nat->Nat->(Bool->Shared->Prop)->Shared->Prop)(r:Nat->Nat->Bool)(n:Nat)(s:Shared):Prop:=∀i j C,i<n->j<n->i≠j->C (r i j) s->cmp i j C s
theorem jT.snoc(T:oR r n)(P:bg n p)(h:jT r p m)(h1:1<=m)(hm:m<n)(h2:r (p.getD (m-1) 0) (p.getD m 0)=true):jT r p (m+1):=λi j a b=>by
 by_cases e:j=m
 .subst e
  by_cases e':i=j-1
  .subst e';exact h2
  .exact T.tr _ _ _ (bg.lt P (by lia)) (bg.lt P (by lia)) (bg.lt P (by lia)) (h i (j-1) (by lia) (by lia)) h2
 .exact h i j a (by lia)
theorem ya.snoc(T:oR r n)(P:bg n p)(h:ya r p m)(h1:1<=m)(hm:m<n)(h2:r (p.getD m 0) (p.getD (m-1) 0)=true):ya r p (m+1):=λi j a b=>by
 by_cases e:j=m
 .subst e
  by_cases e':i=j-1
  .subst e';exact h2
  .exact T.tr _ _ _ (bg.lt P (by lia)) (bg.lt P (by lia)) (bg.lt P (by lia)) h2 (h i (j-1) (by lia) (by lia))
 .exact h i j a (by lia)
theorem C1(T:oR r n)(A:vL cmp r n s)(P:bg n p):∀(f m) {G},1<=m->m+f<=n->jT r p m->
  (∀m',m<=m'->m'<=m+f->jT r p m'->(m'=m+f\/r (p.getD m' 0) (p.getD (m'-1) 0)=true)->G m' s)->(kas_asc p f m).kasWp cmp G s
 |0,m,G,_,_,hs,g=>g m (abL _) (abL _) hs (.inl rfl)
 |f+1,m,G,h1,h2,hs,g=>by
  exists 48;cases c:r (p.getD m 0) (p.getD (m-1) 0) with
  |true=>exact g m (abL _) (by lia) hs (.inr c)
  |false=>
   exact C1 T A P f (m+1) (by lia) (by lia) (hs.snoc T P h1 (by lia) (T.tt _ _ (bg.lt P (by lia)) (bg.lt P (by lia)) (bg.ne P (by lia) (by lia) (by lia)) c)) λm' a b c d=>g m' (by lia) (by lia) c (by rw[show m+1+f=m+(f+1) by lia] at d;exact d)
theorem Mi(T:oR r n)(A:vL cmp r n s)(P:bg n p):∀(f m) {G},1<=m->m+f<=n->ya r p m->
  (∀m',m<=m'->m'<=m+f->ya r p m'->G (p,m',0) s)->(kas_desc f p m 0).kasWp cmp G s
 |0,m,G,_,_,hs,g=>g m (abL _) (abL _) hs
 |f+1,m,G,h1,h2,hs,g=>by
  exists 48;cases c:r (p.getD m 0) (p.getD (m-1) 0) with
  |true=>exact Mi T A P f (m+1) (by lia) (by lia) (hs.snoc T P h1 (by lia) c) λm' a b d=>g m' (by lia) (by lia) d
  |false=>
   exists 48;rw[T.tt _ _ (bg.lt P (by lia)) (bg.lt P (by lia)) (bg.ne P (by lia) (by lia) (by lia)) c];exact g m (abL _) (by lia) hs
theorem rev_getD(hm:m<=p.size)(h:i<m):(kas_rev p 0 m).getD i 0=p.getD (m-1-i) 0:=by
 have e:=getElem?_mirror_all (i:=0) hm i;rw[if_pos ⟨aeK _,h⟩] at e;unfold kas_rev;rw[afN,afN,e]
 congr 2;lia
theorem UW(T:oR r n)(A:vL cmp r n s)(P:bg n p)(h:1<=n)(g:∀m q,1<=m->m<=n->bg n q->jT r q m->G (m,q) s):(kas_count n p).kasWp cmp G s:=by
 unfold kas_count;rw[KasT.kasWp_bind];refine C1 T A P (n-1) 1 (abL _) (by lia) (λi j a b=>by lia) λm a b hs d=>?_
 by_cases e:m=n
 .subst e;rw[if_pos (by simp)];exact g m p a (abL _) P hs
 .rw[if_neg (by simpa using e)]
  by_cases e1:m > 1
  .rw[if_pos e1];exists 48;rw[hs 0 (m-1) (by lia) (by lia)];exact g m p a (by lia) P hs
  .rw[if_neg e1];obtain rfl:m=1:=by lia
   have d:=d.resolve_left (by lia);unfold kas_descPart;rw[KasT.kasWp_bind];refine Mi T A P (n - (1 + 1)) (1 + 1) (by lia) (by lia) (λi j a b=>by
    obtain⟨rfl,rfl⟩:i=0/\j=1:=by lia
    exact d) λm' a' b' hd=>?_
   dsimp only;rw[if_neg (by lia)];unfold kas_tail3;rw[KasT.kasWp_bind];have Q:bg n (kas_rev p 0 m'):=(mirror_perm _ _ _ _).trans P;refine C1 T A Q (n-m') m' (by lia) (by lia) (λi j a b=>?_) λm2 a2 b2 c_ _=>g m2 _ (by lia) (by lia) Q c_
   rw[rev_getD (by rw[bg.sz P];lia) (by lia),rev_getD (by rw[bg.sz P];lia) (by lia)];exact hd _ _ (by lia) (by lia)
theorem Iq(T:oR r n)(A:vL cmp r n s)(P:bg n p)(hx:x<n)(hs:jT r p x):∀(f l u) {G},u-l<=f->u<=x->l<=u->(∀i,i<l->r (p.getD i 0) (p.getD x 0)=true)->(∀i,u<=i->i<x->r (p.getD x 0) (p.getD i 0)=true)->
  (∀l,l<=x->(∀i,i<l->r (p.getD i 0) (p.getD x 0)=true)->(∀i,l<=i->i<x->r (p.getD x 0) (p.getD i 0)=true)->G l s)->(kas_place p x f l u).kasWp cmp G s
 |0,l,u,G,h1,h2,h3,lo,hi,g=>g l (by lia) lo λi a b=>hi i (by lia) b
 |f+1,l,u,G,h1,h2,h3,lo,hi,g=>by
  unfold kas_place
  by_cases c:l >= u
  .rw[if_pos c];exact g l (by lia) lo λi a b=>hi i (by lia) b
  .rw[if_neg c];refine A _ _ _ (bg.lt P hx) (bg.lt P (by lia)) (bg.ne P (by lia) (by lia) (by lia)) ?_;cases d:r (p.getD x 0) (p.getD ((l+u) / 2) 0) with
   |true=>
    refine Iq T A P hx hs f l ((l+u) / 2) (by lia) (by lia) (by lia) lo (λi a b=>?_) g
    by_cases e:i=(l+u) / 2
    .rw[e];exact d
    .exact T.tr _ _ _ (bg.lt P (by lia)) (bg.lt P (by lia)) (bg.lt P (by lia)) d (hs _ i (by lia) b)
   |false=>
    have d:=T.tt _ _ (bg.lt P (by lia)) (bg.lt P (by lia)) (bg.ne P (by lia) (by lia) (by lia)) d;refine Iq T A P hx hs f ((l+u) / 2+1) u (by lia) h2 (by lia) (λi a=>?_) hi g
    by_cases e:i=(l+u) / 2
    .rw[e];exact d
    .exact T.tr _ _ _ (bg.lt P (by lia)) (bg.lt P (by lia)) (bg.lt P (by lia)) (hs i _ (by lia) (by lia)) d
theorem MD(hx:x<p.size)(hl:l<=x):(bubble p x (x-l)).getD i 0=if i=l then p.getD x 0 else if l<i/\i<=x then p.getD (i-1) 0 else p.getD i 0:=by
 have e:=getElem?_bubble hx (x-l) (by lia) i;rw[show x-(x-l)=l by lia] at e;rw[afN,e]
 by_cases h1:i=l
 .rw[if_pos h1,if_pos h1,afN]
 .rw[if_neg h1,if_neg h1]
  by_cases h2:l<i/\i<=x
  .rw[if_pos h2,if_pos h2,afN]
  .rw[if_neg h2,if_neg h2,afN]
theorem NH(T:oR r n)(A:vL cmp r n s):∀(f) (p) (x) {G},bg n p->1<=x->x+f=n->jT r p x->(∀q,bg n q->jT r q n->G q s)->(kas_bin f p x).kasWp cmp G s
 |0,p,x,G,P,_,e,hs,g=>g p P (by rw[<- e];exact hs)
 |f+1,p,x,G,P,h1,e,hs,g=>by
  unfold kas_bin;rw[KasT.kasWp_bind];refine Iq T A P (by lia) hs x 0 x (by lia) (abL _) (aeK _) (λi a=>by lia) (λi a b=>by lia) λl hl lo hi=>?_
  have hz:x<p.size:=by rw[bg.sz P];lia
  refine NH T A f _ (x+1) ((bubble_perm _ _ _).trans P) (by lia) (by lia) (λi j a b=>?_) g;rw[MD hz hl,MD hz hl]
  by_cases i1:i=l
  .rw[if_pos i1,if_neg (by lia),if_pos (by lia)];exact hi _ (by lia) (by lia)
  .rw[if_neg i1]
   by_cases j1:j=l
   .rw[if_pos j1,if_neg (by lia)];exact lo _ (by lia)
   .rw[if_neg j1]
    by_cases i2:l<i/\i<=x
    .rw[if_pos i2,if_pos (by lia)];exact hs _ _ (by lia) (by lia)
    .rw[if_neg i2]
     by_cases j2:l<j/\j<=x
     .rw[if_pos j2];exact hs _ _ (by lia) (by lia)
     .rw[if_neg j2];exact hs _ _ (by lia) (by lia)
theorem UQ(T:oR r n)(A:vL cmp r n s)(h:1<=n)(g:∀q,bg n q->jT r q n->G q s):(kas_sort n).kasWp cmp G s:=by
 unfold kas_sort;rw[KasT.kasWp_bind];refine UW T A (Array.Perm.refl _) h λm q a b Q hs=>?_
 by_cases e:m<n
 .dsimp only;rw[if_pos e,Nat.max_eq_left a];exact NH T A _ q m Q a (by lia) hs g
 .dsimp only;rw[if_neg e];obtain rfl:m=n:=by lia
  exact g q Q hs
end
open PySem PySem.Spec PySem.W PyProof.Rows
noncomputable def lex(x y:Int×Int):Bool:=decide (x.1<y.1\/x.1=y.1/\x.2<y.2)
def IsPair(h:Heap)(q:Addr)(x:Int×Int):Prop:=∃t u,IsTup h q #[.int x.1 t,.int x.2 u]
theorem VF{pr:Nat->Int×Int}(h:∀i j,i<n->j<n->pr i=pr j->i=j):oR (λi j=>lex (pr i) (pr j)) n where
 tr:=λi j k _ _ _ a b=>by
  have a:=aaC a;have b:=aaC b;exact aaq (by lia)
 tt:=λi j a b ne e=>by
  have e:=of_decide_eq_false e;have n2:¬((pr i).1=(pr j).1/\(pr i).2=(pr j).2):=λz=>ne (h i j a b (Prod.ext z.1 z.2))
  exact aaq (by lia)
theorem acD(hx:IsPair s.heap x a)(hy:IsPair s.heap y b)(h:Q (lex a b) s):wpAny (model prog w) A (keyLt' (tuples' true) (.ref x) (.ref y)) Q E s:=by
 obtain⟨t,u,o,h1,_,n,h2⟩:=hx;obtain⟨t',u',o',iB,_,n',nh⟩:=hy;refine kat_lt h1 h2 iB nh (kat_cons (wpAny_eqBool_int (kat_go (λe=>kat_yes (kat_cons (wpAny_eqBool_int (kat_go (λe2=>kat_yes (kat_nil ?_)) λe2=>kat_no (kat_one _ _ (lt_int ?_)))))) λe=>kat_no (oneLt_int ?_))))
 .have e:=eq_of_beq e;have e2:=eq_of_beq e2;have:lex a b=false:=ab8 (by omega);rw[this] at h;exact h
 .have e:=eq_of_beq e;have:lex a b=decide (a.2<b.2):=by unfold lex;congr 1;exact propext ⟨λz=>by omega,λz=>.inr ⟨e,z⟩⟩
  rw[this] at h;exact h
 .have e:=ne_of_beq_false e;have:lex a b=decide (a.1<b.1):=by unfold lex;congr 1;exact propext ⟨λz=>by omega,.inl⟩
  rw[this] at h;exact h
theorem Q4:∀{qs} {ps},Paired (IsPair h) qs ps->∃fs,KatTups h (qs.map Value.ref) fs/\fs.length=qs.length/\∀v∈fs,∃i t,v=Value.int i t
 |_,_,.nil=>⟨[],.nil,rfl,λ_ m=>nomatch m⟩
 |_,_,.cons r t=>by
  obtain⟨fs,h1,h2,h3⟩:=Q4 t;obtain⟨t,u,o,e1,e2,n,e3⟩:=r;exact⟨_::fs,KatTups.cons e1 e2 e3 rfl h1,by rw[acj,acj,h2],λv m=>(aaA.mp m).elim (λz=>⟨_,_,z⟩) (h3 v)⟩
theorem Tv{a kS:Addr}{vs:List Value}(l5:vs.length<64)(hl:qs.length=vs.length)(hp:Paired (IsPair s.heap) qs ps)(nd:ps.Nodup)
  (hk:s.heap.get? kS=some (seqObj "list" (qs.map Value.ref).toArray e)) (ha:s.heap.get? a=some (seqObj "list" #[] e1)) (ne:a≠kS)
  (h:∀q:Array Nat,bg vs.length q->jT (λi j=>lex (ps.getD i (0,0)) (ps.getD j (0,0))) q vs.length->
   P (.done (.ret .none)) { s with heap:=(s.heap.update kS (Obj.mapSeq λ_=>#[])).update a (Obj.mapSeq λ_=>(q.toList.map λi=>vs.getD i Value.none).toArray) }) :
  wpAny (model prog w) A (ksk_end a false vs.toArray e1 (.ref kS) (qs.map Value.ref).toArray) P E s:=by
 have wz:(qs.map Value.ref).length=vs.length:=by rw[List.length_map];exact hl
 have tail:∀(st) (q),bg vs.length q->jT (λi j=>lex (ps.getD i (0,0)) (ps.getD j (0,0))) q vs.length->(arrOf st).map (·.2)=(q.toList.map λi=>vs.getD i Value.none).toArray->failedOf st=none->
   wpAny (model prog w) A (ksk_tail a false e1 (.ref kS) st) P E s:=by
  intro st q hq hs ho hf;have s1:=Heap.SameBut.update s.heap kS (Obj.mapSeq λ_=>(#[]:Array Value));have RE:=(s1.2 a ne).trans ha;unfold ksk_tail;dsimp only;refine abb (listUpdate_at hk rfl ?_ (by rw[ab5,wz,ae6];lia) (aeK _));refine abb (wpAny_letGo ?_);refine abb (seqEpoch_at RE rfl ?_);refine abb (listUpdate_at RE rfl ?_ (aeK _) ?_)
  .rw[hf];simp only[bne_self_eq_false,agq,if_false];rw[ho];exact ac1 (h q hq hs)
  .simp only[agq,if_false];rw[ho,ab5,List.length_map,afI,bg.sz hq,ae6];lia
 unfold ksk_end;dsimp only;rw[if_neg abk]
 by_cases h2:vs.toArray.size<2
 .rw[if_pos h2,if_pos h2];refine abb (ac1 ?_);rw[StateT.run_pure];refine abb (ac1 ?_);dsimp only;rw[ab5] at h2;refine tail _ (List.range vs.length).toArray (Array.Perm.refl _) (λi j a b=>by lia) ?_ rfl;have e:=kat_snds wz (st:=kas_st general' ((qs.map Value.ref).toArray.zip vs.toArray) (List.range vs.length).toArray) rfl;have er:(List.range vs.length).toArray.map (kas_item ((qs.map Value.ref).toArray.zip vs.toArray))=(qs.map Value.ref).toArray.zip vs.toArray:=by
   have:=kas_range ((qs.map Value.ref).toArray.zip vs.toArray);rw[show((qs.map Value.ref).toArray.zip vs.toArray).size=vs.length by simp[hl]] at this;exact this
  rw[<- e];show((qs.map Value.ref).toArray.zip vs.toArray).map (·.2)=((List.range vs.length).toArray.map (kas_item ((qs.map Value.ref).toArray.zip vs.toArray))).map (·.2);rw[er]
 .rw[if_neg h2,if_neg h2];rw[ab5] at h2;obtain⟨fs,k1,k2,k3⟩:=Q4 hp;refine abb (kat_kind k1 (by lia) (λv m=>by obtain⟨i,t,rfl⟩:=k3 v m;exact Looks.of_pure rfl) (by decide) ?_);refine abb (ae0 (kat_run (Q:=λst s'=>s'=s/\∃q:Array Nat,bg vs.length q/\jT (λi j=>lex (ps.getD i (0,0)) (ps.getD j (0,0))) q vs.length/\(arrOf st).map (·.2)=(q.toList.map λi=>vs.getD i Value.none).toArray/\failedOf st=none)
   (G:=λq s'=>s'=s/\bg vs.length q/\jT (λi j=>lex (ps.getD i (0,0)) (ps.getD j (0,0))) q vs.length) wz (by lia) l5 (λq ow s' _ ha hf g=>⟨g.1,q,g.2.1,g.2.2,kat_snds wz ha,hf⟩) ?_) ?_ λ_ _ z=>z)
  .have lp:ps.length=vs.length:=by rw[<- Paired.length hp];exact hl
   refine UQ (VF λi j a b e=>?_) (λi j C hi hj _ hc=>?_) (by lia) λq a b=>⟨rfl,a,b⟩
   .have ei:i<ps.length:=by lia
    have ej:j<ps.length:=by lia
    simp only[adb,aa9 ei,aa9 ej,agB] at e;have w:=agV.mp nd;rcases Nat.lt_trichotomy i j with q|q|q
    .exact absurd e (w i j ei ej q)
    .exact q
    .exact absurd e.symm (w j i ej ei q)
   .have at_:∀i,i<vs.length->∃x,(qs.map Value.ref).getD i Value.none=.ref x/\IsPair s.heap x (ps.getD i (0,0)):=λi hi=>by
     have lq:i<qs.length:=by lia
     have KL:i<ps.length:=by lia
     refine⟨qs[i],by simp[adb,lq],?_⟩;rw[adb,aa9 KL,agB];have go:∀{qs} {ps},Paired (IsPair s.heap) qs ps->∀(i) (a) (b:i<ps.length),IsPair s.heap qs[i] ps[i]:=by
      intro qs ps r
      induction r with
      |nil=>intro i a;exact absurd a (Nat.not_lt_zero _)
      |cons r t ih=>intro i a b;cases i with
       |zero=>exact r
       |succ i=>exact ih i (by simpa using a) (by simpa using b)
     exact go hp i lq KL
    obtain⟨x,ex,hx⟩:=at_ i hi;obtain⟨y,ey,hy⟩:=at_ j hj;show wpAny (model prog w) A (keyLt' _ ((qs.map Value.ref).getD i Value.none) ((qs.map Value.ref).getD j Value.none)) C _ s;rw[ex,ey];exact acD hx hy hc
  .rintro⟨⟨⟩,st⟩ s' ⟨rfl,q,h1,h3,h4,h5⟩
   exact tail st q h1 h3 h4 h5
theorem Am:∀{K:PySem.W.Frag},K.lookup a=some o->(a,o)∈K
 |[],h=>by cases h
 |(b,u)::r,h=>by
  by_cases e:(a==b)=true
  .simp only[List.lookup,e] at h;cases h;rw[eq_of_beq e];exact aad
  .simp only[List.lookup,(by simpa using e:(a==b)=false)] at h;exact aab _ (Am h)
theorem acp(I:Inv X ah σ H s)(lk:X.K.lookup f0=some o0)(sh:vY o0=some (cv,q,jM)):∃cc P,cv=.ref cc/\codeHdIn X.K cc P=true/\H P=some (.i8 q jM):=by
 obtain⟨b_,ok⟩:=(aaV _ _).mp I.hq.ok;have b_:=adt.mp ((aaV _ _).mp b_).2 (f0,o0) (Am lk);have b_:=b_;rw[sh] at b_;obtain⟨⟨cc,P,q',pos'⟩,e⟩:=agd.mp (show(Cg X.K (f0,o0)).isSome=true from b_);have hm:(cc,P,q',pos')∈i_ X.K:=ag0.mpr ⟨_,Am lk,e⟩;have e':=e;unfold Cg at e';dsimp only at e';rw[sh] at e'
 split at e'
 .rename_i h;cases h
  split at e'
  .split at e'
   .cases e';refine⟨cc,P,rfl,?_,I.hq.lm _ hm⟩
    split at ok
    .rename_i e;rw[e] at hm;cases hm
    .rename_i r e;rw[e] at hm;cases aaU.mp hm;exact((aaV _ _).mp ok).1
    .cases ok
   .cases e'
  .cases e'
 .cases e'
theorem Wy(I:Inv X ah σ H s)(lk:X.K.lookup f0=some o0)(sh:vY o0=some (X.env.code,q,jM))(wQ:defaultsOf args X.env=([],[]))(vq:closureFor sc X.env=pure pW)(hq:X.env.qual++"<lambda>"=q)
  (h:∀f c' iZ pm H' s',Inv X ((f,kla_obj "<lambda>" q args body sc pW pm c' iZ)::ah) σ H' s'->aJ H H'->H' c'=some (.jD q)->Q (.ref f) s'):wpAny (model X.prog X.w) A (eval (.Lambda args body sc jM) X.env) Q E s:=by
 refine kla_eval wQ ?_;rw[hq];obtain⟨cc,P,Rz,hc,hP⟩:=acp I lk sh;obtain⟨ps,eP,tU⟩:=I.aK P _ hP;have C:=codeHd_of_K I.d_ hc;have g:=I.ok.mod.glob.keeps I.bk;obtain⟨bm,ob,b1,b2,b3,b4,b5,b6⟩:=I.ok.mod.bmn;have nP:∀{b} {o},X.base.get? b=some o->b≠P:=λ{b o} e z=>by
  have:=(I.bs b o e).2;rw[z,hP] at this;cases this
 obtain⟨om,es,ep,em,dm,_⟩:=id I.ok.mod.glob;have hb:s.heap.BuiltinsAt X.mg P:=⟨bm,ob,b1,b2,(λz=>by rw[z,em] at b3;cases b3;rw[dm] at b6;cases b6),nP b3,I.bk _ _ b3,b4,b5,b6⟩
 have fin:∀(f) (o) (H') (s'),Inv X ah σ H' s'->s'.heap.get? f=some o->s.heap.objs.size<=f->H' f=none->(∀v,o.data≠.cell v)->Inv X ((f,o)::ah) σ H' s':=λf o H' s' J e hf hn hd=>by
  refine J.t_ λp hp=>?_
  rcases aaA.mp hp with rfl|hp
  .exact⟨e,hn,af5 (ac3 I.lt hf),I.Se hf,hd⟩
  .exact J.pin p (aas _ hp)
 rcases tU with rfl|⟨c',rfl,sJ⟩
 .refine kla_makeFunction vq I.ok.glob g Rz C eP trivial rfl (nP em) hb λc' iZ h' tk hx AZ cU adn QO=>?_
  have fc:=I.aK.fresh AZ;have ff:=I.aK.fresh (afY (agp AZ cU));have up:∀{b} {o},H b=some o->upd H c' (.jD q) b=some o:=λ{b o} e=>by rw[aP (cV e fc)];exact e
  have pu:∀(b) (o),b≠P->s.heap.get? b=some o->(h'.push (kla_obj "<lambda>" q args body sc pW ((X.mg "__name__").getD .none) c' iZ)).get? b=some o:=λb o n e=>aax _ (hx b o n e)
  have Lc:∀{b},H b=none->b≠P:=λ{b} e z=>by rw[z,hP] at e;cases e
  have J:Inv X ah σ (upd H c' (.jD q)) { s with heap:=h'.push (kla_obj "<lambda>" q args body sc pW ((X.mg "__name__").getD .none) c' iZ),toks:=tk }:=by
   refine I.un ⟨λb o e n _ _=>pu b o (Lc n) e,λb o e n _ _=>⟨o.slots,pu b o (Lc n) e⟩,λb o e n _=>?_,λb o e _=>?_,λb t e=>up e,λb o u e=>up e,λb ps e=>⟨#[],by rw[up e];simp⟩⟩ λa o e=>?_
   .rw[aP (acX (ac3 (ab2 e) AZ))];exact n
   .by_cases z:b=P
    .rw[z];exact⟨_,aax _ QO⟩
    .exact⟨o,pu b o z e⟩
   .by_cases z:a=c'
    .subst z;rw[cD] at e;cases e;exact adn.push _
    .rw[aP z] at e
     by_cases z2:a=P
     .subst z2;rw[hP] at e;cases e;exact⟨_,aax _ QO,.inr ⟨c',by simp,cD⟩⟩
     .refine(I.aK a o e).nO (λb u yG q=>pu b u ?_ q) (λb q=>up q) λb t q=>up q
      rcases yG with z3|z3
      .rw[z3];exact z2
      .intro z4;rw[z4,hP] at z3;cases z3
  refine h _ c' iZ _ _ _ (fin _ _ _ _ J (acC _ rfl) (afY (agp AZ cU)) ?_ (λv z=>by cases z)) (λb o e=>up e) cD;rw[aP (af5 cU)];exact ff
 .refine kla_makeFunctionHit vq I.ok.glob g Rz C eP (TriplesOk_snoc _ _ _ [] trivial) (codeAmong_snoc [] trivial rfl) hb λiZ h' tk hk hsz=>?_
  exact h _ c' iZ _ H _ (fin _ _ _ _ (I.kept λb u e=>aax _ (hk b u e)) (acC _ rfl) hsz (I.aK.fresh hsz) λv z=>by cases z) (aJ.refl H) sJ
noncomputable def sS(X:Cx)(A:Around)(x y:Str)(q:Str)(sc:Scope)(f:Addr)(cd:Value)(pW:List (Str×Addr))(s:Shared)(H:Hp):Cx where
 prog:=X.prog
 w:=X.w
 K:=X.K
 mg:=X.mg
 base:=X.base
 A:=A.deeper (envX q sc s.heap.objs.size f cd pW)
 N:=[x,y]
 eT:=s
 v9:=H
 env:=envX q sc s.heap.objs.size f cd pW
 outer:=X.stack
 stack:=envX q sc s.heap.objs.size f cd pW::X.stack
 ex:=[]
 fn:=λ_=>false
 calm:=X.calm
 pn:=[]
 xe:=λ_ _=>False
structure BY(sc:Scope)(args:Arguments)(x y:Str):Prop where
 kind:sc.kind=.function
 co:sc.isCoroutine=false
 gen:sc.isGenerator=false
 w_:∀z∈sc.names,z.2≠.cell
 loc:sc.names.lookup x=some .local
 xP:sc.names.lookup y=some .free
 one:∀z∈sc.names,z.2=.free->z.1=y
 YI:∀(q) (body) (pW) (pm aX iZ u),bindArgs (kla_fn "<lambda>" q args body sc pW pm aX iZ) ⟨[u],[]⟩=pure [(x,u)]
theorem VJ{j:Nat}(I:Inv X ah σ H s)(S:BY sc args x y)(hf:(f,kla_obj "<lambda>" q args body sc [(y,c)] pm c' iZ)∈ah)(hc:H c'=some (.jD q))
  (oN:X.env.cells.lookup y=some c) (hj:X.N[j]? = some y) (hv:σ[j]? = some (some v1)) (rP:X.env.scope.names.lookup y=some .cell) (ru:RelV v0 u) (hA:A.frames=X.A.frames) (hh:A.handled=X.A.handled) (hr:A.depth<recursionLimit)
  (hb:PE (sS X A x y q sc f (.ref c') [(y,c)] s H) body te) (h:te [some v0,some v1] H Q):wpAny (model X.prog X.w) A (call (.ref f) [u]) (EP X ah σ Q) E s:=by
 have Xd:=(I.pin _ (aas _ hf)).1;refine wpAny_call (codeAny_mono (R:=λr s'=>match r with|.ok (.ret v)=>CE X.stack X.prog X.w H s Q v s'|_=>False) ?_ λr s' z=>?_)
 .refine kla_callFunE hr Xd rfl S.co S.gen rfl (I.aK c' _ hc) ?_;rw[S.YI];refine ac1 (wpAny_newFunctionEnv S.w_ (λz m=>by cases aaU.mp m;exact S.loc) (λCd uS GY=>?_) S.kind);have yH:∀b o,s.heap.get? b=some o->Cd.get? b=some o:=λb o e=>GY.extBut b o (acX (ab2 e)) (aax _ e)
  refine⟨(I.ok.mod.nolimit.keeps I.bk).keeps yH,?_⟩;have cl:∀{z} {d},List.lookup z [(y,c)]=some d->z=y/\d=c:=λ{z d} e=>by
   by_cases w:(z==y)=true
   .simp only[List.lookup,w] at e;cases e;exact⟨eq_of_beq w,rfl⟩
   .simp only[List.lookup,(by simpa using w:(z==y)=false)] at e;cases e
  have cy:List.lookup y [(y,c)]=some c:=by simp[List.lookup]
  have uw:∀b:Addr,b∉(sS X A x y q sc f (.ref c') [(y,c)] s H).ex:=λb z=>absurd (show b∈([]:List Addr) from z) (by simp)
  have J:Inv (sS X A x y q sc f (.ref c') [(y,c)] s H) [] [some v0,some v1] H { s with heap:=Cd,toks:=s.toks+[(x,u)].length }:=by
   refine⟨⟨I.ok.mod,S.kind,rfl,rfl,abL _,λa b d h1 h2=>?_,λa ha=>?_,(λa d h _=>by cases h),λhc=>?_,Around.frames_deeper (hA.trans I.ok.frames),.inr ⟨rfl,rfl⟩,λb z=>absurd z (uw b),I.bs,adk I.ok.kF I.sz,λb _ _=>uw b,λb z=>absurd z (uw b),I.stack,I.GX⟩,
    rfl,I.bare,Un.kept yH,⟨_,uS,λi z v h1 h2 h3=>?_⟩,λz d e=>?_,I.aK.fresh (abL _),λz d e=>?_,λp hp=>absurd (show p∈([]:List (Addr×Obj)) from hp) (by simp),I.aK.kept yH,rfl,⟨?_,I.hq.ok,I.hq.lm⟩⟩
   .exact(cl h1).1.trans (cl h2).1.symm
   .have ha:=ha;rcases ha with ha|ha
    .exact absurd rfl (S.w_ _ (PySem.mem_of_lookup ha))
    .have e:a=y:=S.one _ (PySem.mem_of_lookup ha) rfl;rw[e];exact⟨c,cy⟩
   .have:=I.ok.hd hc;exact hh.trans this
   .match i,h1,h2 with
    |0,h1,h2=>
     cases h1;cases h2;refine⟨u,ru,.inl ⟨S.loc,by simp[List.lookup]⟩⟩
    |1,h1,h2=>
     cases h1;cases h2;obtain⟨m,_,hl⟩:=I.loc;obtain⟨u1,r1,l⟩:=hl j y v1 hj hv (.inr (.inl rP));refine⟨u1,r1,.inr ⟨.inr S.xP,c,cy,?_⟩⟩;rcases l with⟨kk,_⟩|⟨_,d,e,o,ho,hd⟩
     .rw[show X.env.kindOf y=some .cell from rP] at kk;cases kk
     .rw[oN] at e;cases e;exact⟨o,yH _ _ ho,hd⟩
    |i+2,h1,h2=>exact absurd h2 (by simp)
   .rw[(cl e).2];obtain⟨w,o,ho,hd⟩:=I.cell y c oN;exact⟨w,o,yH _ _ ho,hd⟩
   .rw[(cl e).2];exact I.jZ y c oN
   .have:=I.hq.hd;unfold yu at this ⊢;rw[show(sS X A x y q sc f (.ref c') [(y,c)] s H).A.handled=X.A.handled from hh];exact this
  refine kla_codeExpr (ae0 (hb [] _ _ H _ J h) (?_) λ_ _ z=>z.elim)
  rintro v s' ⟨v',H',J',rv,q'⟩
  exact⟨v',H',J'.os,J'.bare,J'.base,J'.aK,rv,q'⟩
 .cases r with
  |error e=>exact z.elim
  |ok fl=>
   cases fl with
   |ret w=>exact I.after z
   |next=>exact z
   |brk=>exact z
   |cont=>exact z
theorem X8(r:aU [.int a,.int b] ay):∃t u,ay=[.int a t,.int b u]:=by
 cases r with
 |cons h1 r=>cases r with
  |cons h2 r=>cases r;obtain⟨t,rfl⟩:=h1;obtain⟨u,rfl⟩:=h2;exact⟨t,u,rfl⟩
theorem IntsAre.at{vs:List Value}{ns:List Int}(h:IntsAre vs ns):∀{j:Nat} {v},vs[j]? = some v->∃n t,ns[j]? = some n/\v=.int n t:=by
 induction h with
 |nil=>intro j v e;simp at e
 |cons n t _ ih=>
  intro j v e;cases j with
  |zero=>cases e;exact⟨n,t,rfl,rfl⟩
  |succ j=>exact ih (by simpa using e)
theorem Paired.Tn{α β:Type}{R:α->β->Prop}{l:List α}{m:List β}{a:α}{b:β}(h:Paired R l m)(r:R a b):Paired R (l++[a]) (m++[b]):=by
 induction h with
 |nil=>exact .cons r .nil
 |cons r' _ ih=>exact .cons r' ih
theorem Mc(h:IntsAre ay ns):∀(l:List Nat),(∀i∈l,i<ns.length)->aU ((l.map λi=>ns.getD i 0).map V.int) (l.map λi=>ay.getD i Value.none)
 |[],_=>.nil
 |i::l,hl=>by
  have hi:=hl i aad;have L8:i<ay.length:=by rw[h.length];exact hi
  obtain⟨n,t,e1,e2⟩:=IntsAre.at h (aa9 L8);refine .cons ?_ (Mc h l λj m=>hl j (aab _ m));show RelV (V.int (ns.getD i 0)) (ay.getD i Value.none);rw[adb,adb,e1,aa9 L8,e2];exact⟨t,rfl⟩
theorem aeA{ns:List Int}{q:Array Nat}(P:bg ns.length q):(q.toList.map λi=>ns.getD i 0).Perm ns:=by
 have h:=(agk.mp P).map λi=>ns.getD i 0
 have e:((List.range ns.length).toArray.toList.map λi=>ns.getD i 0)=ns:=by
  refine List.ext_getElem (by simp) λi h1 h2=>?_
  simp[adb,h2]
 rw[e] at h;exact h
section
variable{j:Nat}{te:Addr->Addr->Shared->Hp->TE}
theorem XZ{H2:Hp}{p f c':Addr}{iZ pm:Value}{v1:V}{ns:List Int}{pr:Int->Int×Int}{Q:VK}(I:Inv X ((f,kla_obj "<lambda>" q args body sc [(y,c)] pm c' iZ)::ah) σ H2 s)(S:BY sc args x y)(hc:H2 c'=some (.jD q))
  (oN:X.env.cells.lookup y=some c) (hj:X.N[j]? = some y) (hv:σ[j]? = some (some v1)) (rP:X.env.scope.names.lookup y=some .cell) (xD:X.A.in1.in1.depth<recursionLimit)
  (hb:∀f c' s H,PE (sS X X.A.in1.in1 x y q sc f (.ref c') [(y,c)] s H) body (te f c' s H)) (hq:bX X.K H2 p (ns.map V.int)) (l5:ns.length<64) (nd:(ns.map pr).Nodup)
  (ht:∀s H3,aJ H2 H3->∀n∈ns,te f c' s H3 [some (.int n),some v1] H3 λv H4=>∃k,v=.ref k/\cg X.K H4 k [.int (pr n).1,.int (pr n).2]/\aJ H3 H4)
  (hQ:∀(Hf) (D) (eY:List Int),aJ H2 Hf->H2 D=none->Hf D=some (.lst (eY.map V.int))->eY.Perm ns->eY.Pairwise (λa b=>lex (pr a) (pr b)=true)->Q (.ref D) Hf) :
  Y1 X X.A (call (.builtin "sorted") [.ref p] [(Str.ofString "key",.ref f)]) (EP X ah σ Q) X.xe s:=by
 obtain⟨ay,ri,pl,hz⟩:=I.list hq;have hi:=intsAre_of ri;have li:=hi.length;have zl:ay.length<=sizeLine:=by rw[ae6];lia
 refine call_function_entry_kw kind_sorted plain_sorted entry_sorted (ksk_s1 _ _) ?_;unfold Builtin.«sorted»;refine abb (ac1 ?_);refine abb (collect_list pl.isList ?_ zl);refine abb (wpAny_newList ?_ zl);generalize Le:(s.heap.push (seqObj "list" #[] 0)).update s.heap.objs.size (Obj.mapSeq (·++ay.toArray))=h3;have k3:∀b o,s.heap.get? b=some o->h3.get? b=some o:=λb o e=>by
  rw[<- Le,agi _ _ _ _ (acX (ab2 e))];exact aax _ e
 have z3:h3.objs.size=s.heap.objs.size+1:=by rw[<- Le,Heap.size_update,size_push']
 have hD:(h3.push (seqObj "list" ay.toArray 0)).get? h3.objs.size=some (seqObj "list" ay.toArray 0):=acC _ rfl;refine abb (agn (wpAny_call_entry_kw slot_list_sort ⟨_,hD,rfl⟩ entry_list_sort ?body (ksk_l1 _ _)))
 case body=>
  rw[ksk_t1];obtain⟨e1,Oj⟩:∃e1,((h3.push (seqObj "list" ay.toArray 0)).update h3.objs.size (Obj.mapSeq λ_=>(#[]:Array Value))).get? h3.objs.size=some (seqObj "list" #[] e1):=⟨_,get?_update_seq hD λ_=>#[]⟩
  unfold ksk_tree;refine abb (listItems_at hD rfl ?_);refine abb (listUpdate_at hD rfl ?_ (by rw[ab5];exact zl) (aeK _));refine abb (seqEpoch_at Oj rfl ?_);refine abb (wpAny_newTuple ?_ (by show ay.length<=_;exact zl));refine abb (wpAny_newList ?_ (aeK _));refine agn ?_;generalize DL:((h3.push (seqObj "list" ay.toArray 0)).update h3.objs.size (Obj.mapSeq λ_=>(#[]:Array Value))).push (seqObj "tuple" ay.toArray 0)=h6;have z6:h6.objs.size=s.heap.objs.size+3:=by rw[<- DL,size_push',Heap.size_update,size_push',z3]
  have k6:∀b o,s.heap.get? b=some o->h6.get? b=some o:=λb o e=>by
   have cU:=ab2 e;rw[<- DL];refine aax _ ?_;rw[agi _ _ _ _ (acX (ac3 cU (by rw[z3];exact Nat.le_succ _)))];exact aax _ (k3 b o e)
  have VE:h6.get? h3.objs.size=some (seqObj "list" #[] e1):=by rw[<- DL];exact aax _ Oj
  generalize hDe:h3.objs.size=D at *;generalize Z6:h6.objs.size=kS at *;have fD:=I.rH (H':=λ_=>none) (b:=D) (by lia) rfl;have fK:=I.rH (H':=λ_=>none) (b:=kS) (by lia) rfl;have FH:D≠kS:=by lia
  have Jr:∀{H:Hp}{s':Shared} {b} {o},iE X ((f,kla_obj "<lambda>" q args body sc [(y,c)] pm c' iZ)::ah) (λ_=>none) b->H b=none->s'.heap.get? b=some o->(∀v,o.data≠.cell v)->
    s'.heap.get? b=some o/\H b=none/\b≠X.env.locals/\b∉X.fs/\∀v,o.data≠.cell v:=λF a b d=>⟨b,a,F.2.1,F.2.2.1,d⟩
  have J0:Inv X ((kS,seqObj "list" (List.map Value.ref []).toArray 0)::(D,seqObj "list" #[] e1)::(f,kla_obj "<lambda>" q args body sc [(y,c)] pm c' iZ)::ah) σ H2 { s with heap:=h6.push (seqObj "list" #[] 0) }:=by
   have J:=I.kept (h':=h6.push (seqObj "list" #[] 0)) (t':=s.toks) λb o e=>aax _ (k6 b o e)
   refine J.t_ λp hp=>?_
   rcases aaA.mp hp with rfl|hp
   .exact Jr fK (I.aK.fresh (by lia)) (by rw[<- Z6];exact acC _ rfl) (λv z=>by cases z)
   .rcases aaA.mp hp with rfl|hp
    .exact Jr fD (I.aK.fresh (by lia)) (aax _ VE) (λv z=>by cases z)
    .exact J.pin p (aas _ hp)
  unfold ksk_rest;refine abb (wpAny_rule ?_);rw[List.forIn_toArray];refine abb (ksk_fold (λi s'=>∃(H:Hp) (qs:List Addr) (e:Nat),Inv X ((kS,seqObj "list" (qs.map Value.ref).toArray e)::(D,seqObj "list" #[] e1)::(f,kla_obj "<lambda>" q args body sc [(y,c)] pm c' iZ)::ah) σ H s'/\aJ H2 H/\
   Paired (λk n=>cg X.K H k [.int (pr n).1,.int (pr n).2]) qs (ns.take i)) ay 0 _ ⟨H2,[],0,J0,aJ.refl _,.nil⟩ (λi u s' hu hI=>?_) λs' hI=>?_)
  .rw[agv] at hI ⊢;obtain⟨H,qs,e,J,sm,pd⟩:=hI;obtain⟨n,t,en,rfl⟩:=IntsAre.at hi hu;have ln:=Paired.length pd;have vP:=(abP.mp en).1;rw[agW] at ln;refine abb (wpAny_attempt (ae0 (VJ (v0:=.int n) (E:=λ_ _=>False) J S (aab _ (aab _ aad)) (sm _ _ hc) oN hj hv rP ⟨t,rfl⟩ rfl rfl xD (hb f c' s' H) (ht s' H sm n (adU en))) (λk tH hk=>?_) λ_ _ z=>z.elim));obtain⟨v,H',J',rv,k',rfl,sq,yL⟩:=hk;obtain rfl:k=.ref k':=rv;have pk:=(J'.pin _ (aas _ aad))
   have ea:((qs.map Value.ref).toArray).push (.ref k')=((qs++[k']).map Value.ref).toArray:=by simp
   obtain⟨c2,yK⟩:∃c2,(tH.heap.update kS (Obj.mapSeq (·.push (.ref k')))).get? kS=some (seqObj "list" ((qs++[k']).map Value.ref).toArray c2):=⟨_,by rw[<- ea];exact get?_update_seq pk.1 (·.push (.ref k'))⟩
   dsimp only;refine abb (listUpdate_at pk.1 rfl ?_ (by rw[ab5,List.length_map,ln,ae6];lia) (adk (Nat.le_of_eq (Array.size_push ..)) (by rw[ab5,List.length_map,ln,ae6];lia)));refine ac1 ⟨rfl,H',qs++[k'],c2,?_,sm.trans yL,?_⟩
   .have J1:=J'.t_ λp hp=>J'.pin p (aas _ (aab _ hp))
    have J2:=J1.turned (h':=tH.heap.update kS (Obj.mapSeq (·.push (.ref k')))) (t':=tH.toks) (λb o n e=>(agi _ _ _ _ n).trans e) pk.2.1 fK.2.1 fK.2.2.2.1 fK.2.2.2.2.1 λp hp=>by
     rcases abl.mp hp with hp|hp
     .exact fK.2.2.2.2.2 p (abj _ hp)
     .rcases aaA.mp hp with rfl|hp
      .exact FH
      .exact fK.2.2.2.2.2 p (aas _ hp)
    refine J2.t_ λp hp=>?_
    rcases aaA.mp hp with rfl|hp
    .exact Jr fK pk.2.1 yK (λv z=>by cases z)
    .exact J2.pin p (aas _ hp)
   .rw[List.take_succ,en];exact Paired.Tn (Paired.B9 pd λk n r=>by
     rcases r with(r|⟨o,r⟩)|r
     .exact .inl (.inl (yL _ _ r))
     .exact .inl (.inr ⟨o,yL _ _ r⟩)
     .exact .inr r) sq
  .rw[agv] at hI;obtain⟨H,qs,e,J,sm,pd⟩:=hI;rw[li,List.take_length] at pd;have lq:=Paired.length pd;have pk:=(J.pin _ (aas _ aad))
   have pD:=(J.pin _ (aas _ (aab _ aad)))
   refine abb (listItems_at pk.1 rfl ?_);have pp:∀{l} {qs},Paired (λk n=>cg X.K H k [.int (pr n).1,.int (pr n).2]) qs l->Paired (IsPair s'.heap) qs (l.map pr):=by
    intro l qs r
    induction r with
    |nil=>exact .nil
    |cons r _ ih=>
     refine .cons ?_ ih;obtain⟨it,rv,tp,_⟩:=J.tuple r;obtain⟨t,u,rfl⟩:=X8 rv;exact⟨t,u,tp⟩
   refine Tv (by lia) (by rw[lq,li]) (pp pd) nd pk.1 pD.1 FH λq2 P2 S2=>?_
   rw[li] at P2 S2;have ql:∀i∈q2.toList,i<ns.length:=λi m=>by
    have:=(agk.mp P2).mem_iff.mp m;simpa using this
   refine⟨_,rfl,ac1 ⟨_,rfl,?_⟩⟩;have J1:=J.t_ λp hp=>J.pin p (aas _ (aab _ (aab _ (aab _ hp))))
   have np:∀{b},iE X ((f,kla_obj "<lambda>" q args body sc [(y,c)] pm c' iZ)::ah) (λ_=>none) b->∀p∈X.pn++ah,p.1≠b:=λF p hp=>F.2.2.2.2.2 p ((abl.mp hp).elim (λz=>abj _ z) λz=>aas _ (aab _ z))
   have J2:=J1.turned (h':=s'.heap.update kS (Obj.mapSeq λ_=>#[])) (t':=s'.toks) (λb o n e=>(agi _ _ _ _ n).trans e) pk.2.1 fK.2.1 fK.2.2.2.1 fK.2.2.2.2.1 (np fK);have J3:=J2.turned (h':=(s'.heap.update kS (Obj.mapSeq λ_=>#[])).update D (Obj.mapSeq λ_=>(q2.toList.map λi=>ay.getD i Value.none).toArray)) (t':=s'.toks) (λb o n e=>(agi _ _ _ _ n).trans e) pD.2.1 fD.2.1 fD.2.2.2.1 fD.2.2.2.2.1 (np fD);have Xb:=get?_update_seq (h:=s'.heap.update kS (Obj.mapSeq λ_=>#[])) ((agi _ _ _ _ FH).trans pD.1) λ_=>(q2.toList.map λi=>ay.getD i Value.none).toArray
   refine⟨.ref D,upd H D (.lst ((q2.toList.map λi=>ns.getD i 0).map V.int)),J3.YB pD.2.1 ⟨?_,fD.2.1,fD.2.2.2.2.1,np fD⟩ ⟨?_,_,_,Mc hi _ ql,Xb⟩,rfl,hQ _ D _ (λb o e=>?_) ?_ cD (aeA P2) ?_⟩
   .exact agO (by have:=I.sz;lia)
   .rw[List.length_map,List.length_map,afI,bg.sz P2,ae6];lia
   .rw[aP (cV (sm b o e) pD.2.1)];exact sm b o e
   .cases e:H2 D with
    |none=>rfl
    |some o=>have:=sm D o e;rw[pD.2.1] at this;cases this
   .rw[agV];intro i k hi hk Z1;have hq:∀i,i<ns.length->(hx:i<(q2.toList.map λi=>ns.getD i 0).length)->pr ((q2.toList.map λi=>ns.getD i 0)[i])=(ns.map pr).getD (q2.getD i 0) (0,0):=λi hi hx=>by
     have hs:i<q2.size:=by rw[bg.sz P2];exact hi
     have cU:=bg.lt P2 hi;rw[List.getElem_map,getD_at hs];rw[getD_at hs] at cU;simp[adb,cU]
    have hz:(q2.toList.map λi=>ns.getD i 0).length=ns.length:=by rw[List.length_map,afI,bg.sz P2]
    rw[hq i (by lia) hi,hq k (by lia) hk];exact S2 i k Z1 (by lia)
def Kz(K:PySem.W.Frag)(j:Nat)(te:Addr->Addr->Shared->Hp->TE)(σ:St)(Q:VK)(x:V)(H1:Hp):Prop:=∃(p:Addr) (ns:List Int) (pr:Int->Int×Int) (v1:V),x=.ref p/\bX K H1 p (ns.map V.int)/\ns.length<64/\(ns.map pr).Nodup/\σ[j]? = some (some v1)/\
 (∀f c' s H3,aJ H1 H3->∀n∈ns,te f c' s H3 [some (.int n),some v1] H3 λv H4=>∃k,v=.ref k/\cg K H4 k [.int (pr n).1,.int (pr n).2]/\aJ H3 H4)/\
 ∀(Hf) (D) (eY:List Int),aJ H1 Hf->H1 D=none->Hf D=some (.lst (eY.map V.int))->eY.Perm ns->eY.Pairwise (λa b=>lex (pr a) (pr b)=true)->Q (.ref D) Hf
def tSK(K:PySem.W.Frag)(j:Nat)(ta:TE)(te:Addr->Addr->Shared->Hp->TE):TE:=λσ H Q=>ta σ H (Kz K j te σ Q)
theorem Th{a:Expr}{ta:TE}{p kp pos jM:Pos}{f0:Addr}{o0:Obj}(hm:X.mg "sorted"=none)(ha:PE X a ta)(S:BY sc args x y)(lk:X.K.lookup f0=some o0)(sh:vY o0=some (X.env.code,q,jM))(hq:X.env.qual++"<lambda>"=q)(vq:closureFor sc X.env=pure [(y,c)])
  (oN:X.env.cells.lookup y=some c) (hj:X.N[j]? = some y) (rP:X.env.scope.names.lookup y=some .cell) (xD:X.A.in1.in1.depth<recursionLimit) (hb:∀f c' s H,PE (sS X X.A.in1.in1 x y q sc f (.ref c') [(y,c)] s H) body (te f c' s H))
  (wQ:defaultsOf args X.env=([],[]):=by rfl) (hg:Gl X "sorted":=by rfl) (hs:Y2 X a:=by rfl)
  (h1:backTo pos (starEach [a] X.env)=(false,eval a X.env)::backTo pos (starEach [] X.env):=by rfl) (h2:(backTo pos (starEach [a] X.env)).any (·.1)=false:=by rfl)
  (h3:(backToKw pos (keywordEach [⟨some "key",.Lambda args body sc jM,kp⟩] X.env)).all (·.1.isSome)=true:=by rfl) (h4:(backToKw pos (keywordEach [⟨some "key",.Lambda args body sc jM,kp⟩] X.env)).any (·.1.isNone)=false:=by rfl)
  (h5:(backToKw pos (keywordEach [⟨some "key",.Lambda args body sc jM,kp⟩] X.env)).filterMap (·.1)=[("key":Str)]:=by rfl) :
  PE X (.Call (.Name "sorted" p) [a] [⟨some "key",.Lambda args body sc jM,kp⟩] pos) (tSK X.K j ta te):=by
 exists 44;refine afS (pJ I hg hm (show bootBuiltins "sorted"=some (.builtin "sorted") by decide +kernel) ?_ (by decide) (by decide));refine callWith_kw ?_ h1 h2 h3 h4;rw[h5];refine JH (d8 ha fY hs pos ah s σ H (λvs H1=>match vs with|[x]=>Kz X.K j te σ Q x H1|_=>False) I h) λus s1 vs H1 I1 rv q1=>?_
 rcases vs with _|⟨x,_|⟨x2,r2⟩⟩
 .exact q1.elim
 .obtain⟨u,rfl,ru⟩:=vals1 rv;obtain⟨p,ns,pr,v1,rfl,oV,l5,nd,hv,ht,hQ⟩:=q1;cases ru;refine kws_cons (Wy I1 lk sh wQ vq hq λf c' iZ pm H' s' J sm hc=>kws_nil ?_);refine XZ J S hc oN hj hv rP xD hb (oV.elim (λz=>.inl (z.elim (λz=>.inl (sm _ _ z)) λ⟨o,z⟩=>.inr ⟨o,sm _ _ z⟩)) .inr) l5 nd (λs H3 yL=>ht f c' s H3 (sm.trans yL)) λHf D eY s1 n1=>hQ Hf D eY (sm.trans s1) ?_
  cases e:H1 D with
  |none=>rfl
  |some o=>have:=sm D o e;rw[n1] at this;cases this
 .exact q1.elim
end
end L2
namespace L2.Ev
open PySem PySem.Spec PyProof.Rows
def uM(pr:Int->Int×Int)(x:Int):List Int->List Int
 |[]=>[x]
 |y::r=>if lex (pr x) (pr y)=true then x::y::r else y::uM pr x r
def jJ(pr:Int->Int×Int):List Int->List Int
 |[]=>[]
 |x::r=>uM pr x (jJ pr r)
theorem Iu(x:Int):∀l:List Int,(uM pr x l).Perm (x::l)
 |[]=>.refl _
 |y::r=>by
  unfold uM
  split
  .exact .refl _
  .exact((Iu x r).cons y).trans (.swap x y r)
theorem wH:∀l:List Int,(jJ pr l).Perm l
 |[]=>.refl _
 |x::r=>(Iu x (jJ pr r)).trans ((wH r).cons x)
theorem lex_trans(h:lex a b=true)(g:lex b c=true):lex a c=true:=by
 have h:=aaC h;have g:=aaC g;exact aaq (by lia)
theorem Zv(h:a≠b)(g:¬lex a b=true):lex b a=true:=by
 have n2:¬(a.1=b.1/\a.2=b.2):=λz=>h (Prod.ext z.1 z.2)
 have g:¬(a.1<b.1\/a.1=b.1/\a.2<b.2):=λz=>g (aaq z)
 exact aaq (by omega)
theorem Rn(x:Int):∀{l},(∀y∈l,pr x≠pr y)->l.Pairwise (λa b=>lex (pr a) (pr b)=true)->(uM pr x l).Pairwise (λa b=>lex (pr a) (pr b)=true)
 |[],_,_=>List.pairwise_singleton _ _
 |y::r,n,h=>by
  obtain⟨h1,h2⟩:=adS.mp h;unfold uM
  split
  .rename_i hx;exact adS.mpr ⟨λz m=>(aaA.mp m).elim (λe=>e ▸ hx) λm=>lex_trans hx (h1 z m),h⟩
  .rename_i hx;refine adS.mpr ⟨λz m=>?_,Rn x (λy m=>n y (aab _ m)) h2⟩;rcases aaA.mp ((Iu x r).mem_iff.mp m) with e|m
   .rw[e];exact Zv (n y aad) hx
   .exact h1 z m
theorem Oo:∀{l},(l.map pr).Nodup->(jJ pr l).Pairwise (λa b=>lex (pr a) (pr b)=true)
 |[],_=>.nil
 |x::r,n=>by
  rw[aao] at n;obtain⟨n1,n2⟩:=ab4.mp n;exact Rn x (λy m e=>n1 (abY.mpr ⟨y,(wH r).mem_iff.mp m,e.symm⟩)) (Oo n2)
theorem aap(p:a.Perm b)(n:(b.map pr).Nodup)(s:a.Pairwise (λa b=>lex (pr a) (pr b)=true)):a=jJ pr b:=by
 have q:a.Perm (jJ pr b):=p.trans (wH b).symm;refine q.eq_of_pairwise (λx y _ _ h1 h2=>?_) s (Oo n);have h1:=aaC h1;have h2:=aaC h2
 lia
noncomputable def sU(fb:EF)(dc:D)(n:Int):Option (Int×Int):=match fb [some (.int n,.own),some (dc,.sh [])] with
 |some (.tup [.int a,.int b],_)=>some (a,b)
 |_=>none
def vA(fb:EF)(dc:D)(n:Int):Int×Int:=(sU fb dc n).getD (0,0)
def Eb(j:Nat)(fa fb:EF):EF:=λρ=>match fa ρ,ρ[j]? with
 |some (.lst ds,_),some (some (dc,_))=>match eN ds with
  |some ns=>if ns.length<64/\(ns.map (vA fb dc)).Nodup/\∀n∈ns,(sU fb dc n).isSome=true then some (.lst ((jJ (vA fb dc) ns).map D.int),.own) else none
  |none=>none
 |_,_=>none
theorem ZJ(j:Nat)(hm:X.mg "sorted"=none)(ha:FP X a fa)(S:BY sc args x y)(lk:X.K.lookup f0=some o0)(sh:vY o0=some (X.env.code,q,jM))(xD:X.A.in1.in1.depth<recursionLimit)
  (hb:∀f c' s H,FP (sS X X.A.in1.in1 x y q sc f (.ref c') [(y,c)] s H) body fb) (hq:X.env.qual++"<lambda>"=q:=by rfl) (vq:closureFor sc X.env=pure [(y,c)]:=by rfl)
  (oN:X.env.cells.lookup y=some c:=by rfl) (hj:X.N[j]? = some y:=by rfl) (rP:X.env.scope.names.lookup y=some .cell:=by rfl)
  (wQ:defaultsOf args X.env=([],[]):=by rfl) (hg:Gl X "sorted":=by rfl) (hs:Y2 X a:=by rfl)
  (h1:backTo pos (starEach [a] X.env)=(false,eval a X.env)::backTo pos (starEach [] X.env):=by rfl) (h2:(backTo pos (starEach [a] X.env)).any (·.1)=false:=by rfl)
  (h3:(backToKw pos (keywordEach [⟨some "key",.Lambda args body sc jM,kp⟩] X.env)).all (·.1.isSome)=true:=by rfl) (h4:(backToKw pos (keywordEach [⟨some "key",.Lambda args body sc jM,kp⟩] X.env)).any (·.1.isNone)=false:=by rfl)
  (h5:(backToKw pos (keywordEach [⟨some "key",.Lambda args body sc jM,kp⟩] X.env)).filterMap (·.1)=[("key":Str)]:=by rfl) :
  FP X (.Call (.Name "sorted" p) [a] [⟨some "key",.Lambda args body sc jM,kp⟩] pos) (Eb j fa fb):=by
 obtain⟨ta,pa,sa⟩:=ha;refine⟨_,Th hm pa S lk sh hq vq oN hj rP xD (λf c' s H=>(hb f c' s H).choose_spec.1) wQ hg hs h1 h2 h3 h4 h5,@λH0 S' z aq ρ σ H Q d tg ok e k=>?_⟩;unfold Eb at e
 split at e
 .rename_i ds t1 dc t2 e1 e2
  split at e
  .rename_i ns uS
   split at e
   .rename_i hc;cases e;obtain⟨l5,nd,hk⟩:=hc;refine sa ok e1 λH1 v fp s1 r1 g1=>?_
    obtain⟨l,xs,f',rfl,oV,rs,_⟩:=r1.dD;have ex:=r6 rs uS;subst ex;obtain⟨vc,fc,Y0,rc,_⟩:=ok.sl j dc t2 e2;refine⟨l,ns,vA fb dc,vc,rfl,oV,l5,nd,Y0,λf c' s H3 s3 n mn=>?_,λHf D eY sf nD hD pm st=>?_⟩
    .obtain⟨kk,ek⟩:=agd.mp (hk n mn);have A_:=ek;unfold sU at A_
     split at A_
     .rename_i a b tb eb;cases A_;have iD:Ok X.K H3 [] (λ_=>none) [] [some (.int n,.own),some (dc,.sh [])] [some (.int n),some vc] H3:=by
       refine⟨λi d t e=>?_,(λp m=>nomatch m),(λa j e=>nomatch e),λa o e _=>e,rfl⟩
       match i,e with
       |0,e=>cases e;exact⟨_,[],rfl,.int n,acW,λa m=>nomatch m⟩
       |1,e=>cases e;exact⟨vc,fc,rfl,(rc.same s1).same s3,λa m j e=>nomatch e⟩
       |i+2,e=>exact absurd e (by simp)
      refine(hb f c' s H3).choose_spec.2 iD eb λH4 v fp s4 r4 _=>?_
      obtain⟨w,xs,rfl,hw,fq⟩:=r4.ic;refine⟨w,rfl,?_,s4⟩;have e1:(vA fb dc n)=(a,b):=by unfold vA;rw[ek];rfl
      rw[e1];cases fq with
      |cons h1 r=>cases r with
       |cons h2 r=>cases r;cases h1;cases h2;exact hw
     .cases A_
    .have eq:=aap pm nd st;subst eq;refine k Hf _ [D] (s1.trans sf) (.lst hD (yY _)) ⟨ab4.mpr ⟨(λm=>nomatch m),acW⟩,λa m=>?_⟩;cases aaU.mp m;exact s1.free nD
   .cases e
  .cases e
 .cases e
def FY(X:Cx)(e:Expr)(f:XF):Prop:=∃t,PE X e t/\∀{H0} {S} {z} {aq} {ρ} {σ} {H} {Q} {d} {ρ'},
 Ok X.K H0 S z aq ρ σ H->f ρ=some (d,ρ')->(∀z' H' v,Ok X.K H0 S z' aq ρ' σ H'->aV H H'->Rep X.K H' d v []->Q v H')->t σ H Q
theorem FY.fz(h:FY X e f):FZ X e f:=let⟨t,p,q⟩:=h;⟨t,p,@λH0 S z aq ρ σ H Q d ρ' ok e k=>q ok e λz' H' v o _ r=>k z' H' v o r⟩
theorem yV(i:Nat)(hC:ClsAt X.K cn C)(hm:l_ X.K C m fa)(GG:cE X.prog X.w X.K X.mg X.base dF k fa fd ps (dO X.K G))(hr:bH k X.A)(hb:Binds X.K fd ps [])(ha:FA X (e::es) g)(va:VA X i x:=by walk_at "va")
  (iP:SE X e es pos:=by exact⟨rfl,rfl⟩)
  (ht:yq X (.Name x p1) m apos (e::es) pos pl:=by exact rfl):FY X (.Call (.Attribute (.Name x p1) m apos) (e::es) [] pos) (xO i cn m G g):=by
 obtain⟨ta,pa,_,qa⟩:=ha;refine⟨_,CH va.pe hC.cl hm GG hr hb .nil n_ pa iP.1 iP.2 ht,@λH0 S z aq ρ σ H Q d ρ' ok e0 kk=>?_⟩;obtain⟨Bd,qs,d1,h1,h2,hm,oK,hG,rfl⟩:=Kl e0;obtain⟨v,bI,hs,r0,zz⟩:=ok.sl i _ _ h1;refine⟨v,hs,?_⟩;obtain⟨b,dx,fs,gf,rfl,FQ,h4,h5,h6,h7⟩:=r0.n8 hC.ns;refine⟨b,dx,fs,rfl,h4,vz h6 hm,?_⟩;refine qa ok h2 λH2 vs mO s2 r2 g2=>?_
 rw[acG];refine⟨b,vs,_,bI,_,mO,d,d1,rfl,r0.same s2,zz.1,r2,F7 ok oK g2 zz,hG,λH3 u bT im kp r1 nd fr rr=>?_⟩;obtain⟨z',iD⟩:=(ok.same s2).put h1 hs zz im kp r1 nd fr;exact kk z' H3 u iD ((aV.of s2).trans im) rr
def Cc(i:Nat)(cn fl iw m:Str)(G:MF)(g:AF):XF:=λρ=>match ρ[i]?,g ρ with
 |some (some (.ins c es,.own)),some ps=>match es.lookup fl with
  |some (.ins c2 ir)=>if c=cn/\c2=iw/\ir.lookup m=none/\apart i ps=true then(G (.ins c2 ir) (ps.map (·.1))).map λw=>(w.1,bQ ρ i (.ins c (dY fl w.2 es))) else none
  |_=>none
 |_,_=>none
theorem aa5(i:Nat)(hC:ClsAt X.K cn C)(na:jk X.K C fl)(zx:ClsAt X.K iw C2)(hm:l_ X.K C2 m fa)(GG:cE X.prog X.w X.K X.mg X.base dF k fa fd ps (dO X.K G))(hr:bH k X.A)(hb:Binds X.K fd ps [])(ha:FA X (e::es) g)(va:VA X i x:=by walk_at "va")
  (EL:attributeBase (.Name x p1) fl X.env (eval (.Name x p1) X.env)=eval (.Name x p1) X.env:=by rfl)
  (iP:SE X e es pos:=by exact⟨rfl,rfl⟩)
  (ht:yq X (.Attribute (.Name x p1) fl p2) m apos (e::es) pos pl:=by exact rfl):FY X (.Call (.Attribute (.Attribute (.Name x p1) fl p2) m apos) (e::es) [] pos) (Cc i cn fl iw m G g):=by
 obtain⟨ta,pa,_,qa⟩:=ha;refine⟨_,CH (tY va.pe EL) zx.cl hm GG hr hb .nil n_ pa iP.1 iP.2 ht,@λH0 S z aq ρ σ H Q d ρ' ok e0 kk=>?_⟩;unfold Cc at e0
 split at e0
 .rename_i c es1 qs h1 h2
  split at e0
  .rename_i c2 ir hl
   by_cases hc:c=cn/\c2=iw/\ir.lookup m=none/\apart i qs=true
   .rw[if_pos hc] at e0;obtain⟨rfl,rfl,hlm,oK⟩:=hc;obtain⟨w,hG,ew⟩:=ach.mp e0;cases ew;obtain⟨v,bI,hs,r0,zz⟩:=ok.sl i _ _ h1;refine⟨v,hs,?_⟩;obtain⟨b0,dx,fs,u,gf,rfl,a1,a2,a3,a4,a5,a6⟩:=r0.place hC.ns zz.1 hl;refine⟨b0,C,dx,fs,u,rfl,a1,hC.cl,na,a2,?_⟩;obtain⟨b,dx2,WS,g2,rfl,FQ,c4,c5,c6,c7⟩:=a3.n8 zx.ns;refine⟨b,dx2,WS,rfl,c4,vz c6 hlm,?_⟩;refine qa ok h2 λH2 vs mO s2 r2 gg=>?_
    rw[acG];refine⟨b,vs,_,gf,_,mO,w.1,w.2,rfl,a3.same s2,a4,r2,λx m n=>F7 ok oK gg zz x m (a5 x n),hG,λH3 u' bT im kp r1 nd fr rr=>?_⟩;have i3:=(aV.of s2).trans im;have k3:∀b o,b∉gf->H b=some o->H3 b=some o:=λb o n e=>kp b o n (s2 b o e)
    obtain⟨HP,k1,k2,k4⟩:=a6 H3 w.2 bT i3 k3 r1 nd λb m=>(fr b m).imp id s2.free
    obtain⟨z',iD⟩:=ok.put h1 hs zz i3 (λb o n e=>k3 b o (λm=>n (a5 b m)) e) k1 k2 k4;exact kk z' H3 u' iD i3 rr
   .rw[if_neg hc] at e0;cases e0
  .cases e0
 .cases e0
noncomputable def tZ(f:XF):aO->Option (Bool×aO):=λρ=>match f ρ with
 |some (.bl b,ρ')=>some (b,ρ')
 |_=>none
theorem adw(h:FZ X a f)(he:∀whole,isTrue a X.env whole=(do let v <- whole;standAt a.pos;holding [v] (truthy v)):=by intro _;rfl):vZ X a (tZ f):=by
 obtain⟨t,p,q⟩:=h;refine⟨_,C5 p he,@λH0 S z aq ρ σ H Q c ρ' ok e k=>?_⟩;unfold tZ at e
 split at e
 .rename_i c' aQ h1;cases e;refine q ok h1 λz' H' v aW r=>?_
  cases r;exact⟨_,rfl,k z' H' aW⟩
 .cases e
noncomputable def lO(c:aO->Option (Bool×aO))(f:SF):Nat->SF
 |0,_=>none
 |n+1,ρ=>match c ρ with
  |some (false,aQ)=>some (.nx aQ)
  |some (true,aQ)=>match f aQ with
   |some (.nx ρ')=>lO c f n ρ'
   |_=>none
  |none=>none
theorem aft(n:Nat)(hc:vZ X c tc)(hb:FS X body fb)(hp:PassesOwn (model X.prog X.w) X.A X.env X.xe:=by exact PassesOwn.never):fC X (.While c body [] pos) (lO tc fb n):=by
 obtain⟨t,p,q⟩:=hc;obtain⟨tb,pb,qb⟩:=hb;exists 23,KQ hp p pb;refine⟨λm aI H'=>∃z' ρ',Ok X.K H0 S z' aq ρ' aI H'/\lO tc fb m ρ'=some o/\Kp X σ aI,⟨n,z,ρ,ok,e,.refl _ _⟩,?_⟩
 rintro m aI H' ⟨z',ρ',aW,e',kp⟩
 cases m with
 |zero=>cases e'
 |succ m=>
  unfold lO at e'
  split at e'
  .rename_i aQ hc;cases e';refine q aW hc λz1 H1 b_=>?_
   rw[if_neg abk];exact k z1 aI H1 b_ kp
  .rename_i aQ hc;refine q aW hc λz1 H1 b_=>?_
   rw[if_pos rfl]
   split at e'
   .rename_i aY hf;refine⟨λiM H2=>∃z2 aY,Ok X.K H0 S z2 aq aY iM H2/\lO tc fb m aY=some o/\Kp X σ iM,λiM H2 hn=>⟨m,agl m,hn⟩,?_⟩;exact qb b_ hf λz3 cZ H3 iX b=>⟨z3,aY,iX,e',kp.trans b⟩
   .cases e'
  .cases e'
noncomputable def u0(f g:XF):XF:=λρ=>match f ρ with
 |some (.bl true,ρ')=>some (.bl true,ρ')
 |some (.bl false,ρ')=>match g ρ' with
  |some (.bl b,aY)=>some (.bl b,aY)
  |_=>none
 |_=>none
theorem adH(ha:FZ X a f)(hb:FZ X b g):FZ X (.BoolOp .Or [a,b] pos) (u0 f g):=by
 exists 61;obtain⟨t',p',q'⟩:=hb;refine⟨_,Rp p (OT p'),@λH0 S z aq ρ σ H Q d ρ' ok e k=>?_⟩;unfold u0 at e
 split at e
 .rename_i aQ h;cases e;refine q ok h λz1 H1 v b_ r1=>?_
  cases r1;refine⟨true,rfl,?_⟩;rw[if_pos rfl];exact k z1 H1 _ b_ (.bl _)
 .rename_i aQ h
  split at e
  .rename_i c aY h2;cases e;refine q ok h λz1 H1 v b_ r1=>?_
   cases r1;refine⟨false,rfl,?_⟩;rw[if_neg abk];exact q' b_ h2 k
  .cases e
 .cases e
section
variable{K:PySem.W.Frag}
theorem Oq(h:cg K H a (ks.map L2.kV))(ni:m_ K=true)(hi:ks.all (λk=>k.isLeft)=true)(hn:ks≠[]):Tk H a (ks.map L2.kV):=by
 rcases h with(h|⟨o,h⟩)|⟨o,ay,n,hk,_,_,hd,_,rv⟩
 .exact⟨.tup _,rfl,h⟩
 .exact⟨.vX o _,rfl,h⟩
 .exfalso
  have q:=adt.mp ni (a,o) (Am hk);dsimp only at q;rw[hd] at q;have len:=rv.length;have go:∀{ks:List Key} {vs},ks.all (λk=>k.isLeft)=true->aU (ks.map L2.kV) vs->∀v∈vs,∃i t,v=Value.int i t:=by
   intro ks
   induction ks with
   |nil=>intro vs _ r v m;cases r;cases m
   |cons k ks ih=>
    intro vs h r v m;obtain⟨h1,h2⟩:=(aaV _ _).mp (by simpa only[ag2] using h);cases r with
    |cons r1 r2=>
     rcases aaA.mp m with e|m
     .subst e;cases k with
      |inr _=>cases h1
      |inl i=>obtain⟨t,e⟩:=(show RelV (.int i) _ from r1);exact⟨i,t,e⟩
     .exact ih h2 r2 v m
  rcases(ag4 _ _).mp (show(ay.size==0||ay.toList.any _)=true from q) with z|z
  .have z:ay.size=0:=by simpa using z
   simp only[List.length_map,afI] at len;exact hn (agC (len.trans z))
  .obtain⟨v,mv,e⟩:=adY.mp z;obtain⟨i,t,rfl⟩:=go hi rv v mv;cases e
theorem Tk.aB(h:Tk H a xs)(i:aV H H'):Tk H' a xs:=by
 obtain⟨t,e1,e2⟩:=h;cases t with
 |tup ys=>exact⟨.tup ys,e1,i.1 _ _ e2⟩
 |vX o ys=>exact⟨.vX o ys,e1,i.2.1 _ _ _ e2⟩
 |i8 _ _=>cases e1
 |jD _=>cases e1
variable[DecidableEq κ]
theorem yN:∀{es:List (κ×α)},k∉es.map (·.1)->(es.map λkv=>if kv.1=k then(kv.1,d) else kv)=es
 |[],_=>rfl
 |(q,x)::es,n=>by
  rw[aao] at n ⊢;rw[if_neg (λe=>n (by rw[e];exact aad)),yN λm=>n (aab _ m)]
theorem aC.M9:∀{es}{ak:List (κ×V)} {g},es.map (·.1)=ak.map (·.1)->aC K H (es.map (·.2)) (ak.map (·.2)) g->g.Nodup->(es.map (·.1)).Nodup->aS es k=some d0->
  ∃v gf,eX ak k=some v/\Rep K H d0 v gf/\gf.Nodup/\(∀a∈gf,a∈g)/\∀(H') (d1) (g1),aV H H'->(∀b o,b∉gf->b∈g->H b=some o->H' b=some o)->Rep K H' d1 v g1->g1.Nodup->(∀b∈g1,b∈gf\/H b=none)->
   ∃g',aC K H' ((putD es k d1).map (·.2)) ((putK ak k v).map (·.2)) g'/\g'.Nodup/\∀b∈g',b∈g\/H b=none
 |[],_,_,_,_,_,_,e=>by cases e
 |_::_,[],_,k,_,_,_,_=>by simp at k
 |(x,d)::es,(y,v0)::ak,_,hk,r,nd,kd,e=>by
  simp only[aao,af2] at hk;obtain⟨rfl,hk⟩:=hk;rw[aao] at kd;obtain⟨Ox,Ui⟩:=ab4.mp kd;have any:∀{α}{l:List (κ×α)}{d:α},k∈l.map (·.1)->(l.any λkv=>decide (kv.1=k))=true:=λ{α l d} m=>by
   obtain⟨p,m1,m2⟩:=abY.mp m;exact adY.mpr ⟨p,m1,aaq m2⟩
  cases r with
  | @cons _ _ _ _ f1 f2 r1 r2=>
   obtain⟨a1,a2,a3⟩:=acR.mp nd
   by_cases hx:x=k
   .subst hx;have e1:aS ((x,d)::es) x=some d:=by simp[aS,adA]
    rw[e1] at e;obtain rfl:d=d0:=acf e;refine⟨v0,f1,zq rfl,r1,a1,λa m=>abj _ m,λH' d1 g1 im kp rr n1 fr=>?_⟩;refine⟨g1++f2,?_,acR.mpr ⟨n1,a2,λa ma b mb e=>?_⟩,λb m=>?_⟩
    .have er:putD ((x,d)::es) x d1=(x,d1)::es:=by
      unfold putD;rw[any (d:=d1) (by simp),if_pos rfl,aao,yN Ox,if_pos rfl]
     have ev:putK ((x,v0)::ak) x v0=(x,v0)::ak:=by
      unfold putK;rw[any (d:=v0) (by simp),if_pos rfl,aao,yN (show x∉ak.map (·.1) by rw[<- hk];exact Ox),if_pos rfl]
     rw[er,ev,aao,aao];refine .cons rr (r2.frame (λa m=>?_) im);obtain⟨o,w,_⟩:=r2.cG a m;rw[kp a o (λq=>a3 a q a m rfl) (aas _ m) w,w]
    .subst e;obtain⟨o,w,_⟩:=r2.cG a mb;rcases fr a ma with q|q
     .exact a3 a q a mb rfl
     .rw[q] at w;cases w
    .rcases abl.mp m with m|m
     .exact(fr b m).imp (abj _) id
     .exact .inl (aas _ m)
   .have e1:aS ((x,d)::es) k=aS es k:=by simp[aS,adA,hx]
    rw[e1] at e;obtain⟨v,gf,h1,h2,h3,h4,h5⟩:=aC.M9 hk r2 a2 Ui e;have mk:k∈es.map (·.1):=by
     unfold aS at e;obtain⟨p,e2,e3⟩:=ach.mp e;exact abY.mpr ⟨p,afU e2,aaC (show decide (p.1=k)=true from agK (p:=λkv:κ×D=>decide (kv.1=k)) e2)⟩
    refine⟨v,gf,by rw[xM hx];exact h1,h2,h3,λa m=>aas _ (h4 a m),λH' d1 g1 im kp rr n1 fr=>?_⟩;obtain⟨g',c1,c2,c3⟩:=h5 H' d1 g1 im (λb o n m e=>kp b o n (aas _ m) e) rr n1 fr;refine⟨f1++g',?_,acR.mpr ⟨a1,c2,λa ma b mb e=>?_⟩,λb m=>?_⟩
    .have er:(putD ((x,d)::es) k d1)=(x,d)::putD es k d1:=by
      unfold putD;rw[any (d:=d1) (l:=(x,d)::es) (aab _ mk),any (d:=d1) mk,if_pos rfl,if_pos rfl,aao,if_neg hx]
     have ev:(putK ((x,v0)::ak) k v)=(x,v0)::putK ak k v:=by
      unfold putK;rw[any (d:=v) (by rw[aao,<- hk];exact aab _ mk),any (d:=v) (by rw[<- hk];exact mk),if_pos rfl,if_pos rfl,aao,if_neg hx]
     rw[er,ev,aao,aao];refine .cons (r1.frame (λa m=>?_) im) c1;obtain⟨o,w,_⟩:=r1.cG a m;rw[kp a o (λq=>a3 a m a (h4 a q) rfl) (abj _ m) w,w]
    .subst e;obtain⟨o,w,_⟩:=r1.cG a ma;rcases c3 a mb with q|q
     .exact a3 a ma a q rfl
     .rw[q] at w;cases w
    .rcases abl.mp m with m|m
     .exact .inl (abj _ m)
     .exact(c3 b m).imp (aas _) id
theorem Ok.blank(ok:Ok K H0 S z aq ρ σ H)(h:ρ[i]? = some none):Ok K H0 S z aq ρ (σ.set i x) H:=
 ⟨λj d t e=>by
  have ne:i≠j:=λz=>by rw[<- z,h] at e;cases e
  obtain⟨v,fp,a,b,c⟩:=ok.sl j d t e;exact⟨v,fp,by rw[acS ne];exact a,b,c⟩,ok.hl,ok.zd,ok.en,by rw[afT];exact ok.ln⟩
end
noncomputable def Ac(cn:Str):Option Slot->Option (List (Str×D))
 |some (some (.ins c es,.own))=>if c=cn then some es else none
 |_=>none
noncomputable def DI:Option Slot->Option (List D)
 |some (some (.tup ls,_))=>some ls
 |_=>none
noncomputable def Ig:Option Slot->Option Str
 |some (some (.str w,_))=>some w
 |_=>none
noncomputable def HC:Option D->Option (List (List Key×D))
 |some (.cj l)=>some l
 |_=>none
theorem RV:∀{x} {es},Ac cn x=some es->x=some (some (.ins cn es,.own)):=by
 rintro(_|_|⟨d,t⟩) es e
 any_goals cases e
 cases d
 any_goals cases e
 cases t
 any_goals cases e
 exact(agE.mp e).elim λa b=>by cases a;cases b;rfl
theorem afs:∀{x} {ls},DI x=some ls->∃t,x=some (some (.tup ls,t)):=by
 rintro(_|_|⟨d,t⟩) es e
 any_goals cases e
 cases d
 all_goals cases e
 exact⟨_,rfl⟩
theorem Wx:∀{x} {w},Ig x=some w->∃t,x=some (some (.str w,t)):=by
 rintro(_|_|⟨d,t⟩) es e
 any_goals cases e
 cases d
 all_goals cases e
 exact⟨_,rfl⟩
theorem YC:∀{x} {l},HC x=some l->x=some (.cj l):=by
 rintro(_|d) es e
 any_goals cases e
 cases d
 all_goals cases e
 rfl
def uH(cn fl iw m:Str)(ft:EF)(G:MF):SF:=λρ=>
 (Ac cn ρ[0]?).bind λes=>(DI ρ[1]?).bind λls=>(Ig ρ[2]?).bind λwd=>(HC (es.lookup fl)).bind λak=>(iy ls).bind λks=>(ft ρ).bind λdn=>
  (Ac iw (some (some ((aS ak ks).getD dn.1,dn.2)))).bind λir=>(G (.ins iw ir) [.str wd]).bind λr=>
   if ρ[3]?.any Option.isNone=true/\ir.lookup m=none/\ks.all (λk=>k.isLeft)=true/\ks≠[]/\(ak.map (·.1)).Nodup/\ak.length<sizeLine/\aB r.1=true then some (.nx (iH (bQ ρ 0 (.ins cn (dY fl (.cj (putD ak ks r.2)) es))) 4 r.1 .own)) else none
theorem Uv(e:uH cn fl iw m ft G ρ=some w):∃es ls lt wd wt ak ks dn ir r d1,ρ[0]? = some (some (.ins cn es,.own))/\ρ[1]? = some (some (.tup ls,lt))/\ρ[2]? = some (some (.str wd,wt))/\ρ[3]? = some none/\es.lookup fl=some (.cj ak)/\iy ls=some ks/\ft ρ=some (dn,.own)/\
  (aS ak ks).getD dn=.ins iw ir/\ir.lookup m=none/\ks.all (λk=>k.isLeft)=true/\ks≠[]/\(ak.map (·.1)).Nodup/\ak.length<sizeLine/\G (.ins iw ir) [.str wd]=some (r,d1)/\aB r=true/\w=.nx (iH (bQ ρ 0 (.ins cn (dY fl (.cj (putD ak ks d1)) es))) 4 r .own):=by
 obtain⟨es,h1,e⟩:=afh.mp e;obtain⟨ls,h2,e⟩:=afh.mp e;obtain⟨wd,h3,e⟩:=afh.mp e;obtain⟨ak,h4,e⟩:=afh.mp e;obtain⟨ks,h5,e⟩:=afh.mp e;obtain⟨dn,h6,e⟩:=afh.mp e;obtain⟨ir,h7,e⟩:=afh.mp e;obtain⟨⟨r,d1⟩,h8,e⟩:=afh.mp e;obtain⟨⟨a0,a1,a2,a3,a4,a5,a6⟩,e⟩:=agE.mp e;obtain⟨t2,h2⟩:=afs h2;obtain⟨t3,h3⟩:=Wx h3;have h7:=RV h7;have a0:ρ[3]? = some none:=by
  rcases h:ρ[3]? with _|_|_<;>rw[h] at a0<;>first|rfl|cases a0
 cases e;injection h7 with h7;injection h7 with h7;injection h7 with h7 h9;exact⟨es,ls,t2,wd,t3,ak,ks,dn.1,ir,r,d1,RV h1,h2,h3,a0,YC h4,h5,by rw[h6,<- h9],h7,a1,a2,a3,a4,a5,h8,a6,rfl⟩
theorem ZT(h0:ρ[0]? = some (some (.ins cn es,.own)))(h1:ρ[1]? = some (some (.tup ls,lt)))(h2:ρ[2]? = some (some (.str wd,wt)))(h3:ρ[3]? = some none)(h4:es.lookup fl=some (.cj ak))(h5:iy ls=some ks)(h6:ft ρ=some (dn,.own))(h7:(aS ak ks).getD dn=.ins iw ir)(h8:G (.ins iw ir) [.str wd]=some (r,d1))
  (hc:ir.lookup m=none/\ks.all (λk=>k.isLeft)=true/\ks≠[]/\(ak.map (·.1)).Nodup/\ak.length<sizeLine/\aB r=true):uH cn fl iw m ft G ρ=some (.nx (iH (bQ ρ 0 (.ins cn (dY fl (.cj (putD ak ks d1)) es))) 4 r .own)):=by
 unfold uH Ac DI Ig HC;simp only[h0,h1,h2,h3,h4,h5,h6,h7,h8,ac0,if_pos];exact if_pos ⟨rfl,hc⟩
section
variable{cn fl iw m x0 x1 x2 x3 x4:Str}{rest:List Stmt}
set_option maxHeartbeats 1000000 in
theorem adX(hu:X.A.units+1<cLine)(ni:m_ X.K=true)(hC:ClsAt X.K cn C)(na:jk X.K C fl)(zx:ClsAt X.K iw C2)(hm:l_ X.K C2 m fa)(GG:cE X.prog X.w X.K X.mg X.base dF k fa fd ps (dO X.K G))(hr:bH k X.A)(hb:Binds X.K fd ps [])
  (hT:FP X tc ft) (yX:FM X rest g) (hN:X.N.Nodup) (a0:VA X 0 x0:=by walk_at "va") (a1:VA X 1 x1:=by walk_at "va") (a2:VA X 2 x2:=by walk_at "va") (a3:VA X 3 x3:=by walk_at "va") (h4:X.N[4]? = some x4:=by rfl)
  (v3:Loc X.env.scope x3:=by first|exact Or.inl rfl|exact Or.inr rfl) (v4:Loc X.env.scope x4:=by first|exact Or.inl rfl|exact Or.inr rfl)
  (EL:attributeBase (.Name x0 p1) fl X.env (eval (.Name x0 p1) X.env)=eval (.Name x0 p1) X.env:=by rfl) (Ux:attributeBase (.Name x0 q1) fl X.env (eval (.Name x0 q1) X.env)=eval (.Name x0 q1) X.env:=by rfl)
  (mm:M2 X (.Attribute (.Name x0 p1) fl p2) "get" p3 (.Name x1 p4) tc p5:=by exact⟨rfl,rfl,rfl,rfl⟩)
  (s1:swapsWith (.Call (.Attribute (.Attribute (.Name x0 p1) fl p2) "get" p3) [.Name x1 p4,tc] [] p5) (some (.Name x3 p6)) p7.line X.env=pure false:=by rfl)
  (s2:swapsWith (.Call (.Attribute (.Name x3 q2) m q3) [.Name x2 q4] [] q5) (some (.Name x4 p8)) p9.line X.env=pure false:=by rfl)
  (s3:swapsWith (.Name x3 q6) (some (.Subscript (.Attribute (.Name x0 q1) fl q7) (.Name x1 q8) q9)) r1.line X.env=pure false:=by rfl)
  (f3:v6 X x3:=by first|exact .inl rfl|exact .inr rfl) (f4:v6 X x4:=by first|exact .inl rfl|exact .inr rfl) (k3:kc X x3=false:=by rfl) (k4:kc X x4=false:=by rfl)
  (iP:starEach [.Name x2 q4] X.env=[(false,eval (.Name x2 q4) X.env)]:=by rfl)
  (ht:eval (.Call (.Attribute (.Name x3 q2) m q3) [.Name x2 q4] [] q5) X.env=(do
   let ov <- eval (.Name x3 q2) X.env
   standAt q3.atName
   let(f,first) <- holding [ov] (getMethod ov m pl)
   callWith q5 f first (backTo q5 (starEach [.Name x2 q4] X.env)) (backToKw q5 (keywordEach [] X.env))):=by rfl) :
  FM X (.Assign [.Name x3 p6] (.Call (.Attribute (.Attribute (.Name x0 p1) fl p2) "get" p3) [.Name x1 p4,tc] [] p5) p7::.Assign [.Name x4 p8] (.Call (.Attribute (.Name x3 q2) m q3) [.Name x2 q4] [] q5) p9::.Assign [.Subscript (.Attribute (.Name x0 q1) fl q7) (.Name x1 q8) q9] (.Name x3 q6) r1::rest) (cu (uH cn fl iw m ft G) g):=by
 obtain⟨tT,pT,sT⟩:=hT;obtain⟨tr,pr,sr⟩:=yX;refine⟨_,zL (Bx hN a3.N v3 (E7 hu (tY a0.pe EL) a1.pe pT mm) s1 f3)
  (zL (Bx hN h4 v4 (CH a3.pe zx.cl hm GG hr hb .nil n_ (d8 a2.pe fY iP) iP rfl ht) s2 f4)
  (zL (w6 hu (tY a0.pe Ux) a1.pe a3.pe s3) pr)),@λH0 S z aq ρ σ H E o ok e kE=>?_⟩
 cases hw:uH cn fl iw m ft G ρ with
 |none=>unfold cu at e;rw[hw] at e;cases e
 |some w=>
  obtain⟨es,ls,lt,wd,wt,ak,ks,dn,ir,r,d1,e0,e1,e2,e3,S6,Vc,eft,vK,elm,IA,nZ,knd,hlen,eG,hir,rfl⟩:=Uv hw;have e:g (iH (bQ ρ 0 (.ins cn (dY fl (.cj (putD ak ks d1)) es))) 4 r .own)=some o:=by unfold cu at e;rw[hw] at e;exact e
  obtain⟨v,bI,hs,r0,zz⟩:=ok.sl 0 _ _ e0;obtain⟨vl,J5,Su,rl,_⟩:=ok.sl 1 _ _ e1;obtain⟨bL,xs,rfl,TU,SX⟩:=rl.ic;obtain rfl:=aC.keys SX Vc;have nX:=Oq TU ni IA nZ;obtain⟨vw,fw,iY,fq,_⟩:=ok.sl 2 _ _ e2;obtain⟨rfl,rfl⟩:=fq.y_;have l3:3<σ.length:=by rw[<- ok.ln];exact(abP.mp e3).1
  obtain⟨b0,dx,fs,u,gf,⟨nb,nx⟩,rfl,a1,a2,a3,a4,a5,a6⟩:=r0.O3 hC.ns zz.1 S6;cases a3 with
  | @cj l ia _ g0 hl f9 rs=>
   obtain⟨lg,n0⟩:=ab4.mp a4;refine⟨.ref b0,hs,b0,C,dx,fs,.ref l,rfl,a1,hC.cl,na,a2,l,rfl,.inr ⟨ia,.inl hl⟩,.ref bL,Su,?_⟩;refine sT ok eft λH3 zv HP s3 rn gn=>?_
   refine⟨eX ia ks,.inr ⟨ia,ks,bL,.inl (s3 _ _ hl),rfl,(Tk.aB nX (.of s3)),rfl⟩,?_⟩;have hv:∃jx,Rep X.K H3 (.ins iw ir) ((eX ia ks).getD zv) jx/\jx.Nodup/\(∀b∈jx,b∈g0\/H b=none)/\∀H5 bT,aV H3 H5->(∀b o,b∉jx->H3 b=some o->H5 b=some o)->Rep X.K H5 d1 ((eX ia ks).getD zv) bT->bT.Nodup->(∀b∈bT,b∈jx\/H3 b=none)->
     ∃g',aC X.K (upd H5 l (.dT (putK ia ks ((eX ia ks).getD zv)))) ((putD ak ks d1).map (·.2)) ((putK ia ks ((eX ia ks).getD zv)).map (·.2)) g'/\g'.Nodup/\l∉g'/\∀b∈g',b∈g0\/H b=none:=by
    cases sC:aS ak ks with
    |some dv=>
     rw[sC,agB] at vK;subst vK;obtain⟨v,gv,b1,b2,b3,b4,b5⟩:=aC.M9 f9 rs n0 knd sC;rw[b1,agB];refine⟨gv,b2.same s3,b3,λb m=>.inl (b4 b m),λH5 bT im kp r5 xR mK=>?_⟩;have nl:l∉gv:=λm=>lg (b4 l m)
     have oU:=kp l _ nl (s3 _ _ hl);have B3:l∉bT:=λm=>(mK l m).elim nl λq=>by rw[s3 _ _ hl] at q;cases q
     obtain⟨g',c1,c2,c3⟩:=b5 (upd H5 l (.dT (putK ia ks v))) d1 bT (((aV.of s3).trans im).trans (aV.upd oU rfl)) (λb o n mb e=>by rw[aP (λq:b=l=>lg (q ▸ mb))];exact kp b o n (s3 b o e))
      (r5.frame (λb m=>aP (λq:b=l=>B3 (q ▸ m))) (aV.upd oU rfl)) xR (λb m=>(mK b m).imp id s3.free)
     exact⟨g',c1,c2,(λm=>(c3 l m).elim lg λq=>by rw[hl] at q;cases q),c3⟩
    |none=>
     rw[sC] at vK;have vK:=vK;subst vK;have hn:=(mY f9 rs).2 sC;rw[hn];show ∃jx,Rep X.K H3 (.ins iw ir) zv jx/\jx.Nodup/\(∀b∈jx,b∈g0\/H b=none)/\∀H5 bT,aV H3 H5->(∀b o,b∉jx->H3 b=some o->H5 b=some o)->Rep X.K H5 d1 zv bT->bT.Nodup->(∀b∈bT,b∈jx\/H3 b=none)->
      ∃g',aC X.K (upd H5 l (.dT (putK ia ks zv))) ((putD ak ks d1).map (·.2)) ((putK ia ks zv).map (·.2)) g'/\g'.Nodup/\l∉g'/\∀b∈g',b∈g0\/H b=none
     refine⟨HP,rn,gn.1,λb m=>.inr (gn.2 b m),λH5 bT im kp r5 xR mK=>?_⟩;have nl:l∉HP:=λm=>by rw[gn.2 l m] at hl;cases hl
     have oU:=kp l _ nl (s3 _ _ hl);have xP:∀b∈bT,H b=none:=λb m=>(mK b m).elim (gn.2 b) s3.free
     have B3:l∉bT:=λm=>by rw[xP l m] at hl;cases hl
     have i6:aV H (upd H5 l (.dT (putK ia ks zv))):=((aV.of s3).trans im).trans (aV.upd oU rfl);have n1:(ak.any λkv=>decide (kv.1=ks))=false:=by
      unfold aS at sC;rw[Option.map_eq_none_iff,af3] at sC;exact List.any_eq_false.mpr sC
     have n2:(ia.any λkv=>decide (kv.1=ks))=false:=by
      rw[Ie,hn];rfl
     refine⟨g0++(bT++[]),?_,?_,λm=>?_,λb m=>?_⟩
     .unfold putD putK;rw[n1,n2,if_neg abk,if_neg abk,adp,adp];unfold putK at i6;rw[n2,if_neg abk] at i6;refine aC.append (rs.frame (λb m=>?_) i6) (.cons (r5.frame (λb m=>aP (λq:b=l=>B3 (q ▸ m))) (aV.upd oU rfl)) .nil);obtain⟨o,w,_⟩:=rs.cG b m;rw[aP (λq:b=l=>lg (q ▸ m)),kp b o (λq=>by rw[gn.2 b q] at w;cases w) (s3 b o w),w]
     .rw[acG];refine acR.mpr ⟨n0,xR,λa ma b mb e=>?_⟩;obtain⟨o,w,_⟩:=rs.cG a ma;rw[e,xP b mb] at w;cases w
     .rw[acG] at m;exact(abl.mp m).elim lg B3
     .rw[acG] at m;exact(abl.mp m).imp id (xP b)
   generalize(eX ia ks).getD zv=v at hv ⊢;obtain⟨jx,rv,ndv,HA,fin⟩:=hv;obtain⟨a,TZ,VQ,gT,rfl,FQ,t1,t2,t3,t4⟩:=rv.n8 zx.ns;refine⟨.ref a,aea l3,a,TZ,VQ,rfl,t1,vz t3 elm,.str wd,(by rw[acS (by decide)];exact iY),?_⟩;refine⟨a,[.str wd],_,jx,[.str wd],[],r,d1,rfl,rv,ndv,.cons (.str wd) .nil,(λb m=>nomatch m),eG,λH5 ut bT im kp r5 xR mK rr=>?_⟩;have nl:l∉jx:=λm=>(HA l m).elim lg λq=>by rw[hl] at q;cases q
   have oU:=kp l _ nl (s3 _ _ hl);have nb0:b0∉jx:=λm=>(HA b0 m).elim (λq=>nb (aab _ q)) λq=>by rw[a1] at q;cases q
   have a15:=kp b0 _ nb0 (s3 _ _ a1);have T5:ia.length=ak.length:=by have:=congrArg List.length f9;simpa using this.symm
   refine⟨.ref a,(by rw[acS (by decide)];exact aea l3),.ref b0,(by rw[acS (by decide),acS (by decide)];exact hs),b0,C,dx,fs,.ref l,rfl,a15,hC.cl,na,a2,.ref bL,(by rw[acS (by decide),acS (by decide)];exact Su),l,_,rfl,
    .inr ⟨ia,ks,bL,oU,rfl,(Tk.aB nX ((aV.of s3).trans im)),(by rw[T5];exact hlen),rfl⟩,?_⟩
   obtain⟨g',y1,y2,y3,y4⟩:=fin H5 bT im kp r5 xR mK;have i6:aV H (upd H5 l (.dT (putK ia ks (.ref a)))):=((aV.of s3).trans im).trans (aV.upd oU rfl);have k6:∀b o,b∉l::g0->H b=some o->upd H5 l (.dT (putK ia ks (.ref a))) b=some o:=λb o n e=>by
    rw[aP (λq=>n (by rw[q];exact aad))];exact kp b o (λm=>(HA b m).elim (λq=>n (aab _ q)) λq=>by rw[e] at q;cases q) (s3 b o e)
   obtain⟨afW,z1,z2,z3⟩:=a6 _ (.cj (putD ak ks d1)) (l::g') i6 k6 (.cj cD (vG f9) y1) (ab4.mpr ⟨y3,y2⟩) (λb m=>(aaA.mp m).elim (λq=>.inl (by rw[q];exact aad)) λm=>(y4 b m).imp (aab _) id);obtain⟨z',iD⟩:=ok.put e0 hs zz i6 (λb o n e=>k6 b o (λm=>n (a5 b m)) e) z1 z2 z3;have e3':(bQ ρ 0 (.ins cn (dY fl (.cj (putD ak ks d1)) es)))[3]? = some none:=by unfold bQ;rw[acS (by decide),acn,e3];rfl
   refine(iD.blank (x:=some (.ref a)) e3').stored (t:=.own) (i:=4) (aJ.refl _) (rr.frame (λa m=>nomatch m) (aV.upd oU rfl)) .nil λz2 ok5=>?_
   exact sr ok5 e (kE.of ((Kp.set a3.N k3).trans (Kp.set h4 k4)))
end
end L2.Ev
namespace L2
open PySem PySem.Spec PyProof.Rows
def Vs(K:PySem.W.Frag):V->List V->Hp->VK->Prop:=λx vs H Q=>∃(l:Addr) (ts:List Int) (i:Int) (j:Nat),x=.ref l/\vs=[.int i]/\bX K H l (ts.map V.int)/\ts[j]? = some i/\(∀m,m<j->ts[m]?≠some i)/\Q (.int j) H
theorem So(i y:Int)(t:Tok):iT (.int i) (.int y t)=(y==i):=rfl
theorem Yw:Jj X "list.index" (Vs X.K):=by
 intro ah s σ H x vs v us Q I rx rv h;obtain⟨l,ts,i,j,rfl,rfl,hq,hj,HV,q⟩:=h;cases rx;obtain⟨u,rfl,ru⟩:=vals1 rv;obtain⟨t,rfl⟩:=ru;obtain⟨ay,r,pl,hz⟩:=I.list hq;have hlen:=r.length;rw[List.length_map] at hlen hz;obtain⟨o,ho,hc,n,hd⟩:=pl.isList;obtain⟨c,dd,da,sl⟩:=o;cases hc;cases hd;have hjl:=(abP.mp hj).1;have uU:∀(m) (hm:m<ay.toArray.size),∃y t',ts[m]? = some y/\ay.toArray[m]=.int y t':=λm hm=>by
  have Cr:m<ts.length:=by simp at hm;omega
  obtain⟨w,hw,fq⟩:=r.get (by rw[acn,aa9 Cr];rfl);obtain⟨t',rfl⟩:=fq;refine⟨ts[m],t',aa9 Cr,?_⟩;have:=(abP.mp hw).2;simpa using this
 have hsz:j<ay.toArray.size:=by simp;omega
 refine call_meets F.slot_list_index ⟨_,ho,rfl⟩ F.entry_list_index (F.args_list_index_2 _ _) (SeqAt.list_indexAt l ay.toArray n dd sl (.int i t) (iT (.int i)) j hsz (by rw[ae6] at hz;omega) ?_ (λm hm cU=>?_)) ⟨ho,λw hw=>wm (x:=.int i) ⟨t,rfl⟩ rfl r (by rw[agY];exact adt.mpr λ_ _=>rfl) w (by simpa using hw),⟨.int j,H,I.tok _,⟨_,rfl⟩,q⟩⟩
 .obtain⟨y,t',h1,h2⟩:=uU j hsz;rw[h2,So];rw[hj] at h1;cases h1;exact aen _
 .obtain⟨y,t',h1,h2⟩:=uU m hm;rw[h2,So];refine af9.mpr λe=>HV m cU ?_
  rw[h1,eq_of_beq e]
end L2
namespace L2
theorem bH.m(r:bH k A cm)(h:j<=k:=by decide):bH j A cm:=r.mono h
end L2
namespace L2.Ev
open PySem PySem.Spec PyProof.Rows
def DR:D->D->Option D
 |.lst ds,.int i=>match eN ds with
  |some ts=>(ts.findIdx? (· == i)).map λj:Nat=>.int j
  |none=>none
 |_,_=>none
theorem Vv(ha:FP X a fa)(hb:FP X b fb)(hs:Y2 X b:=by rfl)(iQ:attributeBase a "index" X.env (eval a X.env)=eval a X.env:=by rfl)
  (iW:((backTo p3 (starEach [b] X.env)).all (λx=>!x.1)&&(backToKw p3 (keywordEach [] X.env)).all (λx=>x.1.isSome)&&decide ([b].length+([]:List Keyword).length+(if([]:List Keyword).isEmpty then 0 else 1)<30))=true:=by rfl)
  (iS:(p2.endLine==p3.line)=true:=by rfl):FP X (.Call (.Attribute a "index" p2) [b] [] p3) (e2 DR fa fb):=by
 exists 46;exists 21,vO PySem.F.plainAttrs_list PySem.F.slot_list_index PySem.F.type_list_index Yw pa (d8 pb fY hs) iQ iW iS hs rfl;obtain⟨d1,t1,d2,t2,e1,h_,e3,rfl⟩:=oZ e;exists 66
 cases d1 with
 |lst ds=>
  cases d2 with
  |int i=>
   have e3:(match eN ds with|some ts=>(ts.findIdx? (· == i)).map λj:Nat=>D.int j|none=>none)=some d:=e3;cases h:eN ds with
   |none=>rw[h] at e3;cases e3
   |some ts=>
    rw[h] at e3;dsimp only at e3;cases h2:ts.findIdx? (· == i) with
    |none=>rw[h2] at e3;cases e3
    |some j=>
     rw[h2] at e3;cases e3;obtain⟨l0,xs0,f0,rfl,WW,rs0,_⟩:=r1.dD;refine⟨.inl ⟨rfl,_,WW⟩,?_⟩;exists 47
     obtain⟨rfl,_⟩:=r2.jh;have CY:=r1.same s2;obtain⟨l,xs,f,e0,hq,rs,_⟩:=CY.dD;cases e0;have hx:=r6 rs h;subst hx;obtain⟨hj,hp,HV⟩:=List.findIdx?_eq_some_iff_getElem.mp h2;refine⟨l0,ts,i,j,rfl,rfl,hq,?_,λm hm em=>?_,k H2 _ [] (s1.trans s2) (.int _) ⟨acW,λa m=>nomatch m⟩⟩
     .rw[aa9 hj,eq_of_beq hp]
     .obtain⟨Cr,e'⟩:=abP.mp em;exact HV m hm (by rw[e'];exact aen _)
  |_=>cases e3
 |_=>cases e3
end L2.Ev
namespace L2
open PySem PySem.Spec PyProof.Rows
theorem Fz{K:PySem.W.Frag}(h:zc K=true):∀r∈i_ K,i_ K=[r]/\PySem.W.codeHdIn K r.1 r.2.1=true/\K.lookup r.2.1=none:=λr m=>by
 have ok:=((aaV _ _).mp h).2
 split at ok
 .rename_i e;rw[e] at m;cases m
 .rename_i r' e;rw[e] at m;cases aaU.mp m;obtain⟨a,b⟩:=(aaV _ _).mp ok;exact⟨e,a,by simpa using b⟩
 .cases ok
def wo(K:PySem.W.Frag):Hp:=λb=>match i_ K with
 |[r]=>if b=r.2.1 then some (.i8 r.2.2.1 r.2.2.2) else none
 |_=>none
theorem aaL{K:PySem.W.Frag}
  (KX:K.In bS.heap) (yg:zc K=true) (xg:∀r∈i_ K,bS.heap.get? r.2.1=some (PySem.W.tabObj #[])) (uS:bS.heap.Ns mainGlobals mg) (hb:bS.heap.Ns builtinsNs mb) (WB:∀x:Str,x≠"__name__"->mb x=bootBuiltins x) (Uu:bS.heap.NoLimit)
  (VP:∃bm ob,mg "__builtins__"=some (.ref bm)/\bm≠builtinsNs/\bS.heap.get? bm=some ob/\ob.cls=.type "module"/\ob.dict=some builtinsNs/\ob.data=.plain) (hg:bS.gens=#[])
  (ha:bS.heap.get? a=some { cls:=.type "list",data:=.seq vs.toArray }) (hi:IntsAre vs ns) (hl:ns.length<=sizeLine) (hr:bH k callerA)
  (F:∀base:Heap,K.In base->base.Ns mainGlobals mg->cE P w K mg base CX k fa fd [x] sp) (ZG:∀(s) (u),BindsTo s fd ⟨[u],[]⟩ [(x,u)])
  (qS:∀H:Hp,Ev.qm K H a (ns.map V.int)->sp [.ref a] H (λv _=>v=.bl true) λ_ _ _=>False) (GP:∀H e s',CX [] H bS (λ_ _ _=>False) e s'->False) :
  codeAny (model P w) callerA (.call (.ref fa) ⟨[.ref a],[]⟩) (λr s'=>r=.ok (.ret (.bool true))/\OldK bS.heap s'.heap/\s'.os=bS.os/\AllBare s'.gens) bS:=by
 have rv:=GU hi;have aeZ:=hi.length;have tab_of:∀{b} {u},wo K b=some u->∃r∈i_ K,b=r.2.1/\u=.i8 r.2.2.1 r.2.2.2:=λ{b u} e=>by
  unfold wo at e
  split at e
  .rename_i r er;obtain⟨h,e⟩:=ci e;cases e;exact⟨r,by rw[er];exact List.mem_singleton_self r,h,rfl⟩
  .cases e
 have L0:∀r∈i_ K,wo K r.2.1=some (.i8 r.2.2.1 r.2.2.2):=λr m=>by
  unfold wo;rw[(Fz yg r m).1];exact if_pos rfl
 have na:∀r∈i_ K,r.2.1≠a:=λr m z=>by
  have:=xg r m;rw[z,ha] at this;cases this
 have core:∀H:Hp,Ev.qm K H a (ns.map V.int)->(∀b u,H b=some u->(b=a/\K.lookup a=none/\u=.fM { cls:=.type "list",data:=.seq vs.toArray } (.lst (ns.map V.int)))\/∃r∈i_ K,b=r.2.1/\u=.i8 r.2.2.1 r.2.2.2)->(∀r∈i_ K,H r.2.1=some (.i8 r.2.2.1 r.2.2.2))->
   codeAny (model P w) callerA (.call (.ref fa) ⟨[.ref a],[]⟩) (λr s'=>r=.ok (.ret (.bool true))/\OldK bS.heap s'.heap/\s'.os=bS.os/\AllBare s'.gens) bS:=by
  intro H hS hA hL;have aK:eF P w H bS.heap:=λb u e=>by
   rcases hA b u e with⟨rfl,_,rfl⟩|⟨r,m,rfl,rfl⟩
   .exact⟨ha,by rw[List.length_map];exact hl,vs,_,rv,ha⟩
   .exact⟨#[],xg r m,.inl rfl⟩
  have free:∀{b} {o},bS.heap.get? b=some o->(∀xs n,o.data≠.seq xs n)->(∀xs,o.data≠.fields xs)->H b=none:=λ{b o} e d1 d2=>by
   cases q:H b with
   |none=>rfl
   |some u=>
    rcases hA b u q with⟨rfl,_,_⟩|⟨r,m,rfl,_⟩
    .rw[ha] at e;cases e;exact absurd rfl (d1 _ _)
    .rw[xg r m] at e;cases e;exact absurd rfl (d2 _)
  have Al:∀{b} {m},bS.heap.Ns b m->(qH bS.heap H).Ns b m:=λ{b m} ⟨o,es,ep,e,d,r⟩=>⟨o,es,ep,EB e (free e (λ_ _ z=>by rw[d] at z;cases z) λ_ z=>by rw[d] at z;cases z),d,r⟩
  have RI:K.In (qH bS.heap H):=λb o e=>EB (KX b o e) (by
   cases q:H b with
   |none=>rfl
   |some u=>
    rcases hA b u q with⟨rfl,z,_⟩|⟨r,m,rfl,_⟩
    .rw[z] at e;cases e
    .rw[(Fz yg r m).2.2] at e;cases e)
  obtain⟨bm,ob,b1,b2,b3,b4,b5,b6⟩:=VP;have hM:Mod K mg (qH bS.heap H):=⟨RI,Al uS,⟨mb,Al hb,WB⟩,let⟨mc,h1,h2⟩:=Uu;⟨mc,Al h1,h2⟩,bm,ob,b1,b2,EB b3 (free b3 (λ_ _ z=>by rw[b6] at z;cases z) λ_ z=>by rw[b6] at z;cases z),b4,b5,b6⟩
  have e0:sV P w K mg (qH bS.heap H) callerA [] bS H:=⟨rfl,hM,λb o e=>SS e,Nat.le_of_eq (adj _ _),trivial,λb hb=>absurd (show b∈([]:List Addr) from hb) (by simp),aK,.of_eq hg,⟨.inl rfl,yg,hL⟩⟩
  refine codeAny_mono ((F _ RI (Al uS)).run callerA [] bS H ⟨[.ref a],[]⟩ [.ref a] [.ref a] _ _ hr e0 (ZG bS (.ref a)) (.cons rfl .nil) (qS H hS)) λr s' h=>?_
  cases r with
  |error e=>exact(GP H e s' h).elim
  |ok fl=>
   cases fl with
   |next=>exact False.elim h
   |brk=>exact False.elim h
   |cont=>exact False.elim h
   |ret u=>
    obtain⟨v,H',os,bare,un,LN,r',q⟩:=h;have q':=q;subst q';obtain rfl:u=Value.bool true:=r';refine⟨rfl,⟨λb o e=>?_,λb o e=>un.there b o e (by simp)⟩,os,bare⟩;cases q:H b with
    |none=>exact .inl (un.keep b o e q (by intro z;exact absurd (show b∈([]:List Addr) from z) (by simp)) (by simp))
    |some u=>
     rcases hA b u q with⟨rfl,_,rfl⟩|⟨r,m,rfl,rfl⟩
     .have z2:=un.k8 b _ _ q;obtain⟨e1,_⟩:=aK b _ q;obtain⟨e2,_⟩:=LN b _ z2;rw[e] at e1;cases e1;exact .inl e2
     .have z2:=un.lP r.2.1 (.i8 _ _) q;obtain⟨ps,e2,_⟩:=LN _ _ z2;rw[xg r m] at e;cases e;exact .inr (.inl ⟨((PySem.W.codeHd_of_K KX (Fz yg r m).2.1).tab (xg r m)).isCodeTable,rfl,#[],ps,rfl,by simpa using e2⟩)
 cases hk:K.lookup a with
 |some o=>
  have e:=KX a o hk;rw[ha] at e;cases e;refine core (wo K) (.inr ⟨_,vs.toArray,_,hk,rfl,rfl,rfl,by rw[ab5,aeZ];exact hl,by simpa using rv⟩) (λb u z=>.inr (tab_of z)) L0
 |none=>
  refine core (λb=>if b=a then some (.fM { cls:=.type "list",data:=.seq vs.toArray } (.lst (ns.map V.int))) else wo K b) (.inl ⟨{ cls:=.type "list",data:=.seq vs.toArray },if_pos rfl⟩) (λb u z=>?_) λr m=>(if_neg (na r m)).trans (L0 r m)
  by_cases hb:b=a
  .have z':=(if_pos hb).symm.trans z;cases z';exact .inl ⟨hb,hk,rfl⟩
  .exact .inr (tab_of ((if_neg hb).symm.trans z))
theorem acT{l:PySem.W.OpenLaw}{K:Params->PySem.W.Frag}{CX:World->uu}{sp:World->Sp}
  (hn:l.most=some n) (sL:n<=sizeLine) (yP:d.params.defaults=[]) (hr:bH k callerA) (hY:∀(w) (h),YP w h->(K w.params).In h) (hT:∀(w) (h),YP w h->∀r∈i_ (K w.params),h.get? r.2.1=some (PySem.W.tabObj #[])) (hL:∀w:World,zc (K w.params)=true)
  (F:∀(w) (mg) (fa) (h),(K w.params).In h->h.Ns mainGlobals mg->mg d.name=some (.ref fa)->
   ∃fd:FuncData,(∀(s) (u),BindsTo s fd ⟨[u],[]⟩ [(x,u)])/\∀base:Heap,(K w.params).In base->base.Ns mainGlobals mg->cE l.prog w (K w.params) mg base (CX w) k fa fd [x] (sp w))
  (qS:∀(w) (H) (a) (ns:List Int),ns.length<=n->Ev.qm (K w.params) H a (ns.map V.int)->sp w [.ref a] H (λv _=>v=.bl true) λ_ _ _=>False)
  (GP:∀(w) (H) (s) (e) (s'),CX w [] H s (λ_ _ _=>False) e s'->False) :
  PySem.W.WalkO q loose XP YP l.row.toRowW d [] (λf vs=>PySem.call f vs):=by
 refine Nd.V_ hn yP λw eT bS mg mb fa o pm cd doc a vs ns G Y ho hd o6 zg Hw hints hlen hg=>?_
 obtain⟨fd,hb,hF⟩:=F w mg fa _ (hY w _ Y) G.T.g zg;exact aaL (hY w _ Y) (hL w) (hT w _ Y) G.T.g G.T.b G.T.builtins G.T.nolimit G.T.bmain hg Hw hints (adk hlen sL) hr hF hb (λH hS=>qS w H a ns hlen hS) λH e s'=>GP w H bS e s'
end L2
namespace L2.Ev
open PySem PySem.Spec PySem.W PyProof.Rows
structure Z where
 P:Program
 w:World
 K:Frag
 mg:Str->Option Value
 base:Heap
structure En(L:Ls)(z:Z):Prop where
 b:∀{x},L.bt.contains x=true->z.mg x=none
 i:∀{x} {n},L.gi.lookup x=some n->∃t,z.mg x=some (.int n t)
 t:∀{x} {l},L.tp.lookup x=some l->∃a,z.mg x=some (.ref a)/\Bv z.K a l
 c:∀c:Str,L.cl.contains c=true->ClsAt z.K c (cA z.K c)
 m:∀{c},L.cl.contains c=true->z.mg c=some (.ref (cA z.K c))
 n:∀{c a},L.na.contains (c,a)=true->jk z.K (cA z.K c) a
 ni:L.ni=true->m_ z.K=true
def pF(s:Stmt):List Str:=(mD s).args.map (·.arg)
theorem Nu:∀{l:List Str} {us},us.map strOf=l.map some->aU (l.map V.str) us
 |[],[],_=>.nil
 |[],_::_,e=>nomatch e
 |_::_,[],e=>nomatch e
 |a::l,u::us,e=>by
  obtain⟨e1,e2⟩:=List.cons.inj e;refine .cons ?_ (Nu e2);cases u<;>cases e1
  exact⟨_,rfl⟩
theorem VG{K:Frag}(q:DE K x l=true):∃a,nsIn K mainGlobals x=some (some (.ref a))/\Bv K a l:=by
 unfold DE at q
 split at q
 .rename_i a h;refine⟨a,h,?_⟩
  split at q
  .rename_i c ay n sl h1;simp only[aaV,agF,agM] at q;exact⟨_,ay,_,h1,q.1.1,rfl,rfl,q.1.2,Nu q.2⟩
  .cases q
 .cases q
theorem Hg:∀{l:List (Str×β)},l.lookup x=some y->(x,y)∈l
 |[],e=>nomatch e
 |(a,b)::l,e=>by
  rw[aeg] at e
  by_cases h:(x==a)=true
  .rw[h] at e;cases e;rw[eq_of_beq h];exact .head _
  .rw[show(x==a)=false by simpa using h] at e;exact .tail _ (Hg e)
theorem abq{L:Ls}{K:Frag}(X:K.In h)(G:h.Ns mainGlobals mg)(q:ug L K=true):En L ⟨P,w,K,mg,base⟩:=by
 unfold ug at q;simp only[aaV,adt,agF] at q;obtain⟨⟨⟨⟨⟨qi,q1⟩,q2⟩,q3⟩,q4⟩,q5⟩:=q;have cl:∀c:Str,L.cl.contains c=true->xw K c=true:=λc h=>q4 c (afd.mp h)
 refine⟨λh=>mg_none_of X G (q1 _ (afd.mp h)),λ{x n} h=>?_,λh=>?_,λc h=>?_,λ{c} h=>?_,λh=>q5 _ (afd.mp h),λh=>?_⟩
 .have:=q2 _ (Hg h);unfold QB at this
  split at this
  .rename_i m t e;cases eq_of_beq this;exact⟨t,mg_of X G e⟩
  .cases this
 .obtain⟨a,e,t⟩:=VG (q3 _ (Hg h));exact⟨a,mg_of X G e,t⟩
 .have:=cl c h;unfold xw at this;simp only[aaV,agF] at this;obtain⟨⟨⟨⟨⟨⟨h1,h2⟩,h3⟩,h4⟩,h5⟩,_⟩,_⟩:=this;exact⟨h1,⟨h2,h3,h4,h5⟩⟩
 .have:=cl c h;unfold xw at this;simp only[aaV,agF] at this;exact mg_of X G this.1.1.1.1.1.1
 .rw[h] at qi;exact qi
theorem adI{K:Frag}(q:ug L K=true)(h:L.cl.contains c=true):makesIn K (cA K c)=true/\keepIn K (.ref (cA K c))=true:=by
 unfold ug at q;simp only[aaV,adt] at q;have:=q.1.2 c (afd.mp h);unfold xw at this;simp only[aaV] at this;exact⟨this.1.2,this.2⟩
theorem NQ{K:Frag}(e:IQ K q v=some (fnOf x q (mD s) (ie s) (cT s) .none .none .none .none none .none .none)):∃f,v=some (some (.ref f))/\isFn K (.ref f)=true/\GL K x q s f:=by
 unfold IQ at e
 split at e
 .rename_i a
  split at e
  .rename_i oc od fd sl h;obtain⟨hc,e⟩:=ci e;simp only[aaV] at hc;refine⟨a,rfl,hc.2,?_⟩;obtain⟨n,qn,pa,bo,sc,gl,cl,df,kw,dc,pm,an,cd,ct,bi⟩:=fd;unfold Lu at e;injection e with e;injection e with e1 e2 e3 e4 e5 e6 e7 e8 e9 e10 Kf e12 e13 e14 ZV;subst e1 e2 e3 e4 e5 e6 e7 e8 ZV;exact⟨_,_,_,_,_,_,_,_,_,h,hc.1.1,hc.1.2⟩
  .cases e
 .cases e
theorem Ln{K:Frag}{tab:List (Str×Stmt)}{i:Nat}(t:tab.map (look K)=tab.map want)(e:tab[i]? = some p):look K p=want p:=by
 have:=congrArg (·[i]?) t;simp only[acn,e,Option.map_some] at this;exact acf this
theorem Qv{K:Frag}{tab:List (Str×Stmt)}(i:Nat){s:Stmt}(t:tab.map (look K)=tab.map want)(e:tab[i]? = some (Str.empty,s)):IC K (ju s) s:=by
 obtain⟨f,h,_,g⟩:=NQ (Ln t e);exact⟨f,h,g⟩
theorem Lq{K:Frag}{tab:List (Str×Stmt)}(i:Nat){c:Str}(t:tab.map (look K)=tab.map want)(e:tab[i]? = some (c,s))(n:(c==Str.empty)=false):GM K (cA K c) (ju s) (jU c s) s:=by
 obtain⟨f,h,i,g⟩:=NQ (Ln t e);refine⟨f,?_,i,g⟩;rw[n] at h;exact h
section
variable(z:Z)(k:Nat)(c:Str)(s:Stmt)(sp:Frag->Sp)(cm:Bool:=true)
def Z.D:Prop:=∀(f) (fd),jR z.K (ju s) (jU c s) s f fd->cE z.P z.w z.K z.mg z.base dF k f fd (pF s) (sp z.K) cm
def Z.N:Prop:=FN z.P z.w z.K z.mg z.base dF k (ju s) (pF s) (sp z.K) cm
def Z.M:Prop:=MT z.P z.w z.K z.mg z.base dF k (cA z.K c) (ju s) (pF s) (sp z.K) cm
def Z.I:Prop:=MI z.P z.w z.K z.mg z.base dF k (cA z.K c) (pF s) (sp z.K) cm
end
section
variable{K:Frag}
theorem FN.G(W:FN P w K mg base CX k x ps sp cm):cE P w K mg base CX k W.choose W.choose_spec.choose ps sp cm:=W.choose_spec.choose_spec.1
theorem FN.m(W:FN P w K mg base CX k x ps sp cm):mg x=some (.ref W.choose):=W.choose_spec.choose_spec.2.1
theorem FN.kp(W:FN P w K mg base CX k x ps sp cm):keepIn K (.ref W.choose)=true:=W.choose_spec.choose_spec.2.2.1
theorem FN.b(W:FN P w K mg base CX k x ps sp cm):Binds K W.choose_spec.choose ps []:=W.choose_spec.choose_spec.2.2.2
theorem MT.G(W:MT P w K mg base CX k C x ps sp cm):cE P w K mg base CX k W.choose W.choose_spec.choose ps sp cm:=W.choose_spec.choose_spec.1
theorem MT.b(W:MT P w K mg base CX k C x ps sp cm):Binds K W.choose_spec.choose ps []:=W.choose_spec.choose_spec.2.1
theorem MT.t(W:MT P w K mg base CX k C x ps sp cm):l_ K C x W.choose:=W.choose_spec.choose_spec.2.2
theorem MI.G(W:MI P w K mg base CX k C ps sp cm):cE P w K mg base CX k W.choose W.choose_spec.choose ps sp cm:=W.choose_spec.choose_spec.1
theorem MI.b(W:MI P w K mg base CX k C ps sp cm):Binds K W.choose_spec.choose ps []:=W.choose_spec.choose_spec.2.1
theorem MI.M(W:MI P w K mg base CX k C ps sp cm):Mk K C W.choose:=W.choose_spec.choose_spec.2.2
end
def kh(s:Stmt):List Str:=(cT s).names.filterMap λy=>if y.2 == .local||y.2 == .cell then some y.1 else none
def AA(n m:Nat)(s:Stmt):Prop:=qK (kh s) (pF s) (cT s)/\(pF s).length=n/\(kh s).length=m/\n<=m
section
variable{z:Z}
theorem Z.oF(S:AA n m s)(h:∀(f) (fd:FuncData) (aX:{c:Value // c=fd.code}) (A) (o) (t) (H) (E),bH k (A.deeper (envOfC (jU c s) (cT s) t.heap.objs.size f aX)) cm->(kh s).Nodup->FS (jm dF z.P z.w z.K z.mg z.base (kh s) (jU c s) (cT s) f aX A o t H E cm).gb (ie s) b):
  z.D (k+1) c s (bq · (bG n m b)) cm:=by
 obtain⟨S,rfl,rfl,_⟩:=S;exact λ_ _ F=>Sl F S λaX A o t H E hr=>h _ _ aX A o t H E hr S.nd
theorem Z.oQ(S:AA n m s)(h0:(kh s)[0]? = some x0)(h:∀(f) (aX) (A) (o) (t) (H) (E),bH k (A.deeper (envOfC (jU c s) (cT s) t.heap.objs.size f aX))->(kh s).Nodup->E3 im ((jm dF z.P z.w z.K z.mg z.base (kh s) (jU c s) (cT s) f aX A o t H E).gb.kP [x0]) (ie s) b):
  z.D (k+1) c s (EC im · (runM n m b)):=by
 obtain⟨S,rfl,rfl,l⟩:=S;exact λ_ _ F=>aeX F S h0 λaX A o t H E hr=>h _ aX A o t H E hr S.nd
theorem Z.oM(S:AA n m s)(h0:(kh s)[0]? = some x0)(h:∀(f) (aX) (A) (o) (t) (H) (E),bH k (A.deeper (envOfC (jU c s) (cT s) t.heap.objs.size f aX))->(kh s).Nodup->E3 true ((jm dF z.P z.w z.K z.mg z.base (kh s) (jU c s) (cT s) f aX A o t H E).gb.kP [x0]) (ie s) b):
  z.D (k+1) c s (dO · (runM n m b)):=λ_ _ F=>(Z.oQ S h0 h _ _ F).imp WU
end
section
variable{K:Frag}{tab:List (Str×Stmt)}
theorem dN(X:K.In h)(G:h.Ns mainGlobals mg)(t:tab.map (look K)=tab.map want)(i:Nat)(o:Z.D ⟨P,w,K,mg,base⟩ k Str.empty s sp cm)(b:BA (ju s) (ju s) s (pF s):=by walk_at "ba")(e:tab[i]? = some (Str.empty,s):=by rfl):Z.N ⟨P,w,K,mg,base⟩ k s sp cm:=fnW X G (Qv i t e) (λF=>o _ _ F) b
theorem cY(t:tab.map (look K)=tab.map want)(i:Nat)(o:Z.D ⟨P,w,K,mg,base⟩ k c s sp cm)(b:BA (ju s) (jU c s) s (pF s):=by walk_at "ba")(e:tab[i]? = some (c,s):=by rfl)(n:(c==Str.empty)=false:=by rfl):Z.M ⟨P,w,K,mg,base⟩ k c s sp cm:=Tq (Lq i t e n) (λF=>o _ _ F) b
theorem JW(t:tab.map (look K)=tab.map want)(q:ug L K=true)(i:Nat)(o:Z.D ⟨P,w,K,mg,base⟩ k c s sp cm)(b:BA (ju s) (jU c s) s (pF s):=by walk_at "ba")(e:tab[i]? = some (c,s):=by rfl)(n:(c==Str.empty)=false:=by rfl)(y:ju s="__init__":=by rfl)(v:L.cl.contains c=true:=by rfl):Z.I ⟨P,w,K,mg,base⟩ k c s sp cm:=by
 have l:=Lq i t e n;obtain⟨a,b'⟩:=adI q v;obtain⟨f,e1,i,l⟩:=l;obtain⟨kp,fd,F⟩:=C9 l;rw[y] at e1;exact⟨f,fd,o _ _ F,F.binds b,⟨a,e1,i,b'⟩⟩
end
section
variable{st:Stmt}
theorem ba_n(n:Nat)(h:ps.length=n)(e:∀(kV doc pm) (an) (aX ct) (f:Fin n->Value),bindArgs (fnOf x q (mD st) (ie st) (cT st) .none kV doc pm an aX ct) ⟨List.ofFn f,[]⟩=pure (ps.zip (List.ofFn f))):BA x q st ps:=λkV doc pm an aX ct us hl=>by
 obtain rfl:=hl.trans h;have:=e kV doc pm an aX ct λi=>us[(i:Nat)]
 rwa [List.ofFn_getElem] at this
end
theorem pG(h:∃t,X.mg x=some (.int n t))(hg:GD X x:=by exact⟨rfl,by decide⟩):FP X (.Name x pos) (eC (.int n)):=let⟨_,h⟩:=h;V6 h hg
theorem Qc(h:∃t,X.mg x=some (.ref t)/\Bv X.K t ys)(hg:GD X x:=by exact⟨rfl,by decide⟩):FP X (.Name x pos) (eC (.tup (ys.map D.str))):=let⟨_,h,t⟩:=h;Xg h t hg
theorem f6(h3:X.env.kindOf=λx=>X.env.scope.names.lookup x)(h:xZ X.N X.env.scope sc M js=true):oS X M js sc:=aaP rfl rfl h3 h
section
variable{A:Z->Prop}
noncomputable abbrev wF{F:List D->Option D}(_:∀z,A z->z.D k c s (bq · F) cm)(z:Z):Prop:=z.N k s (bq · F) cm
noncomputable abbrev wG{F:List D->Option D}(_:∀z,A z->z.D k c s (bq · F) cm)(z:Z):Prop:=z.M k c s (bq · F) cm
noncomputable abbrev wO{F:MF}(_:∀z,A z->z.D k c s (dO · F) cm)(z:Z):Prop:=z.M k c s (dO · F) cm
noncomputable abbrev wI{F:MF}(_:∀z,A z->z.D k c s (dO · F) cm)(z:Z):Prop:=z.I k c s (dO · F) cm
noncomputable abbrev fF{F:List D->Option D}(_:∀z,A z->z.D k c s (bq · F) cm):List D->Option D:=F
noncomputable abbrev fO{F:MF}(_:∀z,A z->z.D k c s (dO · F) cm):MF:=F
end
end L2.Ev
namespace L2.Ev
open PySem PySem.Spec PyProof.Rows
noncomputable abbrev JF:=List D->Option (D×List D)
noncomputable def nF(J:List Nat):Nat->List D->aO
 |_,[]=>[]
 |i,d::r=>some (d,if J.contains i=true then Tag.own else Tag.sh [])::nF J (i+1) r
def nu(J:List Nat)(n N:Nat)(b:SF):JF:=λds=>if ds.length=n then(match b (nF J 0 ds++List.replicate (N - ds.length) none) with
 |some (.rt (.tup (r::es)))=>some (r,es)
 |some (.nx ρ)=>(jS J ρ).map λes=>(.az,es)
 |_=>none) else none
structure Wi(K:PySem.W.Frag)(H:Hp)(J:List Nat)(C:List Addr)(y:Addr->Option Nat)(ds:List D)(vs:List V):Prop where
 ln:ds.length=vs.length
 sl:∀i d,ds[i]? = some d->∃v f,vs[i]? = some v/\Rep K H d v f/\(i∈J->f.Nodup/\∀a∈f,y a=some i)/\(i∉J->∀a∈f,y a=none)
 dm:∀a j,y a=some j->a∈C
 mu:∀a∈C,∃o,H a=some o/\jl o=true
def n6(J:List Nat)(K:PySem.W.Frag)(G:JF):Sp:=λvs H Q _=>∃ds C y r es,Wi K H J C y ds vs/\G ds=some (r,es)/\
 ∀H' v cN (nf:Nat->List Addr),aV H H'->(∀b o,b∉C->H b=some o->H' b=some o)->(∀k l a,a∈nf k->a∈nf l->k=l)->
  (∀k i,J[k]? = some i->∃d u,es[k]? = some d/\vs[i]? = some u/\Rep K H' d u (nf k)/\(nf k).Nodup/\∀a∈nf k,a∈C\/H a=none)->
  Rep K H' r v cN->cN.Nodup->(∀b∈cN,(b∈C\/H b=none)/\∀k,b∉nf k)->es.length=J.length->Q v H'
theorem QW:∀{ds} {k i},(nF J k ds)[i]? = (ds[i]?).map λd=>some (d,if J.contains (k+i)=true then Tag.own else Tag.sh [])
 |[],k,i=>by simp[nF]
 |d::ds,k,0=>rfl
 |d::ds,k,i+1=>by
  show(nF J (k+1) ds)[i]? = _;rw[QW,Nat.add_right_comm];rfl
theorem A4:∀{ds} {k},(nF J k ds).length=ds.length
 |[],_=>rfl
 |d::ds,k=>by show(nF J (k+1) ds).length+1=_;rw[A4];rfl
theorem MS:∀{J} {ρ} {es},jS J ρ=some es->es.length=J.length/\∀(k i:Nat),J[k]? = some i->∃d,es[k]? = some d/\ρ[i]? = some (some (d,Tag.own))
 |[],ρ,es,h=>by cases h;exact⟨rfl,λk i e=>by simp at e⟩
 |j::J,ρ,es,h=>by
  unfold jS at h
  split at h
  .rename_i d e;obtain⟨gA,h',rfl⟩:=ach.mp h;obtain⟨l,c⟩:=MS h';refine⟨by rw[acj,acj,l],λk i e2=>?_⟩;cases k with
   |zero=>cases e2;exact⟨d,rfl,e⟩
   |succ k=>exact c k i e2
  .cases h
noncomputable def Pb(N xs:List Str)(J:List Nat):Bool:=J.all λi=>match N[i]? with
 |some x=>x==("self":Str)||(!(xs.contains ("self":Str))&&!(!(xs.contains x)))
 |none=>false
section
variable{K:PySem.W.Frag}
theorem WZ{st:Stmt}(F:jR K x qual st f fd)(S:qK N ps (cT st))(h0:Pb N xs J=true)(hJ:J.Nodup)(tU:ps.length<=N.length)
  (hb:∀(aX) (A) (outer) (s) (H) (E),bH k (A.deeper (envOfC qual (cT st) s.heap.objs.size f aX))->FJ J false ((jm dF P w K mg base N qual (cT st) f aX A outer s H E).gb.kP xs) (ie st) b) :
  cE P w K mg base dF (k+1) f fd ps (n6 J K (nu J ps.length N.length b)):=by
 have r_:∀{ds} {r},nu J ps.length N.length b ds=some r->ds.length=ps.length:=λ{ds r} e=>by
  unfold nu at e
  split at e
  .assumption
  .cases e
 refine F.ok S (λvs H Q E h=>?_) λaX A outer s H vs Q E hr h=>?_<;>obtain⟨ds,C,y,r,es,a,e,q⟩:=h
 .rw[<- a.ln,r_ e]
 .obtain⟨t,pt,sd⟩:=hb aX A outer s H E hr;refine⟨t,pt.kP rfl,?_⟩;have hl:=r_ e;have ok:Ok K H C y [] (nF J 0 ds++List.replicate (N.length-ds.length) none) (start N vs) H:=by
   unfold start;refine⟨λi d t e=>?_,(λp m=>by cases m),(λa' j e=>⟨let⟨o,w,_⟩:=a.mu a' (a.dm a' j e);⟨o,w⟩,.inr (a.dm a' j e)⟩),(λa o e _=>e),?_⟩
   .by_cases hi:i<ds.length
    .rw[ad0 (by rw[A4];exact hi),QW,aa9 hi] at e;cases e;obtain⟨v,g,hv,rv,h1,h2⟩:=a.sl i _ (aa9 hi);refine⟨v,g,(ad0 (by rw[List.length_map,<- a.ln];exact hi)).trans (by rw[acn,hv];rfl),rv,?_⟩;rw[agv]
     by_cases hj:i∈J
     .rw[if_pos (afd.mpr hj)];exact h1 hj
     .rw[if_neg λq=>hj (afd.mp q)];intro a' m j e;rw[h2 hj a' m] at e;cases e
    .rw[aeb (by rw[A4];lia),agy] at e
     split at e<;>cases e
   .simp only[abD,List.length_map,List.length_replicate,A4];have:=a.ln
    lia
  have fin:∀{z} {ρ} {σ} {H'} {v} {cN},Ok K H C z [] ρ σ H'->jS J ρ=some es->Kp ((jm dF P w K mg base N qual (cT st) f aX A outer s H E).gb.kP xs) (start N vs) σ->Rep K H' r v cN->cN.Nodup->(∀b∈cN,(H b=none\/b∈C)/\∀i∈J,z b≠some i)->Q v H':=by
   intro z ρ σ H' v cN aW h1 kp rr yC qJ;obtain⟨le,at_⟩:=MS h1;have ex:∀k:Nat,∃g:List Addr,(∀i,J[k]? = some i->∃d u,es[k]? = some d/\vs[i]? = some u/\Rep K H' d u g/\g.Nodup/\(∀a∈g,z a=some i))/\(J[k]? = none->g=[]):=λk=>by
    cases hk:J[k]? with
    |none=>exact⟨[],(λi e=>nomatch e),λ_=>rfl⟩
    |some i=>
     obtain⟨d,e1,e2⟩:=at_ k i hk;obtain⟨u,g,hs,r1,zz⟩:=aW.sl i d .own e2;refine⟨g,λi' e'=>?_,λe'=>nomatch e'⟩;cases e';refine⟨d,u,e1,?_,r1,zz.1,zz.2⟩;have hi:=adt.mp h0 i (adU hk);cases hN:N[i]? with
     |none=>rw[hN] at hi;cases hi
     |some x=>
      rw[hN] at hi;have hk:=kp i x hN hi;rw[hs] at hk;have il:i<vs.length:=by
       by_cases hv:i<vs.length
       .exact hv
       .exfalso
        unfold start at hk;rw[aeb (by rw[List.length_map];lia),agy] at hk
        split at hk<;>cases hk
      unfold start at hk;rw[ad0 (by rw[List.length_map];exact il),acn] at hk;cases hv:vs[i]? with
      |none=>rw[hv] at hk;cases hk
      |some u'=>rw[hv] at hk;cases hk;rfl
   obtain⟨nf,hn⟩:=Classical.axiomOfChoice ex;have zk:∀k a,a∈nf k->∃i,J[k]? = some i/\z a=some i:=λk a m=>by
    cases hk:J[k]? with
    |none=>rw[(hn k).2 hk] at m;cases m
    |some i=>obtain⟨_,_,_,_,_,_,c⟩:=(hn k).1 i hk;exact⟨i,rfl,c a m⟩
   have eB:∀{c} {o},H c=some o->jl o=false->H' c=some o:=λ{c o} e' mo=>aW.en c _ e' λm=>by
    obtain⟨o',w,mP⟩:=a.mu c m;rw[e'] at w;cases w;rw[mo] at mP;cases mP
   refine q H' v cN nf ⟨λc xs e'=>eB e' rfl,λc o u e'=>eB e' rfl,λc φ e'=>eB e' rfl⟩ (λc o n e'=>aW.en c o e' n) (λk l a m m'=>?_) (λk i e=>?_) rr yC (λc m=>⟨(qJ c m).1.symm,λk m'=>?_⟩) le
   .obtain⟨i,h1,h2⟩:=zk k a m;obtain⟨j,h3,h4⟩:=zk l a m';rw[h2] at h4;cases h4;obtain⟨lk,ek⟩:=abP.mp h1;obtain⟨ll,el⟩:=abP.mp h3;exact(List.getElem_inj hJ).mp (ek.trans el.symm)
   .obtain⟨d,u,a1,a2,a3,a4,a5⟩:=(hn k).1 i e;exact⟨d,u,a1,a2,a3,a4,λa m=>((aW.zd a i (a5 a m)).2).symm⟩
   .obtain⟨i,h1,h2⟩:=zk k c m';exact(qJ c m).2 i (adU h1) h2
  unfold nu at e;rw[if_pos hl] at e;cases ho:b (nF J 0 ds++List.replicate (N.length-ds.length) none) with
  |none=>rw[ho] at e;cases e
  |some o=>
   rw[ho] at e;refine sd ok ho ?_;cases o with
   |rt p=>
    have hp:p=.tup (r::es):=by
     split at e<;>rename_i hh
     .cases e;cases hh;rfl
     .cases hh
     .cases e
    exact⟨r,es,hp,λz ρ σ H' v cN aW h1 kp rr nd fr _=>fin aW h1 kp rr nd fr⟩
   |nx ρ'=>
    obtain⟨gA,h1,e2⟩:=ach.mp e;cases e2;exact λz σ H' aW kp=>fin aW h1 kp .az acW λb m=>nomatch m
   |bk _=>cases e
   |ct _=>cases e
   |er _ _ _=>cases e
end
def lu:aO->List Nat->List D->aO
 |ρ,j::js,e::es=>lu (bQ ρ j e) js es
 |ρ,_,_=>ρ
theorem Rh:∀{js} {es} {ρ},(lu ρ js es).length=ρ.length
 |[],_,_=>rfl
 |_::_,[],_=>rfl
 |j::js,e::es,ρ=>by show(lu (bQ ρ j e) js es).length=_;rw[Rh,Bm]
theorem C3:∀{js} {es} {ρ} {j} {d} {t},js.length=es.length->j∉js->(lu ρ js es)[j]? = some (some (d,t))->ρ[j]? = some (some (d,t))/\∀o,t=.sh o->∀i∈js,i∉o
 |[],[],_,_,_,_,_,_,h=>⟨h,λ_ _ _ m=>nomatch m⟩
 |i::js,e::es,ρ,j,d,t,l,n,h=>by
  obtain⟨h1,h2⟩:=C3 (by simpa using l) (λm=>n (aab _ m)) h;obtain⟨h3,h4⟩:=GJ (λq=>n (by rw[q];exact aad)) h1;refine⟨h3,λo ho k m=>?_⟩;rcases aaA.mp m with rfl|m
  .exact h4.resolve_left (λq=>q) o ho
  .exact h2 o ho k m
theorem Rx:∀{js} {es} {ρ} {j} {d},j∉js->ρ[j]? = some (some (d,.own))->(lu ρ js es)[j]? = some (some (d,.own))
 |[],_,_,_,_,_,h=>h
 |_::_,[],_,_,_,_,h=>h
 | i::js,e::es,ρ,j,d,n,h=>Rx (ρ:=bQ ρ i e) (λm=>n (aab _ m)) (by
  unfold bQ;rw[acS λq=>n (by rw[q];exact aad),acn,h];rfl)
theorem O7:∀{js} {es} {ρ}{k j:Nat} {d},js.Nodup->js[k]? = some j->es[k]? = some d->j<ρ.length->(lu ρ js es)[j]? = some (some (d,.own))
 |[],_,_,_,_,_,_,h,_,_=>by simp at h
 |_::_,[],_,_,_,_,_,_,h,_=>by simp at h
 |i::js,e::es,ρ,0,j,d,n,h1,h2,l=>by
  cases h1;cases h2;exact Rx (js:=js) (ab4.mp n).1 (Dr (aa9 l))
 |i::js,e::es,ρ,k+1,j,d,n,h1,h2,l=>O7 (ρ:=bQ ρ i e) (ab4.mp n).2 h1 h2 (by rw[Bm];exact l)
section
variable{K:PySem.W.Frag}
theorem Ok.SW{C:List Addr}{nf:Nat->List Addr}(ok:Ok K H0 S z aq ρ σ H)(nd:js.Nodup)(le:es.length=js.length)(old:∀j∈js,∃d,ρ[j]? = some (some (d,.own)))(im:aV H H')(hz:∀a∈C,∃j∈js,z a=some j)
  (keep:∀b o,b∉C->H b=some o->H' b=some o) (ap:∀k l a,a∈nf k->a∈nf l->k=l) (new:∀k j,js[k]? = some j->∃d v,es[k]? = some d/\σ[j]? = some (some v)/\Rep K H' d v (nf k)/\(nf k).Nodup/\∀a∈nf k,a∈C\/H a=none):∃z',Ok K H0 S z' aq (lu ρ js es) σ H':=by
 classical
 let N:Addr->Prop:=λa=>∃k,k<js.length/\a∈nf k
 let z':Addr->Option Nat:=λa=>if h:N a then js[Classical.choose h]? else if ∃j∈js,z a=some j then none else z a
 have z1:∀{a k j},js[k]? = some j->a∈nf k->z' a=some j:=λ{a k j} e m=>by
  have h:N a:=⟨k,(abP.mp e).1,m⟩
  show(if h:N a then js[Classical.choose h]? else _)=_;rw[dif_pos h,ap _ k a (Classical.choose_spec h).2 m,e]
 have z2:∀{a j},z' a=some j->(∃k,js[k]? = some j/\a∈nf k)\/(z a=some j/\j∉js):=λ{a j} e=>by
  have e:(if h:N a then js[Classical.choose h]? else if ∃j∈js,z a=some j then none else z a)=some j:=e
  by_cases h:N a
  .rw[dif_pos h] at e;exact .inl ⟨_,e,(Classical.choose_spec h).2⟩
  .rw[dif_neg h] at e
   by_cases h2:∃j∈js,z a=some j
   .rw[if_pos h2] at e;cases e
   .rw[if_neg h2] at e;exact .inr ⟨e,λm=>h2 ⟨j,m,e⟩⟩
 have at_:∀{k j},js[k]? = some j->j<ρ.length:=λ{k j} e=>let⟨_,h⟩:=old j (adU e);(abP.mp h).1
 have nC:∀{a},(∀j∈js,z a≠some j)->a∉C:=λh m=>let⟨j,mj,e⟩:=hz _ m;h j mj e
 have fr:∀{d v fp},Rep K H d v fp->(∀a∈fp,∀j∈js,z a≠some j)->Rep K H' d v fp:=λr h=>r.frame (λa m=>by
  obtain⟨o,w,_⟩:=r.cG a m;rw[keep a o (nC (h a m)) w,w]) im
 have Ij:∀{a k},k<js.length->a∈nf k->a∈C\/H a=none:=λ{a k} l m=>let⟨_,_,_,_,_,_,h⟩:=new k _ (aa9 l);h a m
 refine⟨z',λi d t e=>?_,λp m=>?_,λa j e=>?_,λa o e n=>?_,Rh.trans ok.ln⟩
 .by_cases hi:i∈js
  .obtain⟨k,hk⟩:=agQ hi;obtain⟨d',v,e1,e2,e3,e4,_⟩:=new k i hk;rw[O7 nd hk e1 (at_ hk)] at e;cases e;exact⟨v,nf k,e2,e3,e4,λa m=>z1 hk m⟩
  .obtain⟨e1,e2⟩:=C3 le.symm hi e;obtain⟨v,fp,hs,r,zz⟩:=ok.sl i d t e1;have hn:∀a∈fp,∀j∈js,z a≠some j:=λa m j mj q=>by
    cases t with
    |sh o=>exact e2 o rfl j mj (zz a m j q)
    |own=>have:=zz.2 a m;rw[q] at this;cases this;exact hi mj
    |lk=>have:=zz.2 a m;rw[q] at this;cases this;exact hi mj
   have hN:∀a∈fp,∀j,z' a=some j->z a=some j:=λa m j q=>by
    rcases z2 q with⟨k,hk,mk⟩|⟨q,_⟩
    .rcases Ij (abP.mp hk).1 mk with c|c
     .exact(nC (hn a m) c).elim
     .obtain⟨o,w,_⟩:=r.cG a m;rw[c] at w;cases w
    .exact q
   have sR:∀a∈fp,z' a=z a:=λa m=>by
    have h1:¬N a:=by
     rintro⟨k,l,mk⟩
     rcases Ij l mk with c|c
     .exact nC (hn a m) c
     .obtain⟨o,w,_⟩:=r.cG a m;rw[c] at w;cases w
    show(if h:N a then js[Classical.choose h]? else if ∃j∈js,z a=some j then none else z a)=_;rw[dif_neg h1,if_neg λ⟨j,mj,q⟩=>hn a m j mj q]
   refine⟨v,fp,hs,fr r hn,?_⟩;cases t with
   |sh o=>exact λa m j q=>zz a m j (hN a m j q)
   |own=>exact⟨zz.1,λa m=>(sR a m).trans (zz.2 a m)⟩
   |lk=>exact⟨zz.1,λa m=>(sR a m).trans (zz.2 a m)⟩
 .obtain⟨r,h⟩:=ok.hl p m;have hn:∀a∈p.fp,∀j∈js,z a≠some j:=λa ma j mj q=>let⟨d,e⟩:=old j mj;(h a ma j q).2 d e
  refine⟨fr r hn,λa ma j q=>?_⟩;rcases z2 q with⟨k,hk,mk⟩|⟨q,nj⟩
  .rcases Ij (abP.mp hk).1 mk with c|c
   .exact(nC (hn a ma) c).elim
   .obtain⟨o,w,_⟩:=r.cG a ma;rw[c] at w;cases w
  .exact⟨(h a ma j q).1,λd e=>(h a ma j q).2 d (C3 le.symm nj e).1⟩
 .rcases z2 e with⟨k,hk,mk⟩|⟨q,nj⟩
  .obtain⟨d',v,e1,e2,e3,e4,e5⟩:=new k j hk;refine⟨let⟨o,w,_⟩:=e3.cG a mk;⟨o,w⟩,?_⟩;rcases e5 a mk with c|c
   .obtain⟨j,_,q⟩:=hz a c;exact(ok.zd a j q).2
   .cases h0:H0 a with
    |none=>exact .inl rfl
    |some o=>
     by_cases hS:a∈S
     .exact .inr hS
     .rw[ok.en a o h0 hS] at c;cases c
  .obtain⟨⟨o,w⟩,y⟩:=ok.zd a j q;exact⟨⟨o,keep a o (nC λi mi q'=>by rw[q] at q';cases q';exact nj mi) w⟩,y⟩
 .refine keep a o (λc=>?_) (ok.en a o e n);obtain⟨j,_,q⟩:=hz a c;rcases(ok.zd a j q).2 with w|w
  .rw[e] at w;cases w
  .exact n w
end
structure afi(K:PySem.W.Frag)(z:Addr->Option Nat)(H H':Hp)(ρ:aO)(σ:St)(sl:List (Option Nat))(ps:List (D×Tag))(vs:List V)(C:List Addr):Prop where
 ln:ps.length=vs.length
 at_:∀(i:Nat) (p),ps[i]? = some p->∃v f s,vs[i]? = some v/\sl[i]? = some s/\Rep K H' p.1 v f/\(∀j,s=some j->σ[j]? = some (some v)/\(∃d,ρ[j]? = some (some (d,.own)))/\f.Nodup/\∀a∈f,z a=some j/\a∈C)/\(s=none->cO z H p.2 f)
 cc:∀a∈C,∃(i j:Nat),sl[i]? = some (some j)/\z a=some j/\∃o,H' a=some o/\jl o=true
def FB(X:Cx)(sl:List (Option Nat))(es:List Expr)(g:AF):Prop:=∃t,PA X es t/\∀{H0} {S} {z} {aq} {ρ} {σ} {H} {Q} {ps},
 Ok X.K H0 S z aq ρ σ H->g ρ=some ps->(∀H' vs C,aJ H H'->afi X.K z H H' ρ σ sl ps vs C->Q vs H')->t σ H Q
noncomputable def G0(i:Nat)(g:AF):AF:=λρ=>match ρ[i]?,g ρ with
 |some (some (d,Tag.own)),some ps=>some ((d,.sh [i])::ps)
 |_,_=>none
theorem Fw:FB X [] [] aE:=⟨_,fY,@λ_ _ _ _ _ _ H _ _ _ e k=>by cases e;exact k H [] [] (.refl _) ⟨rfl,λi p e=>by simp at e,λa m=>nomatch m⟩⟩
theorem sF(i:Nat)(hr:FB X sl es g)(va:VA X i x:=by walk_at "va")(hs:starEach (.Name x p1::es) X.env=(false,eval (.Name x p1) X.env)::starEach es X.env:=by rfl):FB X (some i::sl) (.Name x p1::es) (G0 i g):=by
 obtain⟨t,p,q⟩:=hr;refine⟨_,d8 va.pe p hs,@λH0 S z aq ρ σ H Q ps ok e k=>?_⟩;unfold G0 at e
 split at e
 .rename_i d r h1 h2;cases e;obtain⟨v,f,hv,rv,zz⟩:=ok.sl i _ _ h1;refine⟨v,hv,q ok h2 λH' vs C s a=>k H' (v::vs) (f++C) s ⟨by rw[acj,acj,a.ln],λn p e=>?_,λb m=>?_⟩⟩
  .cases n with
   |zero=>cases e;exact⟨v,f,_,rfl,rfl,rv.same s,(λj e=>by cases e;exact⟨hv,⟨_,h1⟩,zz.1,λa m=>⟨zz.2 a m,abj _ m⟩⟩),λe=>nomatch e⟩
   |succ n=>
    obtain⟨v',f',s',a1,a2,a3,a4,a5⟩:=a.at_ n p e;exact⟨v',f',s',a1,a2,a3,λj e=>let⟨b1,b2,b3,b4⟩:=a4 j e;⟨b1,b2,b3,λa m=>⟨(b4 a m).1,aas _ (b4 a m).2⟩⟩,a5⟩
  .rcases abl.mp m with m|m
   .exact⟨0,i,rfl,zz.2 b m,(rv.same s).cG b m⟩
   .obtain⟨n,j,c1,c2,c3⟩:=a.cc b m;exact⟨n+1,j,c1,c2,c3⟩
 .cases e
theorem pq(ha:FP X e f)(hr:FB X sl es g)(hs:starEach (e::es) X.env=(false,eval e X.env)::starEach es X.env:=by rfl):FB X (none::sl) (e::es) (au f g):=by
 exists 61;obtain⟨t',p',q'⟩:=hr;refine⟨_,d8 p p' hs,@λH0 S z aq ρ σ H Q ps ok e k=>?_⟩;obtain⟨d,tg,r,e1,e2,rfl⟩:=J9 e;refine q ok e1 λH1 v f1 s1 r1 g1=>?_
 refine q' (ok.same s1) e2 λH2 vs C s2 a=>k H2 (v::vs) C (s1.trans s2) ⟨by rw[acj,acj,a.ln],λn p e=>?_,λb m=>?_⟩
 .cases n with
  |zero=>cases e;exact⟨v,f1,_,rfl,rfl,r1.same s2,(λj e=>nomatch e),λ_=>g1⟩
  |succ n=>
   obtain⟨v',f',s',a1,a2,a3,a4,a5⟩:=a.at_ n p e;refine⟨v',f',s',a1,a2,a3,a4,λe=>?_⟩;have:=a5 e;cases ht:p.2 with
   |sh o=>rw[ht] at this;exact this
   |own=>rw[ht] at this;exact⟨this.1,λa m=>s1.free (this.2 a m)⟩
   |lk=>rw[ht] at this;exact⟨this.1,λa m=>s1.free (this.2 a m)⟩
 .obtain⟨n,j,c1,c2,c3⟩:=a.cc b m;exact⟨n+1,j,c1,c2,c3⟩
noncomputable def pN(js:List Nat):List (Option Nat)->List (D×Tag)->Bool
 |none::sl,p::ps=>(match p.2 with|.sh o=>o.all λx=>!(js.contains x)|_=>true)&&pN js sl ps
 |some _::sl,_::ps=>pN js sl ps
 |_,_=>true
theorem FF:∀{sl} {ps}{i:Nat} {p} {o},pN js sl ps=true->sl[i]? = some none->ps[i]? = some p->p.2=.sh o->∀x∈o,x∉js
 |[],_,_,_,_,_,h,_,_=>by simp at h
 |_::_,[],_,_,_,_,_,h,_=>by simp at h
 |none::sl,p::ps,0,_,o,h,_,e,e2=>by
  cases e;unfold pN at h;rw[e2] at h;intro x m q;have:=adt.mp (agN.mp h).1 x m;rw[afd.mpr q] at this;cases this
 |none::sl,p::ps,i+1,_,o,h,e0,e,e2=>FF (i:=i) (by unfold pN at h;exact(agN.mp h).2) e0 e e2
 |some _::sl,p::ps,0,_,o,h,e0,_,_=>by cases e0
 |some _::sl,p::ps,i+1,_,o,h,e0,e,e2=>FF (ps:=ps) h e0 e e2
def xJ(js:List Nat)(sl:List (Option Nat))(G:JF)(g:AF):XF:=λρ=>match g ρ with
 |some ps=>if pN js sl ps=true then(G (ps.map (·.1))).map λw=>(w.1,lu ρ js w.2) else none
 |none=>none
def Bu(js:List Nat)(sl:List (Option Nat))(G:JF)(g:AF):XR:=λρ=>(xJ js sl G g ρ).map λw=>.ok w.1 w.2
def FK(X:Cx)(e:Expr)(f:XF):Prop:=∃t,PE X e t/\∀{H0} {S} {z} {aq} {ρ} {σ} {H} {Q} {d} {ρ'},
 Ok X.K H0 S z aq ρ σ H->f ρ=some (d,ρ')->(∀z H1 H' v fp,Ok X.K H0 S z aq ρ' σ H1->aJ H1 H'->Rep X.K H' d v fp->cO z H1 .own fp->Q v H')->t σ H Q
noncomputable abbrev N4(J js:List Nat)(sl:List (Option Nat)):Prop:=(∀i,i<sl.length->((sl[i]?).join.isSome=true->i∈J))/\J.length=js.length/\(∀k,k<J.length->sl[(J[k]?).getD 0]? = some (js[k]?))/\js.Nodup/\J.Nodup
theorem Nx(js:List Nat)(sl:List (Option Nat))(GG:cE X.prog X.w X.K X.mg X.base dF k f fd ps (n6 J X.K G))(hr:bH k X.A)(hm:X.mg x=some (.ref f))(hk:PySem.W.keepIn X.K (.ref f)=true)(hb:Binds X.K fd ps [])(ha:FB X sl (e::es) g)
  (hJ:N4 J js sl:=by decide) (hg:GD X x:=by exact⟨rfl,by decide⟩) (he:starEach (e::es) X.env=(false,eval e X.env)::starEach es X.env:=by rfl) (hpl:(backTo pos (starEach es X.env)).any (·.1)=false:=by rfl) :
  FK X (.Call (.Name x p) (e::es) [] pos) (xJ js sl G g):=by
 classical
 obtain⟨t,pa,sa⟩:=ha;obtain⟨j1,j2,j3,j4,j5⟩:=hJ;refine⟨_,NK GG hr hg.1 hm hk hb .nil n_ pa hg.2 he hpl,@λH0 S z aq ρ σ H Q d ρ' ok e0 kk=>?_⟩;unfold xJ at e0;cases h1:g ρ with
 |none=>rw[h1] at e0;cases e0
 |some qs=>
  rw[h1] at e0;dsimp only at e0
  by_cases oK:pN js sl qs=true
  .rw[if_pos oK] at e0;obtain⟨w,h3,e0⟩:=ach.mp e0;cases e0;refine sa ok h1 λH2 vs C s2 ai=>?_
   rw[acG];have mQ:=ok.same s2;have kJ:∀{k i},J[k]? = some i->∃j,js[k]? = some j/\sl[i]? = some (some j):=λ{k i} e=>by
    have l:=(abP.mp e).1;have:=j3 k l;rw[e] at this;exact⟨js[k]'(j2 ▸ l),aa9 _,this.trans (by rw[aa9 (j2 ▸ l)])⟩
   have iJ:∀{i j},sl[i]? = some (some j)->∃k,J[k]? = some i/\js[k]? = some j:=λ{i j} e=>by
    obtain⟨k,hk⟩:=agQ (j1 i (abP.mp e).1 (by rw[e];rfl));obtain⟨j',a1,a2⟩:=kJ hk;rw[e] at a2;cases a2;exact⟨k,hk,a1⟩
   have inj:∀{i i' j},sl[i]? = some (some j)->sl[i']? = some (some j)->i=i':=λ{i i' j} e e'=>by
    obtain⟨k,a1,a2⟩:=iJ e;obtain⟨k',b1,b2⟩:=iJ e';obtain⟨l1,c1⟩:=abP.mp a2;obtain⟨l2,c2⟩:=abP.mp b2;cases(List.getElem_inj j4).mp (c1.trans c2.symm);rw[a1] at b1;cases b1;rfl
   let M:Addr->Nat->Prop:=λa i=>a∈C/\∃j,sl[i]? = some (some j)/\z a=some j
   let y:Addr->Option Nat:=λa=>if h:∃i,M a i then some (Classical.choose h) else none
   have y1:∀{a i},M a i->y a=some i:=λ{a i} m=>by
    show(if h:∃i,M a i then some (Classical.choose h) else none)=_;rw[dif_pos ⟨i,m⟩];obtain⟨_,j,b1,b2⟩:=Classical.choose_spec (⟨i,m⟩:∃i,M a i);obtain⟨_,j',c1,c2⟩:=m;rw[b2] at c2;cases c2;rw[inj b1 c1]
   refine⟨_,C,y,w.1,w.2,⟨by rw[List.length_map,ai.ln],λi d e=>?_,λa j e=>?_,λa m=>let⟨_,_,_,_,c⟩:=ai.cc a m;c⟩,h3,λH3 u cN nf im kp ap nw rr yC qJ le=>?_⟩
   .rw[acn] at e;obtain⟨q,hq,rfl⟩:=ach.mp e;obtain⟨v,fp,s,a1,a2,a3,a4,a5⟩:=ai.at_ i q hq;refine⟨v,fp,a1,a3,λm=>?_,λn a m=>?_⟩
    .obtain⟨k,hk⟩:=agQ m;obtain⟨j,_,b2⟩:=kJ hk;rw[a2] at b2;cases b2;obtain⟨_,_,c3,c4⟩:=a4 j rfl;exact⟨c3,λa m=>y1 ⟨(c4 a m).2,j,a2,(c4 a m).1⟩⟩
    .show(if h:∃i,M a i then some (Classical.choose h) else none)=_;rw[dif_neg]
     rintro⟨i',mc,j,b1,b2⟩
     cases s with
     |some j'=>obtain⟨k,hk,_⟩:=iJ a2;exact n (adU hk)
     |none=>
      have tg:=a5 rfl;obtain⟨k,_,hj⟩:=iJ b1;cases ht:q.2 with
      |sh o=>rw[ht] at tg;exact FF oK a2 hq ht j (tg a m j b2) (adU hj)
      |own=>rw[ht] at tg;obtain⟨⟨o,hw⟩,_⟩:=ok.zd a j b2;rw[tg.2 a m] at hw;cases hw
      |lk=>rw[ht] at tg;obtain⟨⟨o,hw⟩,_⟩:=ok.zd a j b2;rw[tg.2 a m] at hw;cases hw
   .have e:(if h:∃i,M a i then some (Classical.choose h) else none)=some j:=e
    by_cases h:∃i,M a i
    .obtain⟨_,m,_⟩:=h;exact m
    .rw[dif_neg h] at e;cases e
   .have st:∀{c} {o},H3 c=some o->jl o=false->(if c∈cN then none else H3 c)=some o:=λ{c o} e mo=>by
     rw[if_neg λm=>?_]
     .exact e
     .obtain⟨o',w,mP⟩:=rr.cG c m;rw[e] at w;cases w;rw[mo] at mP;cases mP
    have i4:aV H2 (λc=>if c∈cN then none else H3 c):=⟨λc xs e=>st (im.1 c xs e) rfl,λc o u e=>st (im.2.1 c o u e) rfl,λc φ e=>st (im.2.2 c φ e) rfl⟩
    have P:∃z',Ok X.K H0 S z' aq (lu ρ js w.2) σ (λc=>if c∈cN then none else H3 c):=by
     refine mQ.SW (C:=C) j4 (le.trans j2) (λj m=>?_) i4 (λa m=>?_) (λb o n e=>?_) ap (λk j e=>?_)
     .obtain⟨k,hk⟩:=agQ m;have l:=(abP.mp hk).1;obtain⟨j',c1,c2⟩:=kJ (aa9 (j2 ▸ l:k<J.length));rw[hk] at c1;cases c1;obtain⟨d,u',_,b2,_⟩:=nw k _ (aa9 (j2 ▸ l:k<J.length));have lv:=(abP.mp b2).1;obtain⟨v,fp,s,a1,a2,a3,a4,a5⟩:=ai.at_ _ _ (aa9 (ai.ln ▸ lv));rw[c2] at a2;cases a2;exact(a4 _ rfl).2.1
     .obtain⟨i,j,c1,c2,_⟩:=ai.cc a m;obtain⟨k,_,hj⟩:=iJ c1;exact⟨j,adU hj,c2⟩
     .show(if b∈cN then none else H3 b)=some o;rw[if_neg λm=>?_]
      .exact kp b o n e
      .rcases(qJ b m).1 with q|q
       .exact n q
       .rw[e] at q;cases q
     .have l:=(abP.mp e).1;obtain⟨j',c1,c2⟩:=kJ (aa9 (j2 ▸ l:k<J.length));rw[e] at c1;cases c1;obtain⟨d,u',b1,b2,b3,b4,b5⟩:=nw k _ (aa9 (j2 ▸ l:k<J.length));have lv:=(abP.mp b2).1;obtain⟨v,fp,s,a1,a2,a3,a4,a5⟩:=ai.at_ _ _ (aa9 (ai.ln ▸ lv));rw[c2] at a2;cases a2;rw[b2] at a1;cases a1;refine⟨d,u',b1,(a4 _ rfl).1,b3.frame (λa m=>if_neg λq=>(qJ a q).2 k m) ⟨λc xs e=>st e rfl,λc o u e=>st e rfl,λc φ e=>st e rfl⟩,b4,b5⟩
    obtain⟨z',iD⟩:=P;refine kk z' _ H3 u cN iD (λc o e=>?_) rr ⟨yC,λa m=>if_pos m⟩;have e:(if c∈cN then none else H3 c)=some o:=e
    by_cases m:c∈cN
    .rw[if_pos m] at e;cases e
    .rw[if_neg m] at e;exact e
  .rw[if_neg oK] at e0;cases e0
theorem LX(js:List Nat)(sl:List (Option Nat))(GG:cE X.prog X.w X.K X.mg X.base dF k f fd ps (n6 J X.K G))(hr:bH k X.A)(hm:X.mg x=some (.ref f))(hk:PySem.W.keepIn X.K (.ref f)=true)(hb:Binds X.K fd ps [])(ha:FB X.gb sl (e::es) g)
  (hJ:N4 J js sl:=by decide) (hg:GD X x:=by exact⟨rfl,by decide⟩) (he:starEach (e::es) X.env=(false,eval e X.env)::starEach es X.env:=by rfl) (hpl:(backTo pos (starEach es X.env)).any (·.1)=false:=by rfl) :
  FE X (.Call (.Name x p) (e::es) [] pos) (Bu js sl G g):=by
 obtain⟨t,p,q⟩:=Nx (X:=X.gb) js sl GG hr hm hk hb ha hJ hg he hpl;refine⟨_,P1 p,@λH0 S z aq ρ σ H Q E r ok e0 kk=>?_⟩;obtain⟨w,h,rfl⟩:=ach.mp e0;exact q ok h kk
open PySem PySem.Spec PySem.W PyProof.Rows
def lE:D->Option (List Key)
 |.tup ds=>match iy ds with
  |some ks=>if ks.all (λk=>k.isLeft)=true/\ks≠[] then some ks else none
  |none=>none
 |_=>none
theorem Rep.tk{K:Frag}(r:Rep K H d v fp)(ni:m_ K=true)(h:lE d=some ks):∃b,v=.ref b/\Tk H b (ks.map L2.kV):=by
 cases d with
 |tup ds=>
  obtain⟨b,xs,rfl,hq,rs⟩:=r.ic;unfold lE at h;dsimp only at h;cases hk:iy ds with
  |none=>rw[hk] at h;cases h
  |some k=>
   rw[hk] at h;dsimp only at h
   by_cases hc:k.all (λk=>k.isLeft)=true/\k≠[]
   .rw[if_pos hc] at h;cases h;obtain rfl:=aC.keys rs hk;exact⟨b,rfl,Oq hq ni hc.1 hc.2⟩
   .rw[if_neg hc] at h;cases h
 |_=>cases h
def uc(d1 d2 d3:D):Option D:=match d1,lE d2 with
 |.cj es,some k=>if aB ((aS es k).getD d3)=true then some ((aS es k).getD d3) else none
 |_,_=>none
def MG(i:Nat)(fk fv:EF):SF:=λρ=>match fv ρ,ρ[i]?,fk ρ with
 |some (d,_),some (some (.cj es,.own)),some (kd,_)=>match lE kd with
  |some k=>if(aB d&&aL (es.map (·.2))&&decide (es.length<sizeLine))=true then some (.nx (bQ ρ i (.cj (putD es k d)))) else none
  |none=>none
 |_,_,_=>none
theorem ac4(i:Nat){x:Str}(hu:X.A.units+1<cLine)(ni:m_ X.K=true)(hk:FP X k fk)(hv:FP X v fv)(va:VA X i x:=by walk_at "va")(hs:swapsWith v (some (.Subscript (.Name x p1) k pos')) pos.line X.env=pure false:=by rfl):
  fC X (.Assign [.Subscript (.Name x p1) k pos'] v pos) (MG i fk fv):=by
 obtain⟨tk,pk,sk⟩:=hk;obtain⟨tv,jF,sv⟩:=hv;exists 25,w6 hu va.pe pk jF hs;unfold MG at e
 split at e
 .rename_i d td es kd F6 h1 h2 h3;cases h4:lE kd with
  |none=>rw[h4] at e;cases e
  |some key=>
   rw[h4] at e;exists 68
   by_cases hc:(aB d&&aL (es.map (·.2))&&decide (es.length<sizeLine))=true
   .rw[if_pos hc] at e;cases e;obtain⟨r9,Hx⟩:=(aaV _ _).mp hc;obtain⟨r9,yK⟩:=(aaV _ _).mp r9;have hz:=aaC Hx;refine sv ok h1 λH1 v um s1 rv _=>?_
    obtain⟨xv,fp,bR,r,zz⟩:=(ok.same s1).sl i _ _ h2;refine⟨xv,bR,?_⟩;refine sk (ok.same s1) h3 λH2 y Dm s2 rk _=>?_
    obtain⟨bL,rfl,nX⟩:=rk.tk ni h4;have r':=r.same s2;cases r' with
    | @cj a ak _ f h f9 rs=>
     have hn:=rs.aB yK;subst hn;have yS:=rv.aB r9;subst yS;have hl:ak.length=es.length:=by have:=congrArg List.length f9;simpa using this.symm
     refine⟨a,_,rfl,nR.t h nX (by rw[hl];exact hz),?_⟩;have im:aV H2 (upd H2 a (.dT (putK ak key v))):=aV.upd h rfl;refine q z σ _ (Ok.B5 ((ok.same s1).same s2) h2 bR zz aad h rfl (.cj cD (vG f9) ?_)) (.refl _ _);exact AE f9 (rs.frame (λa m=>nomatch m) im) ((rv.same s2).frame (λa m=>nomatch m) im)
   .rw[if_neg hc] at e;cases e
 .cases e
def xS(ρ:aO)(j:Nat):aO:=(ρ.map (v_ j)).set j none
theorem Ok.out{K:Frag}(ok:Ok K H0 S z aq ρ σ H)(hj:ρ[j]? = some (some (d,.own)))(r:Rep K H d v fp)(hz:∀a∈fp,z a=some j):
  ∃z',Ok K H0 S z' aq (xS ρ j) σ (λc=>if c∈fp then none else H c):=by
 classical
 have im:aV H (λc=>if c∈fp then none else H c):=by
  have st:∀{c} {o},H c=some o->jl o=false->(if c∈fp then none else H c)=some o:=λ{c o} e mo=>by
   rw[if_neg λm=>?_]
   .exact e
   .obtain⟨o',w,mP⟩:=r.cG c m;rw[e] at w;cases w;rw[mo] at mP;cases mP
  exact⟨λc xs e=>st e rfl,λc o u e=>st e rfl,λc φ e=>st e rfl⟩
 have fr:∀{d v g},Rep K H d v g->(∀a∈g,z a≠some j)->Rep K (λc=>if c∈fp then none else H c) d v g:=λr h=>r.frame (λa m=>if_neg λq=>h a m (hz a q)) im
 have at_:∀{a k},(if z a=some j then none else z a)=some k->z a=some k/\k≠j:=λ{a k} e=>by
  by_cases h:z a=some j
  .rw[if_pos h] at e;cases e
  .rw[if_neg h] at e;exact⟨e,λq=>h (q ▸ e)⟩
 refine⟨λa=>if z a=some j then none else z a,λk d t e=>?_,λp m=>?_,λa k e=>?_,λa o e n=>?_,?_⟩
 .unfold xS at e
  by_cases hk:k=j
  .subst hk;rw[aea (by rw[List.length_map];exact(abP.mp hj).1)] at e;cases e
  .rw[acS (afZ hk),acn] at e;obtain⟨s,e0,e⟩:=ach.mp e;obtain⟨rfl,h2⟩:=IG e;obtain⟨v,g,hs,r1,zz⟩:=ok.sl k d t e0;have own:(∀a∈g,z a=some k)->∀a∈g,z a≠some j:=λh a m q=>by rw[h a m] at q;exact hk (acf q)
   cases t with
   |sh o=>exact⟨v,g,hs,fr r1 λa m q=>h2 o rfl (zz a m j q),λa m i e=>zz a m i (at_ e).1⟩
   |own=>exact⟨v,g,hs,fr r1 (own zz.2),zz.1,λa m=>(if_neg (own zz.2 a m)).trans (zz.2 a m)⟩
   |lk=>exact⟨v,g,hs,fr r1 (own zz.2),zz.1,λa m=>(if_neg (own zz.2 a m)).trans (zz.2 a m)⟩
 .obtain⟨r1,h⟩:=ok.hl p m;refine⟨fr r1 λa m q=>(h a m j q).2 d hj,λa m k e=>?_⟩;obtain⟨h1,h2⟩:=h a m k (at_ e).1;refine⟨h1,λd' q=>h2 d' ?_⟩;unfold xS at q;rw[acS (afZ (at_ e).2),acn] at q;obtain⟨s,e0,q⟩:=ach.mp q;rw[e0,(IG q).1]
 .obtain⟨e1,e2⟩:=at_ e;obtain⟨⟨o,w⟩,y⟩:=ok.zd a k e1;exact⟨⟨o,(if_neg λm=>by rw[hz a m] at e1;exact e2 (acf e1).symm).trans w⟩,y⟩
 .show(if a∈fp then none else H a)=some o;rw[if_neg λm=>?_]
  .exact ok.en a o e n
  .rcases(ok.zd a j (hz a m)).2 with w|w
   .rw[e] at w;cases w
   .exact n w
 .unfold xS;rw[afT,List.length_map];exact ok.ln
def AR(f0:EF)(j:Nat)(f2:EF):XR:=λρ=>match f0 ρ,ρ[j]?,f2 ρ with
 |some (d0,_),some (some (d,.own)),some (d2,.own)=>if aB d0=true then some (.ok (.tup [d0,d,d2]) (xS ρ j)) else none
 |_,_,_=>none
theorem Xl(j:Nat){y:Str}{p1:Pos}{x1}(h0:FP X.gb a f0)(h2:FP X.gb b f2)(va:VA X.gb j y:=by walk_at "va")(hs:starEach [a,.Name y p1,b] X.env=(false,eval a X.env)::starEach [.Name y p1,b] X.env:=by rfl)(c_:starEach [.Name y p1,b] X.env=(false,eval (.Name y p1) X.env)::starEach [b] X.env:=by rfl)(Ba:Y2 X b:=by rfl):
  FE X (.Tuple [a,.Name y p1,b] x1 pos) (AR f0 j f2):=by
 classical
 obtain⟨t0,p0,q0⟩:=h0;obtain⟨t2,p2,q2⟩:=h2;refine⟨_,P1 (L7 (d8 p0 (d8 va.pe (d8 p2 fY Ba) c_) hs)),@λH0 S z aq ρ σ H Q E r ok e k=>?_⟩;unfold AR at e
 split at e
 .rename_i d0 t d d2 e0 e1 e2
  by_cases hi:aB d0=true
  .rw[if_pos hi] at e;cases e;refine q0 ok e0 λH1 v0 g0 s1 r0 _=>?_
   have hn:=r0.aB hi;subst hn;obtain⟨v,fj,hv,rj,zz⟩:=ok.sl j _ _ e1;refine⟨v,hv,q2 (ok.same s1) e2 λH2 v2 g2 s2 r2 gg=>⟨by show(3:Nat)<=_;exact afY (BJ (by decide)),λc hc=>?_⟩⟩;obtain⟨z',aW⟩:=ok.out e1 rj zz.2;have sc:aJ H2 (upd H2 c (.tup [v0,v,v2])):=λb o e=>by rw[aP (cV e hc)];exact e
   have sa:=(s1.trans s2).trans sc;refine k z' _ _ _ ([]++(fj++(g2++[]))) aW (λb o e=>?_) (.tup (cg.of cD) (.cons (r0.same (s2.trans sc)) (.cons (rj.same sa) (.cons (r2.same sc) .nil)))) ⟨?_,λb m=>?_⟩
   .by_cases m:b∈fj
    .rw[show(if b∈fj then none else H b)=none from if_pos m] at e;cases e
    .exact sa b o ((if_neg m).symm.trans e)
   .rw[List.nil_append,acG];refine acR.mpr ⟨zz.1,gg.1,λa ma b mb e=>?_⟩;obtain⟨o,w,_⟩:=rj.cG a ma;have:=s1.free (gg.2 b mb);rw[<- e,w] at this;cases this
   .rw[List.nil_append,acG] at m;rcases abl.mp m with m|m
    .exact if_pos m
    .show(if b∈fj then none else H b)=none;rw[s1.free (gg.2 b m)];split<;>rfl
  .rw[if_neg hi] at e;cases e
 .cases e
section
variable{z:Z}
theorem Z.oJ(J:List Nat)(xs:List Str)(S:AA n m s)(h0:Pb (kh s) xs J=true)(hJ:J.Nodup)(h:∀(f) (aX) (A) (o) (t) (H) (E),bH k (A.deeper (envOfC (jU c s) (cT s) t.heap.objs.size f aX))->(kh s).Nodup->FJ J false ((jm dF z.P z.w z.K z.mg z.base (kh s) (jU c s) (cT s) f aX A o t H E).gb.kP xs) (ie s) b):
  z.D (k+1) c s (n6 J · (nu J n m b)):=by
 obtain⟨S,rfl,rfl,l⟩:=S;exact λ_ _ F=>WZ F S h0 hJ l λaX A o t H E hr=>h _ aX A o t H E hr S.nd
end
section
variable{A:Z->Prop}
noncomputable abbrev wJ{F:JF}(_:∀z,A z->z.D k c s (n6 J · F) cm)(z:Z):Prop:=z.N k s (n6 J · F) cm
noncomputable abbrev fJ{F:JF}(_:∀z,A z->z.D k c s (n6 J · F) cm):JF:=F
end
end L2.Ev
namespace L2
open PySem PySem.Spec PyProof.Rows
theorem KV.at{κ:Type}:∀{ak:List (κ×V)}{vs:List (κ×Value)}{i:Nat}{p:κ×V},KV ak vs->ak[i]? = some p->∃q,vs[i]? = some q/\p.1=q.1
 |_,_,i,p,.nil,e=>by simp at e
 |_,_,0,p,.cons r _,e=>by cases e;exact⟨_,rfl,r.1⟩
 |_,_,i+1,p,.cons _ t,e=>KV.at (i:=i) t e
end L2
namespace L2.Ev
open PySem PySem.Spec PyProof.Rows
noncomputable def IM:D->Option Str
 |.tup (.str s::_)=>some s
 |_=>none
noncomputable def aet:Key->D
 |.inl k=>.int k
 |.inr x=>.str x
def Qo(c:Str)(ak:List (Key×D)):List D:=(ak.filter λp=>decide ((IM p.2).getD Str.empty=c)).map λp=>aet p.1
open PySem PySem.Spec PySem.W PyProof.Rows
def xI(f:XF):XF:=λρ=>match f ρ with
 |some (d,ρ')=>if aB d=true then some (d,ρ') else none
 |none=>none
theorem FK.fz(h:FK X e fx):FZ X e (xI fx):=by
 obtain⟨t,p,q⟩:=h;refine⟨t,p,@λH0 S z aq ρ σ H Q d ρ' ok e k=>?_⟩;unfold xI at e;cases h1:fx ρ with
 |none=>rw[h1] at e;cases e
 |some w=>
  rw[h1] at e;exists 68
  by_cases hi:aB w.1=true
  .rw[if_pos hi] at e;cases e;refine q ok h1 λz' H1 H' v fp b_ s1 r1 _=>?_
   have hn:=r1.aB hi;subst hn;exact k z' H' v (b_.same s1) r1
  .rw[if_neg hi] at e;cases e
def KW(fa fb fc:EF):EF:=λρ=>match fa ρ,fb ρ,fc ρ with
 |some (.cj es,.sh o),some (kd,_),some (d3,.own)=>(lE kd).map λk=>((aS es k).getD d3,.sh o)
 |_,_,_=>none
theorem afF(hu:X.A.units+1<cLine)(ni:m_ X.K=true)(ha:FP X a fa)(hb:FP X b fb)(hc:FP X c fc)(m:M2 X a "get" apos b c cpos:=by exact⟨rfl,rfl,rfl,rfl⟩):FP X (.Call (.Attribute a "get" apos) [b,c] [] cpos) (KW fa fb fc):=by
 exists 46;obtain⟨tc,pc,sc⟩:=hc;exists 21,E7 hu pa pb pc m;unfold KW at e
 split at e
 .rename_i es o kd t2 d3 h1 h2 h3;obtain⟨ks,hk,e⟩:=ach.mp e;cases e;refine sa ok h1 λH1 x f1 s1 r1 g1=>?_
  cases r1 with
  | @cj p ak _ fp h he rs=>
   refine⟨p,rfl,.inr ⟨ak,.inl h⟩,?_⟩;refine sb (ok.same s1) h2 λH2 y f2 s2 r2 _=>?_
   refine sc ((ok.same s1).same s2) h3 λH3 w f3 s3 r3 g3=>?_
   obtain⟨bL,rfl,nX⟩:=r2.tk ni hk;refine⟨_,gj.t (s3 _ _ (s2 _ _ h)) (Tk.aB nX (.of s3)),?_⟩;have zm:=(s1.trans s2).trans s3;obtain⟨i1,i2⟩:=mY he ((rs.same s2).same s3);cases hv:aS es ks with
   |some d'=>
    rw[hv] at k;obtain⟨v,f,e1,r,sub⟩:=i1 d' hv;rw[e1];exact k H3 v f zm r λa m j q=>g1 a (aab _ (sub a m)) j q
   |none=>
    rw[hv] at k;rw[i2 hv];refine k H3 w f3 zm r3 λa m j q=>?_
    obtain⟨⟨o',w'⟩,_⟩:=ok.zd a j q;rw[(s1.trans s2).free (g3.2 a m)] at w';cases w'
 .cases e
theorem Yl{K:Frag}[DecidableEq κ](rv:Rep K H d v fv)(nv:fv.Nodup):∀{es}{ak:List (κ×V)} {g},es.map (·.1)=ak.map (·.1)->aC K H (es.map (·.2)) (ak.map (·.2)) g->g.Nodup->(es.map (·.1)).Nodup->(∀a∈fv,a∉g)->
  ∃g',aC K H ((putD es k d).map (·.2)) ((putK ak k v).map (·.2)) g'/\g'.Nodup/\∀a∈g',a∈g\/a∈fv:=by
 intro es
 induction es with
 |nil=>
  intro ak g e rs ng _ dj;cases ak with
  |nil=>cases rs;exact⟨fv++[],.cons rv .nil,by rw[acG];exact nv,λa m=>.inr (by rwa [acG] at m)⟩
  |cons _ _=>cases e
 |cons p es ih=>
  intro ak g e rs ng nk dj;cases ak with
  |nil=>cases e
  |cons q ak=>
   obtain⟨e1,e2⟩:=List.cons.inj e;have e1:p.1=q.1:=e1;obtain⟨n1,n2⟩:=ab4.mp nk;cases rs with
   | @cons _ _ _ _ f1 f2 r1 r2=>
    obtain⟨a1,a2,a3⟩:=acR.mp ng
    by_cases hk:p.1=k
    .have nk:k∉es.map (·.1):=hk ▸ n1;have o1:putD (p::es) k d=(p.1,d)::es:=by
      unfold putD;rw[afV,aaq hk,Bool.true_or,if_pos rfl,aao,if_pos hk,yN nk]
     have o2:putK (q::ak) k v=(q.1,v)::ak:=by
      unfold putK;rw[afV,aaq (e1 ▸ hk),Bool.true_or,if_pos rfl,aao,if_pos (e1 ▸ hk),yN (e2 ▸ nk)]
     rw[o1,o2];exact⟨fv++f2,.cons rv r2,acR.mpr ⟨nv,a2,λa m b m' e=>dj a m (e ▸ aas _ m')⟩,λa m=>(abl.mp m).elim .inr λm=>.inl (aas _ m)⟩
    .obtain⟨g',b1,b2,b3⟩:=ih e2 r2 a2 n2 λa m q=>dj a m (aas _ q)
     have o1:putD (p::es) k d=p::putD es k d:=by
      unfold putD;rw[afV,ab8 hk,Bool.false_or]
      split
      .rw[aao,if_neg hk]
      .rfl
     have o2:putK (q::ak) k v=q::putK ak k v:=by
      unfold putK;rw[afV,ab8 (e1 ▸ hk),Bool.false_or]
      split
      .rw[aao,if_neg (e1 ▸ hk)]
      .rfl
     rw[o1,o2];refine⟨f1++g',.cons r1 b1,acR.mpr ⟨a1,b2,λa m b m' e=>?_⟩,λa m=>?_⟩
     .rcases b3 b m' with q|q
      .exact a3 a m b q e
      .exact dj b q (e ▸ abj _ m)
     .rcases abl.mp m with m|m
      .exact .inl (abj _ m)
      .exact(b3 a m).imp (aas _) id
def AK(i:Nat)(fk fv:EF):SF:=λρ=>match fv ρ,ρ[i]?,fk ρ with
 |some (d,t),some (some (.cj es,.own)),some (kd,_)=>match lE kd with
  |some k=>if(jV t||aB d)=true/\(es.map (·.1)).Nodup/\es.length<sizeLine then some (.nx (bQ ρ i (.cj (putD es k d)))) else none
  |none=>none
 |_,_,_=>none
theorem Ys(i:Nat){x:Str}{k v:Expr}{p1 pos':Pos}(hu:X.A.units+1<cLine)(ni:m_ X.K=true)(hk:FP X k fk)(hv:FP X v fv)(va:VA X i x:=by walk_at "va")(hs:swapsWith v (some (.Subscript (.Name x p1) k pos')) pos.line X.env=pure false:=by rfl):
  fC X (.Assign [.Subscript (.Name x p1) k pos'] v pos) (AK i fk fv):=by
 obtain⟨tk,pk,sk⟩:=hk;obtain⟨tv,jF,sv⟩:=hv;exists 25,w6 hu va.pe pk jF hs;unfold AK at e
 split at e
 .rename_i d td es kd F6 h1 h2 h3;cases h4:lE kd with
  |none=>rw[h4] at e;cases e
  |some key=>
   rw[h4] at e;exists 68
   split at e
   .rename_i hc;obtain⟨ho,nk,hz⟩:=hc;cases e;refine sv ok h1 λH1 v um s1 rv gv=>?_
    have fr:um.Nodup/\∀a∈um,H a=none:=by
     cases hi:aB d with
     |true=>rw[rv.aB hi];exact⟨.nil,λa m=>nomatch m⟩
     |false=>
      rw[hi,Bool.or_false] at ho;cases td with
      |sh _=>cases ho
      |own=>exact gv
      |lk=>exact gv
    obtain⟨xv,fp,bR,r,zz⟩:=ok.sl i _ _ h2;refine⟨xv,bR,?_⟩;refine sk (ok.same s1) h3 λH2 y Dm s2 rk _=>?_
    obtain⟨bL,rfl,nX⟩:=rk.tk ni h4;cases r with
    | @cj a ak _ f h f9 rs=>
     have RL:=s2 _ _ (s1 _ _ h);have hl:ak.length=es.length:=by have:=congrArg List.length f9;simpa using this.symm
     refine⟨a,_,rfl,nR.t RL nX (by rw[hl];exact hz),?_⟩;obtain⟨na,nf⟩:=ab4.mp zz.1;have rd:∀a∈f,∃o,H a=some o:=λa m=>let⟨o,w,_⟩:=rs.cG a m;⟨o,w⟩
     have dj:∀b∈um,b∉f:=λb m n=>by obtain⟨o,w⟩:=rd b n;rw[fr.2 b m] at w;cases w
     have av:a∉um:=λm=>by rw[fr.2 a m] at h;cases h
     have im:aV H2 (upd H2 a (.dT (putK ak key v))):=aV.upd RL rfl;obtain⟨g',b1,b2,b3⟩:=Yl ((rv.same s2).frame (H':=upd H2 a (.dT (putK ak key v))) (λb m=>aP λq=>av (q ▸ m)) im) fr.1 f9 (((rs.same s1).same s2).frame (λb m=>aP λq=>na (q ▸ m)) im) nf nk dj;obtain⟨z',aW⟩:=ok.put h2 bR zz (((aV.of s1).trans (aV.of s2)).trans im) (λb o n e=>by rw[aP λq:b=a=>n (q ▸ aad)];exact s2 _ _ (s1 _ _ e)) (.cj cD (vG f9) b1) (ab4.mpr ⟨λm=>(b3 a m).elim na av,b2⟩) (λb m=>by
      rcases aaA.mp m with rfl|m
      .exact .inl aad
      .exact(b3 b m).imp (aab _) (fr.2 b))
     exact q z' σ _ aW (.refl _ _)
   .cases e
 .cases e
section
variable{X:Cx}{a b:Expr}{fa fb:EF}
theorem Qw{apos cpos:Pos}(hu:X.A.units+1<cLine)(ni:m_ X.K=true)(ha:FP X a fa)(hb:FP X b fb)(m:M1 X a "get" apos b cpos:=by exact⟨rfl,rfl,rfl,rfl⟩):FP X (.Call (.Attribute a "get" apos) [b] [] cpos) (e3 uc fa fb (eC .az)):=by
 exists 46;exists 21,R8 hu pa pb m;obtain⟨d1,t1,d2,t2,d3,t3,h1,h2,h3,h4,rfl⟩:=IK e;cases h3;unfold uc at h4
 split at h4
 .rename_i es ks hk
  split at h4
  .rename_i hi;cases h4;refine sa ok h1 λH1 x f1 s1 r1 _=>?_
   cases r1 with
   | @cj p ak _ fp h he rs=>
    refine⟨p,rfl,.inr ⟨ak,.inl h⟩,sb (ok.same s1) h2 λH2 y f2 s2 r2 _=>?_⟩;obtain⟨bL,rfl,nX⟩:=r2.tk ni hk;refine⟨_,gj.t (s2 _ _ h) nX,?_⟩;obtain⟨i1,i2⟩:=mY he (rs.same s2);cases hv:aS es ks with
    |some d'=>
     rw[hv] at hi k;obtain⟨v,f,e1,r,_⟩:=i1 d' hv;have hn:=r.aB hi;subst hn;rw[e1];exact k H2 v [] (s1.trans s2) r .nil
    |none=>
     rw[hv] at k;rw[i2 hv];exact k H2 _ [] (s1.trans s2) .az .nil
  .cases h4
 .cases h4
end
def Qt(K:Frag):R2:=λx y H Q=>∃a b xs ys,x=.ref a/\y=.ref b/\cg K H a xs/\cg K H b ys/\ys≠[]/\xs.length+ys.length<=sizeLine/\((xs=[]/\Q y H)\/(xs≠[]/\∀p,H p=none->Q (.ref p) (upd H p (.tup (xs++ys)))))
theorem XA{X:Cx}:di X (binaryOp .Add) (Qt X.K):=by
 exists 42;obtain⟨a,b,xs,ys,rfl,rfl,ha,hb,hy,hz,q⟩:=h;cases rx;cases ry;obtain⟨vs,r1,t1,_⟩:=I.tuple ha;obtain⟨ws,r2,t2,_⟩:=I.tuple hb;obtain⟨⟨c1,d1,x1,s1⟩,o1,e1,n1,f1⟩:=id t1;obtain⟨⟨c2,d2,x2,s2⟩,o2,e2,n2,f2⟩:=id t2;simp only at e1 f1 e2 f2;subst e1 f1 e2 f2;have l1:=r1.length;have l2:=r2.length;have hw:ws≠[]:=λe=>by subst e;cases r2;exact hy rfl
 rcases q with⟨rfl,q⟩|⟨hx,q⟩
 .cases r1;exact concat_meets ⟨_,o1,rfl⟩ ⟨_,o2,rfl⟩ noFill_tuple_add seq_tuple_add F.slot_tuple_add F.entry_tuple_add (F.args_tuple_add_2 _ _) (tuple_addW0 a b _ _ n1 n2 d1 d2 s1 s2 rfl) ⟨o1,o2,.ref b,H,I,rfl,q⟩
 .have hv:vs≠[]:=λe=>by subst e;cases r1;exact hx rfl
  refine concat_meets ⟨_,o1,rfl⟩ ⟨_,o2,rfl⟩ noFill_tuple_add seq_tuple_add F.slot_tuple_add F.entry_tuple_add (F.args_tuple_add_2 _ _) (tuple_addW2 a b _ _ n1 n2 d1 d2 s1 s2 (by simpa using hv) (by simpa using hw) (by rw[ab5,ab5,<- l1,<- l2];exact hz)) ⟨o1,o2,?_⟩;rw[List.append_toArray];exact⟨.ref _,_,I.laid (t':=s.toks) (λb o e=>aax _ e) (abL _) (show dM X.prog X.w _ _ _ (.tup (xs++ys)) from⟨by rw[abD];exact hz,vs++ws,r1.append r2,nq.new _ _⟩),rfl,q _ I.fresh⟩
def z5:D->D->Option D
 |.tup ds,.tup es=>if(aL ds&&aL es&&(!es.isEmpty&&decide (ds.length+es.length<=sizeLine)))=true then some (.tup (ds++es)) else none
 |_,_=>none
theorem ack{K:Frag}:gq K (Qt K) z5:=by
 exists 41;unfold z5 at e
 split at e
 .rename_i ds es;obtain⟨hc,e⟩:=agE.mp e;cases e;simp only[aaV,Bool.not_eq_true',agM] at hc;obtain⟨⟨c1,c2⟩,c3,c4⟩:=hc;obtain⟨a,xs,rfl,h1,rs⟩:=r1.ic;obtain⟨b,ys,rfl,h2,mE⟩:=r2.ic;have n1:=rs.aB c1;have n2:=mE.aB c2;subst n1 n2;refine⟨a,b,xs,ys,rfl,rfl,h1,h2,(λe=>by subst e;cases mE;cases c3),by rw[<- rs.length,<- mE.length];exact c4,?_⟩
  by_cases hx:xs=[]
  .subst hx;cases rs;exact .inl ⟨rfl,k H _ (aJ.refl H) (.tup h2 mE)⟩
  .refine .inr ⟨hx,λp hp=>?_⟩;have s2:aJ H (upd H p (.tup (xs++ys))):=λb o e=>by rw[aP (cV e hp)];exact e
   exact k _ _ s2 (.tup (cg.of cD) ((aC.append rs mE).same s2))
 .cases e
theorem UG{X:Cx}{a b:Expr}{fa fb:EF}{pos:Pos}(ha:FP X a fa)(hb:FP X b fb):FP X (.BinOp a .Add b pos) (e2 z5 fa fb):=fp_2 ack ha hb λ_ _ pa pb=>Ju XA pa pb
theorem acF(ha:FP X a fa)(hb:FP X b fb):FP X (.Compare a [.IsNot] [b] pos) (e2 zM fa fb):=nI ME Lg ha hb (je _)
theorem YD(ha:FP X a fa)(hb:FP X b fb)(hm:behindInMarks .In b=false:=by rfl):FP X (.Compare a [.In] [b] pos) (e2 (pB false) fa fb):=nI I_ EX ha hb hm
theorem acg{apos cpos:Pos}(hu:X.A.units+1<cLine)(ha:FP X a fa)(hb:FP X b fb)(m:M1 X a "get" apos b cpos:=by exact⟨rfl,rfl,rfl,rfl⟩):FP X (.Call (.Attribute a "get" apos) [b] [] cpos) (e3 lI fa fb (eC .az)):=by
 exists 46;exists 21,R8 hu pa pb m;obtain⟨d1,t1,d2,t2,d3,t3,h1,h2,h3,h4,rfl⟩:=IK e;cases h3;unfold lI at h4
 split at h4
 .rename_i es key tS;refine sa ok h1 λH1 x f1 s1 r1 _=>?_
  cases r1 with
  | @bf p ak _ fp h hk rs=>
   refine⟨p,rfl,.inl ⟨ak,.inl h⟩,sb (ok.same s1) h2 λH2 y f2 s2 r2 _=>?_⟩;have ek:=r2.key tS;subst ek;refine⟨_,gj.k (k:=key) (s2 _ _ h),?_⟩;obtain⟨i1,i2⟩:=mY hk (rs.same s2)
   split at h4
   .rename_i d' hv
    split at h4
    .rename_i hi;cases h4;obtain⟨v,f,e1,r,_⟩:=i1 _ hv;have hn:=r.aB hi;subst hn;rw[e1];exact k H2 v [] (s1.trans s2) r .nil
    .cases h4
   .rename_i hv;cases h4;rw[i2 hv];exact k H2 _ [] (s1.trans s2) .az .nil
 .cases h4
def Gb(fa:EF):IF:=λρ=>match fa ρ with
 |some (.lst ds,t)=>some ((List.range ds.length).map λi:Nat=>D.tup [.int i,ds.getD i .az],jK [(.lst ds,t)])
 |_=>none
theorem adJ{K:PySem.W.Frag}:qu K (CN K l1) ((List.range ds.length).map λi:Nat=>D.tup [.int i,ds.getD i .az]) [⟨.lst ds,.ref l1,f1⟩]:=by
 intro H i hh;obtain⟨p1,xs,g1,e1,q1,r1,hs⟩:=(hh _ aad).dD;cases e1;refine⟨λd hd=>?_,λhl=>?_⟩
 .rw[acn] at hd;cases hz:(List.range ds.length)[i]? with
  |none=>rw[hz] at hd;cases hd
  |some j=>
   rw[hz] at hd;cases hd;obtain⟨hi,ej⟩:=abP.mp hz;rw[List.getElem_range] at ej;subst ej;rw[agu] at hi;obtain⟨y,f,hy,ry,hf⟩:=r1.get (aa9 hi);refine⟨⟨xs,y,q1,hy⟩,λv H1 hv=>?_⟩;obtain⟨T,a,hT,rfl,rfl,ha⟩:=hv;have ea:=ha xs q1;rw[hy] at ea;cases ea;have s2:aJ H (upd H T (.tup [.int i,y])):=λb o e=>by rw[aP (cV e hT)];exact e
   have eg:ds.getD i .az=ds[i]:=by rw[adb,aa9 hi];rfl
   dsimp only;rw[eg];exact⟨s2,_,.tup (cg.of cD) (aC.cons (.int _) (aC.cons (ry.same s2) .nil)),λa m=>⟨_,aad,hs a (hf a (by simpa using m))⟩⟩
 .rw[List.length_map,agu,r1.length] at hl;exact⟨xs,q1,hl⟩
theorem aa0{x1}(hm:X.mg "enumerate"=none)(ha:FP X a fa)(hg:Gl X "enumerate":=by rfl)(hs:Y2 X a:=by rfl):
  FI X (.Tuple elts x1 tp) (.Call (.Name "enumerate" p) [a] [] pos) (Gb fa):=by
 obtain⟨t,pa,hlen,q⟩:=ao ha aD (by rw[hs];rfl);exists 24,Y5 hg hm pa hs;unfold Gb at e
 split at e
 .rename_i d1 t1 h1;cases e;refine q ok (by unfold au aE;rw[h1]) λH1 vs fp s1 r g=>?_
  cases r with
  | @cons _ v1 _ _ f1 _ r1 r=>
   cases r;obtain⟨l1,xs,g1,rfl,q1,_,_⟩:=r1.dD;refine⟨l1,xs,rfl,q1,k H1 _ [⟨.lst d1,.ref l1,f1⟩] s1 (λh m=>?_) adJ⟩;have go:=g.over ok;cases aaU.mp m;exact⟨r1,λa ma=>go a (abj _ ma)⟩
 .cases e
end L2.Ev
namespace K91
open PySem L2 L2.Ev
local macro_rules | `(tactic| walk_at "s")=>`(tactic| exact ⟨⟨rfl,rfl,rfl,by decide +kernel,rfl,by decide +kernel,by decide +kernel⟩,rfl,rfl,by decide⟩)
set_option hygiene false
local macro_rules | `(tactic| exists 1,$a)=>`(tactic| exact Z.oF (by walk_at "s") fun _ _ _ _ _ _ _ _ hr nd=>by exact $a)
local macro_rules | `(tactic| exists 2,$a)=>`(tactic| exact Z.oM (by walk_at "s") rfl fun _ _ _ _ _ _ _ hr nd=>by exact $a)
local macro_rules | `(tactic| exists 6,$j,$x,$a)=>`(tactic| exact Z.oJ $j $x (by walk_at "s") rfl (by decide) fun _ _ _ _ _ _ _ hr nd=>by exact $a)
set_option hygiene true
theorem dw{z:Z}(E:En L z):ClsAt z.K "Changes" (cA z.K "Changes"):=E.c _ rfl
theorem aF{z:Z}(E:En L z):ClsAt z.K "Gate" (cA z.K "Gate"):=E.c _ rfl
theorem jG{z:Z}(E:En L z):ClsAt z.K "Tally" (cA z.K "Tally"):=E.c _ rfl
def GQ:=λ(z:Z) (E:En L z)=>(by exists 1,(aM (bz 4 aA nd) (aM (bU (xH (eU (E.b rfl) (af 0)) aA) (aH (bz 4 (ez (af 0) (y9 (af 1) (eU (E.b rfl) (af 0)))) nd)) b8) (aH (aT (y9 (y9 (gh (vM (gh (af 4) (vM (af 1) (af 1))) aA) aA) (af 2)) (af 3)))))):z.D 1 Str.empty (top 48) (bq · (bG 4 5 _)))
abbrev tE:=fF GQ
def uh:=wF GQ
def Ea:=λ(z:Z) (E:En L z/\uh z)=>(by obtain⟨E,p⟩:=E;exists 1,(aM (bz 2 (gh aA (bB p.G hr.m p.m p.kp p.b (ao (af 0) (ao aA (ao aA (ao (af 1) aD)))))) nd) (aM (bz 3 (gh aA (bB p.G hr.m p.m p.kp p.b (ao (af 0) (ao aA (ao aA (ao aA aD)))))) nd) (aM (bU (gC (bB p.G hr.m p.m p.kp p.b (ao (af 0) (ao aA (ao aA (ao aA aD))))) aA) (aH (bz 3 aA nd)) b8) (aM (bz 4 (gh aA (bB p.G hr.m p.m p.kp p.b (ao (af 0) (ao aA (ao aA (ao aA aD)))))) nd) (aH (aT (gZ (ao (af 2) (ao (af 3) (ao (af 4) (ao (gh (af 4) (bB p.G hr.m p.m p.kp p.b (ao (af 0) (ao aA (ao aA (ao aA aD)))))) aD))))))))))):z.D 2 Str.empty (top 49) (bq · (bG 2 5 _)))
abbrev abc:=fF Ea
def Vk:=wF Ea
def Hr:=λ(z:Z) (E:En L z)=>(by exists 1,(aH (aT (nJ (Lv aej (E.b rfl) (E.b rfl) (af 0)) (nJ (aa8 (Lv Ul (E.b rfl) (E.b rfl) (af 0))) (qE (Vq (af 1) (af 0) (af 2))))))):z.D 1 Str.empty (top 11) (bq · (bG 3 3 _)))
abbrev n5:=fF Hr
def zu:=wF Hr
def D_:=λ(z:Z) (E:En L z/\zu z)=>(by obtain⟨E,p⟩:=E;exists 1,(aH (aT (nJ (bB p.G hr.m p.m p.kp p.b (ao (af 1) (ao aA (ao (pG (E.i rfl)) aD)))) (qE (bB p.G hr.m p.m p.kp p.b (ao (af 0) (ao aA (ao (af 1) aD)))))))):z.D 2 Str.empty (top 41) (bq · (bG 2 2 _)))
abbrev UH:=fF D_
def QU:=wF D_
def Rr:=λ(z:Z) (E:En L z)=>(by exists 2,(cQ (bx (fU 0 (dw E) (E.n rfl) (gz aD)))):z.D 1 "Changes" (inClass (top 25) 0) (dO · (runM 1 1 _)))
def Qz:=wI Rr
def Jy:=λ(z:Z) (E:En L z/\QU z/\zu z/\Qz z)=>(by obtain⟨E,p,q,u⟩:=E;exists 2,(bu (gU (jj (FW.ft (kH (fX (bB q.G hr.m q.m q.kp q.b (ao (af 1) (ao aA (ao (pG (E.i rfl)) aD))))) (kH (fX (bB q.G hr.m q.m q.kp q.b (ao (af 2) (ao aA (ao (pG (E.i rfl)) aD))))) (lS (fX (bB p.G hr.m p.m p.kp p.b (ao (af 3) (ao (af 4) aD))))))))) (cQ pS) jz) (bu (bx (fU 0 (aF E) (E.n rfl) (gZ (ao (af 1) (ao (af 2) (ao (af 3) (ao (af 4) aD))))))) (bu (bx (fU 0 (aF E) (E.n rfl) (P8 (dw E).ns u.M u.G hr.m (E.m rfl) u.b))) (bu (bx (fU 0 (aF E) (E.n rfl) (gz aD))) (bu (bx (fU 0 (aF E) (E.n rfl) (gz aD))) (bu (bx (fU 0 (aF E) (E.n rfl) xW)) (bu (bx (fU 0 (aF E) (E.n rfl) Ep)) (bu (bx (fU 0 (aF E) (E.n rfl) (gz aD))) (bu (bx (fU 0 (aF E) (E.n rfl) fQ)) (bu (bx (fU 0 (aF E) (E.n rfl) (gz aD))) (bu (bx (fU 0 (aF E) (E.n rfl) (gz aD))) (bu (bx (fU 0 (aF E) (E.n rfl) aA)) (cQ (bx (fU 0 (aF E) (E.n rfl) aA))))))))))))))):z.D 3 "Gate" (inClass (top 46) 0) (dO · (runM 5 5 _)))
abbrev Q5:=fO Jy
def aeP:=wI Jy
def JX:=λ(z:Z) (E:En L z/\uh z)=>(by obtain⟨E,p⟩:=E;exists 1,(aM (bz 5 (bB p.G hr.m p.m p.kp p.b (ao (af 0) (ao (af 1) (ao aA (ao aA aD))))) nd) (aM (bU (FW.ft (kH (fX (af 2)) (lS (xH (af 5) aA)))) (aH (aT cJ)) b8) (aM (bU (FW.ft (lV (FW.ft (kH (m5 (af 5) aA) (lS (m5 (af 1) aA)))) (lV (FW.ft (kH (m5 (af 5) aA) (lS (gC (eU (E.b rfl) (af 3)) aA)))) (o_ (FW.ft (kH (gC (af 5) aA) (lS (gC (eU (E.b rfl) (af 4)) aA)))))))) (aH (aT cJ)) b8) (aM (bU (m5 (af 5) aA) (aH (aT cJ)) b8) (aM (bU (gC (af 5) aA) (aH (aT cJ)) b8) (aH (aT cJ))))))):z.D 2 Str.empty (top 54) (bq · (bG 5 6 _)))
abbrev WA:=fF JX
def aeq:=wF JX
def Ek:=λ(z:Z) (E:En L z)=>(by exists 1,(aH (aT (eU (E.b rfl) (bO (dw E) (E.n rfl) (af 0))))):z.D 1 "Changes" (inClass (top 25) 2) (bq · (bG 1 1 _)))
abbrev BG:=fF Ek
def AM:=wG Ek
def JJ:=λ(z:Z) (E:En L z)=>(by exists 1,(aH (aT (nJ (L1 (af 1) (bO (aF E) (E.n rfl) (af 0))) (nJ (L1 (af 1) (bO (aF E) (E.n rfl) (af 0))) (qE (S3 (cH hr) (af 1) (bO (aF E) (E.n rfl) (af 0)))))))):z.D 1 "Gate" (inClass (top 46) 19) (bq · (bG 2 2 _)))
abbrev YJ:=fF JJ
def Vn:=wG JJ
def G6:=λ(z:Z) (E:En L z/\AM z/\Vn z)=>(by obtain⟨E,p,q⟩:=E;exists 1,(aH (aT (gX (M:=["number","self"]) (js:=[none,some 0]) (f6 rfl (by kernel_rfl)) rfl (BK (E.b rfl) aA (gh (ck (dw E) p.t p.G hr.m p.b (bO (aF E) (E.n rfl) (af 0))) aA)) (by decide) λs3 H3 fp=>⟨(bC 0 (aaC rfl)),(mC (fX (fR (aF E) q.t q.G hr.m q.b (af 1) (ao (af 0) aD)))),(af 0)⟩))):z.D 2 "Gate" (inClass (top 46) 8) (bq · (bG 1 1 _)))
abbrev rV:=fF G6
def uY:=wG G6
def D8:=λ(z:Z) (E:En L z)=>(by exists 1,(aH (aT (jY (E.b rfl) (bO (aF E) (E.n rfl) (af 0))))):z.D 1 "Gate" (inClass (top 46) 7) (bq · (bG 1 1 _)))
abbrev Nz:=fF D8
def JA:=wG D8
def Gx:=λ(z:Z) (E:En L z)=>(by exists 1,(aH (aT (jY (E.b rfl) (bO (aF E) (E.n rfl) (af 0))))):z.D 1 "Gate" (inClass (top 46) 10) (bq · (bG 1 1 _)))
abbrev Um:=fF Gx
def LQ:=wG Gx
def JI:=λ(z:Z) (E:En L z)=>(by exists 1,(aH (aT (bO (aF E) (E.n rfl) (af 0)))):z.D 1 "Gate" (inClass (top 46) 12) (bq · (bG 1 1 _)))
abbrev ZL:=fF JI
def WG:=wG JI
def F4:=λ(z:Z) (E:En L z/\uh z)=>(by obtain⟨E,p⟩:=E;exists 1,(aM (bz 3 (af 2) nd) (aM (g8 rfl (dg (af 1)) (bC 4 nd) (aH (bz 3 (y9 (gh (vM (af 3) aA) (af 4)) aA) nd))) (aM (bz 5 (bB p.G hr.m p.m p.kp p.b (ao (af 0) (ao (y9 (af 3) aA) (ao aA (ao aA aD))))) nd) (aM (bU (m5 (af 5) (gh aA (bB p.G hr.m p.m p.kp p.b (ao (af 0) (ao aA (ao aA (ao aA aD))))))) (aH (aT cJ)) b8) (aM (bU (gC (af 5) aA) (aH (aT cJ)) b8) (aH (aT cJ))))))):z.D 2 Str.empty (top 52) (bq · (bG 3 6 _)))
abbrev aee:=fF F4
def Xa:=wF F4
def DY:=λ(z:Z) (E:En L z)=>(by exists 1,(aM (g8 rfl (dg (gz (ao cJ (ao cJ aD)))) (bC 2 nd) (aH (bU (gC (JZ (af 0) (af 2)) (ez (af 1) aA)) (aH (oG 2)) b8))) (aM (bU (gC (eU (E.b rfl) (af 0)) (ez (af 1) aA)) (aH (aT cJ)) b8) (aH (aT cJ)))):z.D 1 Str.empty (top 53) (bq · (bG 2 3 _)))
abbrev ada:=fF DY
def Vx:=wF DY
def Dk:=λ(z:Z) (E:En L z)=>(by exists 1,(aM (bU (Ay (JZ (bO (jG E) (E.n rfl) (af 0)) cJ) (bO (jG E) (E.n rfl) (af 0))) (aH (aT cJ)) b8) (aM (bU (Ay (JZ (bO (jG E) (E.n rfl) (af 0)) cJ) (bO (jG E) (E.n rfl) (af 0))) (aH (aT cJ)) b8) (aM (bU (Ay (eU (E.b rfl) (bO (jG E) (E.n rfl) (af 0))) (bO (jG E) (E.n rfl) (af 0))) (aH (aT cJ)) b8) (aH (aT cJ))))):z.D 1 "Tally" (inClass (top 40) 3) (bq · (bG 1 1 _)))
abbrev Ni:=fF Dk
def QI:=wG Dk
def Gu:=λ(z:Z) (E:En L z/\QI z)=>(by obtain⟨E,p⟩:=E;exists 2,(bu (gU (aco (af 1) (Qc (E.t rfl))) (cQ pS) jz) (bu (gU (jW (ck (jG E) p.t p.G hr.m p.b (af 0)) cJ) (cQ pS) jz) (bu (bx (BL 0 (jG E) (E.n rfl) (af 1))) (cQ (pU (ck (jG E) p.t p.G hr.m p.b (af 0))))))):z.D 2 "Tally" (inClass (top 40) 1) (dO · (runM 2 2 _)))
abbrev RZ:=fO Gu
def SI:=wO Gu
def CT:=λ(z:Z) (E:En L z/\QU z)=>(by obtain⟨E,p⟩:=E;exists 2,(bu (gU (jj (fX (bB p.G hr.m p.m p.kp p.b (ao (af 1) (ao (af 2) aD))))) (cQ pS) jz) (bu (bx (fU 0 (jG E) (E.n rfl) (af 1))) (bu (bx (fU 0 (jG E) (E.n rfl) (af 2))) (cQ (bx (fU 0 (jG E) (E.n rfl) (gz aD))))))):z.D 3 "Tally" (inClass (top 40) 0) (dO · (runM 3 3 _)))
abbrev Ca:=fO CT
def abR:=wI CT
def JM:=λ(z:Z) (E:En L z)=>(by exists 2,(bu (bx (fU 0 (aF E) (E.n rfl) (aa2 (bO (aF E) (E.n rfl) (af 0)) (oA (eU (E.b rfl) (af 1)) (eU (E.b rfl) (bO (aF E) (E.n rfl) (af 0))))))) (bu (bx (fU 0 (aF E) (E.n rfl) (jY (E.b rfl) (af 1)))) (cQ (bx (BL 0 (aF E) (E.n rfl) (af 1)))))):z.D 1 "Gate" (inClass (top 46) 22) (dO · (runM 2 2 _)))
abbrev ud:=fO JM
def aeM:=wO JM
def GH:=λ(z:Z) (E:En L z/\zu z/\AM z)=>(by obtain⟨E,p,q⟩:=E;exists 1,(aH (aT (bB p.G hr.m p.m p.kp p.b (ao (af 1) (ao aA (ao (ck (dw E) q.t q.G hr.m q.b (af 0)) aD)))))):z.D 2 "Changes" (inClass (top 25) 9) (bq · (bG 2 2 _)))
abbrev Ej:=fF GH
def Fi:=wG GH
def DQ:=λ(z:Z) (E:En L z/\Fi z)=>(by obtain⟨E,p⟩:=E;exists 1,(aM (bU (jj (fX (fR (dw E) p.t p.G hr.m p.b (af 0) (ao (af 1) aD)))) (aH Nt) b8) (aH (aT (ez (bO (dw E) (E.n rfl) (af 0)) (oA (af 1) aA))))):z.D 3 "Changes" (inClass (top 25) 10) (bq · (bG 2 2 _)))
abbrev ZX:=fF DQ
def Em:=wG DQ
def G5:=λ(z:Z) (E:En L z/\Em z)=>(by obtain⟨E,p⟩:=E;exists 1,(aH (aT (jY (E.b rfl) (ez (fR (dw E) p.t p.G hr.m p.b (af 0) (ao (af 1) aD)) aA)))):z.D 4 "Changes" (inClass (top 25) 4) (bq · (bG 2 2 _)))
abbrev BU:=fF G5
def Gv:=wG G5
def Fp:=λ(z:Z) (E:En L z/\uY z/\Gv z)=>(by obtain⟨E,p,q⟩:=E;exists 2,(cQ (bx (g8 rfl (dg (ck (aF E) p.t p.G hr.m p.b (af 0))) (bC 1 nd) (aM (yi 2 (hN:=nd) (M:=["lean","self"]) (js:=[none,some 0]) (f6 rfl (by kernel_rfl)) rfl (dg (fR (dw E) q.t q.G hr.m q.b (bO (aF E) (E.n rfl) (af 0)) (ao (af 1) aD))) (by decide) λs3 H3 fp=>⟨(bC 0 (aaC rfl)),(mC (GR (cH hr) (af 0) (bO (aF E) (E.n rfl) (af 1)))),(af 0)⟩) (aH (bU (Pd (af 2)) (aH (zY 0 (cH hr) (aF E) (E.n rfl) (af 1) (gZ (ao cJ (ao (ez (af 2) aA) aD))))) b8)))))):z.D 5 "Gate" (inClass (top 46) 24) (dO · (runM 1 3 _)))
abbrev AD:=fO Fp
def V7:=wO Fp
def DU:=λ(z:Z) (E:En L z/\QI z)=>(by obtain⟨E,p⟩:=E;exists 1,(aH (aT (LD (Vd (cH hr) (af 1) (bO (aF E) (E.n rfl) (af 0))) (ck (jG E) p.t p.G hr.m p.b (JU (cH hr) (bO (aF E) (E.n rfl) (af 0)) (af 1) (by exact λ_ _=>rfl))) cJ))):z.D 2 "Gate" (inClass (top 46) 21) (bq · (bG 2 2 _)))
abbrev Ck:=fF DU
def Ia:=wG DU
def EM:=λ(z:Z) (E:En L z)=>(by exists 1,(aH (aT (sO (E.b rfl) (lZ (bO (aF E) (E.n rfl) (af 0)) (C6 (bO (aF E) (E.n rfl) (af 0)) (af 1)))))):z.D 1 "Gate" (inClass (top 46) 20) (bq · (bG 2 2 _)))
abbrev zp:=fF EM
def Hy:=wG EM
def GW:=λ(z:Z) (E:En L z/\Ia z/\Hy z)=>(by obtain⟨E,p,q⟩:=E;exists 1,(aM (g8 rfl (BK (E.b rfl) aA (gh (eU (E.b rfl) (bO (aF E) (E.n rfl) (af 0))) aA)) (bC 1 nd) (aH (bU (Wf (fR (aF E) p.t p.G hr.m p.b (af 0) (ao (fR (aF E) q.t q.G hr.m q.b (af 0) (ao (af 1) aD)) aD)) (Qc (E.t rfl))) (aH (oG 1)) b8))) (aH (aT mT))):z.D 3 "Gate" (inClass (top 46) 11) (bq · (bG 1 2 _)))
abbrev Cy:=fF GW
def CV:=wG GW
def Ey:=λ(z:Z) (E:En L z)=>(by exists 1,(aH (aT (aaQ rfl (E.b rfl) (gX (M:=["slot","old","new","values"]) (js:=[none,none,none,some 0]) (f6 rfl (by kernel_rfl)) rfl (dg (af 1)) (by decide) λs3 H3 fp=>⟨(m9 rfl (fB (bC 0 (aaC rfl)) (fB (bC 1 (aaC rfl)) (fB (bC 2 (aaC rfl)) mZ)))),(mC (jW (IU (cH hr) (af 3) (af 0) aA) (af 1))),(af 0)⟩) mT))):z.D 1 Str.empty (top 19) (bq · (bG 2 2 _)))
abbrev DJ:=fF Ey
def CQ:=wF Ey
def Gq:=λ(z:Z) (E:En L z)=>(by exists 1,(aH (aT (gX (M:=["slot","values"]) (js:=[none,some 0]) (f6 rfl (by kernel_rfl)) rfl (dg (qd rfl (E.b rfl) (af 0))) (by decide) λs3 H3 fp=>⟨(bC 0 (aaC rfl)),(mC (jW (tQ (cH hr) (af 1) (af 0)) aA)),(gZ (ao (af 0) (ao (tQ (cH hr) (af 1) (af 0)) aD)))⟩))):z.D 1 Str.empty (top 20) (bq · (bG 1 1 _)))
abbrev YR:=fF Gq
def aeC:=wF Gq
def PJ:=λ(z:Z) (E:En L z/\CQ z/\aeC z)=>(by obtain⟨E,p,q⟩:=E;exists 1,(aM (bz 2 (vJ rfl (E.b rfl) (af 0)) nd) (aM (g8 rfl (dg (af 1)) (bC 3 nd) (aM (bz 4 (bB p.G hr.m p.m p.kp p.b (ao (af 2) (ao (af 3) aD))) nd) (aM (bU (ZA (af 4) mT) (aH Nt) b8) (aH (g8 rfl (dg (af 3)) (m9 rfl (fB (bC 5 nd) (fB (bC 6 nd) (fB (bC 7 nd) mZ)))) (aH (zE 2 (cH hr) (af 5) (af 7)))))))) (aH (aT (bB q.G hr.m q.m q.kp q.b (ao (af 2) aD)))))):z.D 2 Str.empty (top 17) (bq · (bG 2 8 _)))
def Ur:=wF PJ
def EN:=λ(z:Z) (E:En L z/\Em z)=>(by obtain⟨E,p⟩:=E;exists 1,(aH (aT (jY (E.b rfl) (ez (fR (dw E) p.t p.G hr.m p.b (af 0) (ao (af 1) aD)) aA)))):z.D 4 "Changes" (inClass (top 25) 5) (bq · (bG 2 2 _)))
abbrev zR:=fF EN
def zG:=wG EN
def EJ:=λ(z:Z) (E:En L z/\Ur z/\zG z)=>(by obtain⟨E,p,q⟩:=E;exists 1,(aH (aT (bB p.G hr.m p.m p.kp p.b (ao (gz aD) (ao (gX (M:=["number","changes"]) (js:=[none,some 0]) (f6 rfl (by kernel_rfl)) rfl (dg (af 1)) (by decide) λs3 H3 fp=>⟨(bC 0 (aaC rfl)),j7,(fR (dw E) q.t q.G hr.m q.b (af 1) (ao (af 0) aD))⟩) aD))))):z.D 5 Str.empty (top 26) (bq · (bG 2 2 _)))
abbrev Vl:=fF EJ
def Sk:=wF EJ
def Dj:=λ(z:Z) (E:En L z/\Sk z)=>(by obtain⟨E,p⟩:=E;exists 1,(aH (aT (vJ rfl (E.b rfl) (bB p.G hr.m p.m p.kp p.b (ao (af 0) (ao (lZ (jY (E.b rfl) (af 1)) (jY (E.b rfl) (af 2))) aD)))))):z.D 6 Str.empty (top 32) (bq · (bG 3 3 _)))
abbrev afH:=fF Dj
def WD:=wF Dj
def Jg:=λ(z:Z) (E:En L z/\Em z)=>(by obtain⟨E,p⟩:=E;exists 1,(aH (aT (ez (fR (dw E) p.t p.G hr.m p.b (af 0) (ao (af 1) aD)) aA))):z.D 4 "Changes" (inClass (top 25) 3) (bq · (bG 2 2 _)))
abbrev xu:=fF Jg
def Rj:=wG Jg
def Vh:SF:=(o8 (Eb 0 (aj 1) (iV (au (e1 pY (bP "Changes" "rank_of" xu (aj 1) (au (aj 0) aE))) (au (aj 0) aE)))))
def DW:=λ(z:Z) (E:En L z/\Rj z)=>(by obtain⟨E,p⟩:=E;intro f fd F;obtain⟨oc,od,kV,doc,pm,an,cd0,ct,ue,rfl,lk,_⟩:=id F.ex;exact Sl (N:=["changes","numbers"]) F ⟨rfl,rfl,rfl,by decide +kernel,rfl,by decide +kernel,by decide +kernel⟩ λaX A outer s H E' hr=>by exact(aH (aT (ZJ (x:="number") (y:="changes") 0 (E.b rfl) (af 1) ⟨rfl,rfl,rfl,by decide +kernel,rfl,rfl,by decide +kernel,λ_ _ _ _ _ _ _=>rfl⟩ lk (congrArg (λc=>some (c,_,_)) aX.2.symm) (bH.depth (k:=0) (bH.in1 (bH.in1 hr.m))) (λf c' s H=>(gZ (ao (z_ (fR (dw E) p.t p.G (bH.deeper (bH.in1 (bH.in1 hr.m)) _) p.b (af 1) (ao (af 0) aD))) (ao (af 0) aD))))))):z.D 8 Str.empty (top 31) (bq · (bG 2 2 Vh)))
abbrev O5:=fF DW
def Zx:=wF DW
def Ef:=λ(z:Z) (E:En L z/\CQ z/\zG z)=>(by obtain⟨E,p,q⟩:=E;exists 1,(aH (aT (Y_ (bB p.G hr.m p.m p.kp p.b (ao (af 1) (ao (fR (dw E) q.t q.G hr.m q.b (af 0) (ao (af 2) aD)) aD))) mT))):z.D 5 Str.empty (top 33) (bq · (bG 3 3 _)))
abbrev Dl:=fF Ef
def V5:=wF Ef
def DM:=λ(z:Z) (E:En L z/\Zx z/\V5 z)=>(by obtain⟨E,p,q⟩:=E;exists 1,(aM (g8 rfl (dg (bB p.G hr.m p.m p.kp p.b (ao (af 0) (ao (af 2) aD)))) (bC 3 nd) (aH (bU (fX (bB q.G hr.m q.m q.kp q.b (ao (af 0) (ao (af 1) (ao (af 3) aD))))) (aH (oG 3)) b8))) (aH (aT mT))):z.D 9 Str.empty (top 30) (bq · (bG 3 4 _)))
abbrev Cw:=fF DM
def aae:=wF DM
def Dq:=λ(z:Z) (E:En L z/\Gv z)=>(by obtain⟨E,p⟩:=E;exists 1,(aM (bz 4 (vJ rfl (E.b rfl) (gX (M:=["number"]) (js:=[none]) (f6 rfl (by kernel_rfl)) rfl (dg (lZ (jY (E.b rfl) (af 1)) (jY (E.b rfl) (af 2)))) (by decide) λs3 H3 fp=>⟨(bC 0 (aaC rfl)),j7,(gZ (ao (af 0) (ao fQ aD)))⟩)) nd) (aH (aT (gX (M:=["number","changes","here"]) (js:=[none,some 0,some 4]) (f6 rfl (by kernel_rfl)) rfl (dg (af 3)) (by decide) λs3 H3 fp=>⟨(bC 0 (aaC rfl)),(mC (fX (CS rfl (E.b rfl) (gX (M:=["lean","here"]) (js:=[none,some 2]) (Xp (by decide +kernel)) rfl (dg (fR (dw E) p.t p.G hr.m p.b (af 1) (ao (af 0) aD))) (by decide) λs3 H3 fp=>⟨(bC 0 (aaC rfl)),j7,(KS (cH hr) (af 0) (af 1))⟩)))),(af 0)⟩)))):z.D 5 Str.empty (top 28) (bq · (bG 4 5 _)))
abbrev Ah:=fF Dq
def OU:=wF Dq
def IY:=λ(z:Z) (E:En L z/\WD z/\aae z/\OU z/\zG z)=>(by obtain⟨E,p,q,u,v⟩:=E;exists 1,(aM (bz 5 (jY (E.b rfl) (af 2)) nd) (aM (bz 6 (jY (E.b rfl) (af 3)) nd) (aM (bz 7 (bB p.G hr.m p.m p.kp p.b (ao (af 0) (ao (af 1) (ao (af 2) aD)))) nd) (aM (NB 4000 (m5 (eU (E.b rfl) (af 5)) (af 4)) (aM (bz 8 (bB q.G hr.m q.m q.kp q.b (ao (af 0) (ao (af 7) (ao (bB u.G hr.m u.m u.kp u.b (ao (af 0) (ao (af 1) (ao (af 5) (ao (af 6) aD))))) aD)))) nd) (aM (bU (Bq (af 8) mT) (aH (oG 5)) b8) (aM (DA 5 (af 8)) (aM (XI 6 (af 8)) (aH (g8 rfl (dg (fR (dw E) v.t v.G hr.m v.b (af 0) (ao (af 8) aD))) (m9 rfl (fB (bC 9 nd) (fB (bC 10 nd) (fB (bC 11 nd) mZ)))) (aH (zE 7 (cH hr) (af 9) (af 11)))))))))) (aH (oG 5)))))):z.D 10 Str.empty (top 29) (bq · (bG 5 12 _)))
abbrev DZ:=fF IY
def X5:=wF IY
def EY:=λ(z:Z) (E:En L z/\CV z/\Hy z/\Ia z)=>(by obtain⟨E,p,q,u⟩:=E;exists 2,(bu (gU (xQ hr.units (ck (aF E) p.t p.G hr.m p.b (af 0)) aA) (cQ (pU fQ)) jz) (bu (bx (bz 1 (fR (aF E) q.t q.G hr.m q.b (af 0) (ao aA aD)) nd)) (bu (bx (zY 0 (cH hr) (aF E) (E.n rfl) (ez (bO (aF E) (E.n rfl) (af 0)) aA) (gZ (ao cJ (ao (sO (E.b rfl) (bO (aF E) (E.n rfl) (af 0))) (ao (af 1) (ao (fR (aF E) u.t u.G hr.m u.b (af 0) (ao (af 1) aD)) aD))))))) (bu (bx (fU 0 (aF E) (E.n rfl) (gz aD))) (cQ (pU fQ)))))):z.D 4 "Gate" (inClass (top 46) 26) (dO · (runM 1 2 _)))
abbrev LK:=fO EY
def U0:=wO EY
def Ik:=λ(z:Z) (E:En L z/\Sk z)=>(by obtain⟨E,p⟩:=E;exists 1,(aH (aT (bB p.G hr.m p.m p.kp p.b (ao (bO (aF E) (E.n rfl) (af 0)) (ao (bO (aF E) (E.n rfl) (af 0)) aD))))):z.D 6 "Gate" (inClass (top 46) 13) (bq · (bG 1 1 _)))
abbrev R7:=fF Ik
def Mb:=wG Ik
def JQ:=λ(z:Z) (E:En L z/\CQ z)=>(by obtain⟨E,p⟩:=E;exists 1,(aH (aT (bB p.G hr.m p.m p.kp p.b (ao (vJ rfl (E.b rfl) (af 0)) (ao (af 1) aD))))):z.D 2 Str.empty (top 16) (bq · (bG 2 2 _)))
abbrev Nc:=fF JQ
def ae9:=wF JQ
def GO:=λ(z:Z) (E:En L z/\OU z/\uY z/\Mb z/\ae9 z/\zG z)=>(by obtain⟨E,p,q,u,v,y⟩:=E;exists 2,(bu (gU (Pd (bO (aF E) (E.n rfl) (af 0))) (cQ (pU fQ)) jz) (bu (bx (bz 1 (bB p.G hr.m p.m p.kp p.b (ao (bO (aF E) (E.n rfl) (af 0)) (ao (bO (aF E) (E.n rfl) (af 0)) (ao (gz aD) (ao (ck (aF E) q.t q.G hr.m q.b (af 0)) aD))))) nd)) (bu (bx (bz 2 (ck (aF E) u.t u.G hr.m u.b (af 0)) nd)) (bu (bx (g8 rfl (dg (af 1)) (bC 3 nd) (aH (zY 0 (cH hr) (aF E) (E.n rfl) (af 3) (gZ (ao cJ (ao (bB v.G hr.m v.m v.kp v.b (ao (af 2) (ao (fR (dw E) y.t y.G hr.m y.b (bO (aF E) (E.n rfl) (af 0)) (ao (af 3) aD)) aD))) aD))))))) (cQ (pU (T8 hr.units (af 1) (gz aD)))))))):z.D 7 "Gate" (inClass (top 46) 27) (dO · (runM 1 4 _)))
abbrev I0:=fO GO
def abn:=wO GO
def Je:=λ(z:Z) (E:En L z/\CV z/\X5 z/\uY z/\U0 z/\abn z)=>(by obtain⟨E,p,q,u,v,y⟩:=E;exists 2,(bu (gU (Bq (ck (aF E) p.t p.G hr.m p.b (af 0)) mT) (cQ (bx (fU 0 (aF E) (E.n rfl) (bB q.G hr.m q.m q.kp q.b (ao (bO (aF E) (E.n rfl) (af 0)) (ao (bO (aF E) (E.n rfl) (af 0)) (ao (bO (aF E) (E.n rfl) (af 0)) (ao (ck (aF E) u.t u.G hr.m u.b (af 0)) (ao (ez (bO (aF E) (E.n rfl) (af 0)) aA) aD))))))))) jz) (cQ (Rq (adH (lR 0 (aF E) v.t v.G hr.m v.b) (lR 0 (aF E) y.t y.G hr.m y.b))))):z.D 11 "Gate" (inClass (top 46) 25) (dO · (runM 1 1 _)))
abbrev BC:=fO Je
def aaO:=wO Je
def IW:=λ(z:Z) (E:En L z/\Ia z)=>(by obtain⟨E,p⟩:=E;exists 1,(aH (aT (nJ (Z5 hr.units (af 1) (bO (aF E) (E.n rfl) (af 0))) (qE (sN (fR (aF E) p.t p.G hr.m p.b (af 0) (ao (af 1) aD)) cJ))))):z.D 3 "Gate" (inClass (top 46) 29) (bq · (bG 2 2 _)))
abbrev Wo:=fF IW
def abX:=wG IW
def E_:SF:=(cu (dJ 1 (e2 c9 (aj 0) (eC (.int 0)))) (cu (dJ 2 (aj 1)) (cu (iR (qz (aj 0) (e1 (oO (some 1) none) (aj 0))) (gT (cR (gN 3) (cR (gN 4) jB))) (fN (tV (e2 qt (e2 i9 (aj 4) (aj 3)) (e2 i9 (aj 2) (aj 1)))) (cu (dJ 1 (aj 3)) (dJ 2 (aj 4))) g9)) (o8 (e2 oDiv (e2 gI (aj 1) (aj 2)) (eC (.int 2)))))))
def Jh:=λ(z:Z) (E:En L z)=>(by exists 1,(aM (bz 1 (ez (af 0) aA) nd) (aM (bz 2 (af 1) nd) (aM (g8 rfl (Qf (E.b rfl) (af 0) (K7 Ms Oi (af 0))) (m9 rfl (fB (bC 3 nd) (fB (bC 4 nd) mZ))) (aH (bU (xH (oA (af 4) (af 3)) (oA (af 2) (af 1))) (aM (bz 1 (af 3) nd) (aH (bz 2 (af 4) nd))) b8))) (aH (aT (acB (gh (af 1) (af 2)) aA)))))):z.D 1 Str.empty (top 36) (bq · (bG 1 5 E_)))
abbrev yU:=fF Jh
def Ze:=wF Jh
def EV:SF:=(cu (dJ 4 (o9 (tV (e2 jf (aj 1) (eC .az))) (e2 gI (aj 0) (eC (.int 1))) (aj 1))) (cu (dJ 5 (gR [none,some 4] (d7 (aj 2)) (gN 0) (tV (e2 oLt (aj 0) (aj 1))) (aj 0))) (cu (iN (tV (e2 oLt (e1 eS (aj 5)) (e2 xj (aj 3) (e2 i9 (aj 4) (eC (.int 1)))))) (cu (fN (iK (tV (e2 jf (aj 1) (eC .az))) (tV (e2 (jo true) (aj 0) (aj 5)))) (mR 5 (aj 0)) (mR 5 (cP yU (au (e2 gH (e2 gH (iG (au (eC (.int 0)) aE)) (aj 5)) (iG (au (aj 4) aE))) aE)))) (dJ 5 (e1 i7 (aj 5)))) 4000) (pL 5))))
def DK:=λ(z:Z) (E:En L z/\Ze z)=>(by obtain⟨E,p⟩:=E;exists 1,(aM (bz 4 (LD (Bq (af 1) mT) (gh (af 0) aA) (af 1)) nd) (aM (yi 5 (hN:=nd) (M:=["place","end"]) (js:=[none,some 4]) (f6 rfl (by kernel_rfl)) rfl (dg (af 2)) (by decide) λs3 H3 fp=>⟨(bC 0 (aaC rfl)),(mC (m5 (af 0) (af 1))),(af 0)⟩) (aM (NB 4000 (m5 (eU (E.b rfl) (af 5)) (RP rfl (E.b rfl) (af 3) (oA (af 4) aA))) (aM (bU (FW.ft (kH (Bq (af 1) mT) (lS (Ff (af 0) (af 5))))) (aH (DA 5 (af 0))) (aH (DA 5 (bB p.G hr.m p.m p.kp p.b (ao (lZ (lZ (gz (ao aA aD)) (af 5)) (gz (ao (af 4) aD))) aD))))) (aH (bz 5 (qd rfl (E.b rfl) (af 5)) nd)))) (aH (oG 5))))):z.D 2 Str.empty (top 35) (bq · (bG 4 6 EV)))
abbrev Jw:=fF DK
def aaH:=wF DK
def Fk:=λ(z:Z) (E:En L z/\abX z/\Hy z/\aaH z/\CV z)=>(by obtain⟨E,p,q,u,v⟩:=E;exists 1,(aM (bz 1 (eU (E.b rfl) (bO (aF E) (E.n rfl) (af 0))) nd) (aM (yi 2 (hN:=nd) (M:=["place","self"]) (js:=[none,some 0]) (f6 rfl (by kernel_rfl)) rfl (BK (E.b rfl) aA (gh (af 1) aA)) (by decide) λs3 H3 fp=>⟨(bC 0 (aaC rfl)),(mC (fX (fR (aF E) p.t p.G hr.m p.b (af 1) (ao (fR (aF E) q.t q.G hr.m q.b (af 1) (ao (af 0) aD)) aD)))),(af 0)⟩) (aH (aT (gX (M:=["place","self"]) (js:=[none,some 0]) (f6 rfl (by kernel_rfl)) rfl (dg (bB u.G hr.m u.m u.kp u.b (ao (af 1) (ao (ck (aF E) v.t v.G hr.m v.b (af 0)) (ao (af 2) (ao (ez (bO (aF E) (E.n rfl) (af 0)) aA) aD)))))) (by decide) λs3 H3 fp=>⟨(bC 0 (aaC rfl)),j7,(fR (aF E) q.t q.G hr.m q.b (af 1) (ao (af 0) aD))⟩))))):z.D 4 "Gate" (inClass (top 46) 28) (bq · (bG 1 3 _)))
abbrev ad5:=fF Fk
def ab0:=wG Fk
def CM:=λ(z:Z) (E:En L z/\V7 z/\aaO z/\ab0 z)=>(by obtain⟨E,p,q,u⟩:=E;exists 2,(bu (bx (kD (lR 0 (aF E) p.t p.G hr.m p.b))) (bu (bx (aft 4000 (UL (jj (fX (bO (aF E) (E.n rfl) (af 0)))) (adw (lR 0 (aF E) q.t q.G hr.m q.b))) (aH (kD (lR 0 (aF E) p.t p.G hr.m p.b))))) (cQ (bx (fU 0 (aF E) (E.n rfl) (ck (aF E) u.t u.G hr.m u.b (af 0))))))):z.D 12 "Gate" (inClass (top 46) 23) (dO · (runM 1 1 _)))
abbrev ou:=fO CM
def wK:=wO CM
def Df:=λ(z:Z) (E:En L z/\SI z/\abR z/\aeM z/\wK z)=>(by obtain⟨E,p,q,u,v⟩:=E;exists 2,(bu (gU (Uy hr.units (af 1) (bO (aF E) (E.n rfl) (af 0))) (cQ pS) jz) (adX (cH hr) (E.ni rfl) (aF E) (E.n rfl) (jG E) p.t p.G hr.m p.b (Mt (jG E).ns q.M q.G hr.m (E.m rfl) q.b (ao (ez (bO (aF E) (E.n rfl) (af 0)) aA) (ao (ez (bO (aF E) (E.n rfl) (af 0)) aA) aD))) (bu (bx (CU 0 (aF E) (E.n rfl) aA)) (bu (gU (jW (af 4) cJ) (cQ (bx (BL 0 (aF E) (E.n rfl) (gZ (ao (af 1) (ao (af 4) aD)))))) jz) (bu (gU (gC (af 4) cJ) (cQ (bx (kD (FY.fz (yV 0 (aF E) u.t u.G hr.m u.b (ao (af 1) aD)))))) jz) (bu (bx (kD (lR 0 (aF E) v.t v.G hr.m v.b))) (cQ (pU (af 4))))))) nd)):z.D 13 "Gate" (inClass (top 46) 3) (dO · (runM 3 5 _)))
abbrev HB:=fO Df
def ZN:=wO Df
def Ic:=λ(z:Z) (E:En L z/\LQ z/\uh z/\Xa z/\Vx z/\ZN z)=>(by obtain⟨E,p,q,u,v,y⟩:=E;exists 6,[2,3,4],["_law_gate","_law_record","_law_ended"],(bu (bx (bz 6 (ck (aF E) p.t p.G hr.m p.b (af 2)) nd)) (bu (bx (bz 7 (ez (af 6) (bB q.G hr.m q.m q.kp q.b (ao (af 0) (ao (af 1) (ao aA (ao (eU (E.b rfl) (af 6)) aD)))))) nd)) (bu (bx (bz 8 (afF (cH hr) (E.ni rfl) (af 3) (af 7) (gz aD)) nd)) (bu (bx (bz 9 (bB u.G hr.m u.m u.kp u.b (ao (af 0) (ao (af 7) (ao (eU (E.b rfl) (af 8)) aD)))) nd)) (bu (bx (Ys 3 (cH hr) (E.ni rfl) (af 7) (lZ (af 8) (gz (ao (af 9) aD))))) (bu (bx (bz 10 (bB v.G hr.m v.m v.kp v.b (ao (JU (cH hr) (af 3) (af 7) (by exact λ_ _=>rfl)) (ao (af 5) aD))) nd)) (bu (bx (bU (jW (af 10) cJ) (aH (ac4 4 (cH hr) (E.ni rfl) (af 7) (af 10))) b8)) (cQ (Rq (afr (FY.fz (yV 2 (aF E) y.t y.G hr.m y.b (ao (af 7) (ao (af 9) aD)))) (af 10))))))))))):z.D 14 Str.empty (top 62) (n6 [2,3,4] · (nu [2,3,4] 6 11 _)))
abbrev Vy:=fJ Ic
def U3:=wJ Ic
def GV:=λ(z:Z) (E:En L z/\uh z)=>(by obtain⟨E,p⟩:=E;exists 1,(aM (bz 3 xW nd) (aM (g8 rfl (G2 (E.b rfl) (bB p.G hr.m p.m p.kp p.b (ao (af 0) (ao (af 1) (ao aA (ao aA aD)))))) (bC 4 nd) (aM (bz 5 (bB p.G hr.m p.m p.kp p.b (ao (af 0) (ao (gh (af 1) (vM aA (af 4))) (ao aA (ao aA aD))))) nd) (aM (bz 6 (IU (cH hr) (af 2) (af 5) aA) nd) (aM (bU (gC (bB p.G hr.m p.m p.kp p.b (ao (af 0) (ao (gh (af 1) (af 4)) (ao aA (ao aA aD))))) aA) (aH (bz 6 (bB p.G hr.m p.m p.kp p.b (ao (af 0) (ao (gh (af 1) (af 4)) (ao aA (ao aA aD))))) nd)) b8) (aM (bz 7 (bB p.G hr.m p.m p.kp p.b (ao (af 0) (ao (gh (af 1) (vM aA (af 4))) (ao aA (ao aA aD))))) nd) (aM (bU (gC (af 7) (af 6)) (aH (bz 7 (gh (af 6) aA) nd)) b8) (aH (zE 3 (cH hr) (af 5) (gZ (ao (af 5) (ao (af 6) (ao (af 7) aD)))))))))))) (aH (aT (gX (M:=["_law_slot","_law_news"]) (js:=[none,some 3]) (f6 rfl (by kernel_rfl)) rfl (dg (qd rfl (E.b rfl) (af 3))) (by decide) λs3 H3 fp=>⟨(bC 0 (aaC rfl)),j7,(tQ (cH hr) (af 1) (af 0))⟩))))):z.D 2 Str.empty (top 50) (bq · (bG 3 8 _)))
abbrev K9:=fF GV
def aeB:=wF GV
def EO:=λ(z:Z) (E:En L z/\uh z/\aeB z)=>(by obtain⟨E,p,q⟩:=E;exists 6,[2],["_law_values"],(bu (bx (bz 4 (gz aD) nd)) (bu (bx (bU (gC (bB p.G hr.m p.m p.kp p.b (ao (af 0) (ao (af 1) (ao aA (ao aA aD))))) aA) (aH (yi 4 (hN:=nd) (M:=["_law_number","_law_script","_law_k"]) (js:=[none,some 0,some 1]) (f6 rfl (by kernel_rfl)) rfl (BK (E.b rfl) aA (gh (af 3) aA)) (by decide) λs3 H3 fp=>⟨(bC 0 (aaC rfl)),(mC (gC (bB p.G hr.m p.m p.kp p.b (ao (af 1) (ao (gh (af 2) (vM aA (af 0))) (ao aA (ao aA aD))))) aA)),(af 0)⟩)) b8)) (bu (bx (LI 5 (Xl 4 (bB p.G hr.m p.m p.kp p.b (ao (af 0) (ao (af 1) (ao aA (ao aA aD))))) (bB q.G hr.m q.m q.kp q.b (ao (af 0) (ao (af 1) (ao (af 2) aD))))) nd)) (bu (bx (g8 rfl (dg (qq (af 5) aA)) (m9 rfl (fB (bC 6 nd) (fB (bC 7 nd) (fB (bC 8 nd) mZ)))) (aH (zE 2 (cH hr) (af 6) (af 8))))) (cQ (NW 5)))))):z.D 3 Str.empty (top 51) (n6 [2] · (nu [2] 4 9 _)))
abbrev HY:=fJ EO
def aep:=wJ EO
def D9:=λ(z:Z) (E:En L z)=>(by exists 1,(aH (aT (CS rfl (E.b rfl) (gX (M:=["low","high"]) (js:=[none,none]) (f6 rfl (by kernel_rfl)) rfl (Qf (E.b rfl) (af 0) (K7 Ms Oi (af 0))) (by decide) λs3 H3 fp=>⟨(m9 rfl (fB (bC 0 (aaC rfl)) (fB (bC 1 (aaC rfl)) mZ))),j7,(ae2 (af 0) (af 1))⟩)))):z.D 1 Str.empty (top 12) (bq · (bG 1 1 _)))
abbrev UA:=fF D9
def K2:=wF D9
def HK:=λ(z:Z) (E:En L z/\zu z/\K2 z)=>(by obtain⟨E,p,q⟩:=E;exists 1,(aM (g8 rfl (dg (af 0)) (m9 rfl (fB (bC 1 nd) (fB (bC 2 nd) (fB (bC 3 nd) mZ)))) (aM (bU (jj (FW.ft (kH (fX (bB p.G hr.m p.m p.kp p.b (ao (af 1) (ao aA (ao (pG (E.i rfl)) aD))))) (lS (fX (bB p.G hr.m p.m p.kp p.b (ao (af 2) (ao aA (ao (pG (E.i rfl)) aD))))))))) (aH (aT fQ)) b8) (aH (bU (FW.ft (lV (jj (fX (bB p.G hr.m p.m p.kp p.b (ao (af 3) (ao aA (ao (pG (E.i rfl)) aD)))))) (o_ (gC (af 2) (af 3))))) (aH (aT fQ)) b8)))) (aH (aT (bB q.G hr.m q.m q.kp q.b (ao (gX (M:=["edit"]) (js:=[none]) (f6 rfl (by kernel_rfl)) rfl (dg (af 0)) (by decide) λs3 H3 fp=>⟨(bC 0 (aaC rfl)),j7,(ez (af 0) aA)⟩) aD))))):z.D 2 Str.empty (top 18) (bq · (bG 1 4 _)))
abbrev Xm:=fF HK
def aah:=wF HK
def G3:=λ(z:Z) (E:En L z/\zu z/\K2 z/\Fi z/\aah z)=>(by obtain⟨E,p,q,u,v⟩:=E;exists 1,(aM (bU (jj (fX (bB p.G hr.m p.m p.kp p.b (ao (af 1) (ao aA (ao (pG (E.i rfl)) aD)))))) (aH (aT fQ)) b8) (aM (bU (FW.ft (lV (jj (fX (CS rfl (E.b rfl) (gX (M:=["lean","self"]) (js:=[none,some 0]) (f6 rfl (by kernel_rfl)) rfl (dg (af 2)) (by decide) λs3 H3 fp=>⟨(bC 0 (aaC rfl)),j7,(fR (dw E) u.t u.G hr.m u.b (af 1) (ao (af 0) aD))⟩)))) (o_ (jj (fX (bB q.G hr.m q.m q.kp q.b (ao (af 2) aD))))))) (aH (aT fQ)) b8) (aH (aT (nJ (Yu (eU (E.b rfl) (af 3)) (pG (E.i rfl))) (qE (bB v.G hr.m v.m v.kp v.b (ao (af 3) aD)))))))):z.D 3 "Changes" (inClass (top 25) 11) (bq · (bG 4 4 _)))
abbrev afx:=fF G3
def adi:=wG G3
def C8:=λ(z:Z) (E:En L z/\adi z/\AM z)=>(by obtain⟨E,p,q⟩:=E;exists 2,(bu (gU (jj (fX (fR (dw E) p.t p.G hr.m p.b (af 0) (ao (af 1) (ao (af 2) (ao (af 3) aD)))))) (cQ pS) jz) (bu (gU (Ay (ck (dw E) q.t q.G hr.m q.b (af 0)) (pG (E.i rfl))) (cQ pS) jz) (bu (bx (BL 0 (dw E) (E.n rfl) (gZ (ao (af 1) (ao (sO (E.b rfl) (af 2)) (ao (sO (E.b rfl) (gX (M:=["edit"]) (js:=[none]) (f6 rfl (by kernel_rfl)) rfl (dg (af 3)) (by decide) λs3 H3 fp=>⟨(bC 0 (aaC rfl)),j7,(sO (E.b rfl) (af 0))⟩)) aD)))))) (cQ (pU (ck (dw E) q.t q.G hr.m q.b (af 0))))))):z.D 4 "Changes" (inClass (top 25) 1) (dO · (runM 4 4 _)))
abbrev tO:=fO C8
def NC:=wO C8
def G8:=λ(z:Z) (E:En L z/\NC z/\wK z)=>(by obtain⟨E,p,q⟩:=E;exists 2,(bu (bx (Zd 4 (FY.fz (aa5 0 (aF E) (E.n rfl) (dw E) p.t p.G hr.m p.b (ao (af 1) (ao (af 2) (ao (af 3) aD))))) nd)) (bu (bx (kD (lR 0 (aF E) q.t q.G hr.m q.b))) (cQ (pU (af 4))))):z.D 13 "Gate" (inClass (top 46) 1) (dO · (runM 4 5 _)))
abbrev O4:=fO G8
def abV:=wO G8
def DX:=λ(z:Z) (E:En L z/\Fi z/\wK z)=>(by obtain⟨E,p,q⟩:=E;exists 2,(bu (gU (jj (fX (fR (dw E) p.t p.G hr.m p.b (bO (aF E) (E.n rfl) (af 0)) (ao (af 1) aD)))) (cQ pS) jz) (bu (gU (FW.ft (lV (Kh (af 1) (bO (aF E) (E.n rfl) (af 0))) (o_ (GR (cH hr) (af 1) (bO (aF E) (E.n rfl) (af 0)))))) (cQ pS) jz) (bu (gU (Kh (af 1) (bO (aF E) (E.n rfl) (af 0))) (cQ (bx (fU 0 (aF E) (E.n rfl) (C6 (bO (aF E) (E.n rfl) (af 0)) (Vv (bO (aF E) (E.n rfl) (af 0)) (af 1)))))) jz) (bu (bx (zY 0 (cH hr) (aF E) (E.n rfl) (af 1) (gZ (ao cJ aD)))) (bu (bx (CU 0 (aF E) (E.n rfl) aA)) (cQ (bx (kD (lR 0 (aF E) q.t q.G hr.m q.b))))))))):z.D 13 "Gate" (inClass (top 46) 2) (dO · (runM 2 2 _)))
abbrev M4:=fO DX
def U5:=wO DX
def DB:=λ(z:Z) (E:En L z/\wK z)=>(by obtain⟨E,p⟩:=E;exists 2,(bu (bx (fU 0 (aF E) (E.n rfl) (gz aD))) (bu (bx (fU 0 (aF E) (E.n rfl) fQ)) (bu (bx (CU 0 (aF E) (E.n rfl) aA)) (cQ (bx (kD (lR 0 (aF E) p.t p.G hr.m p.b))))))):z.D 13 "Gate" (inClass (top 46) 4) (dO · (runM 1 1 _)))
abbrev P4:=fO DB
def VV:=wO DB
def JL:=λ(z:Z) (E:En L z/\wK z)=>(by obtain⟨E,p⟩:=E;exists 2,(bu (bx (fU 0 (aF E) (E.n rfl) fQ)) (cQ (bx (kD (lR 0 (aF E) p.t p.G hr.m p.b))))):z.D 13 "Gate" (inClass (top 46) 5) (dO · (runM 1 1 _)))
abbrev QK:=fO JL
def VY:=wO JL
def IX:=λ(z:Z) (E:En L z/\aep z/\abV z/\uY z/\JA z/\uh z/\U5 z/\VV z/\VY z)=>(by obtain⟨E,p,q,u,v,y,g,h,j⟩:=E;exists 6,[3,4,5],["_law_gate","_law_values","_law_specs"],(bu (gU (gC (af 2) cJ) (bu (bx (Vg 5 (LX [4] [none,none,some 4,none] p.G hr.m p.m p.kp p.b (pq (af 0) (pq (af 1) (sF 4 (pq (eU (E.b rfl) (af 5)) Fw))))))) (cQ (bx (kD (FY.fz (yV 3 (aF E) q.t q.G hr.m q.b (ao (qq (tW (af 5) (z_ aA)) aA) (ao (jY (E.b rfl) (qq (tW (af 5) (z_ aA)) aA)) (ao (jY (E.b rfl) (qq (tW (af 5) (z_ aA)) aA)) aD))))))))) (cQ (gU (gC (af 2) cJ) (bu (bx (bz 6 (lZ (ck (aF E) u.t u.G hr.m u.b (af 3)) (ck (aF E) v.t v.G hr.m v.b (af 3))) nd)) (bu (bx (bz 7 (ez (af 6) (bB y.G hr.m y.m y.kp y.b (ao (af 0) (ao (af 1) (ao aA (ao (eU (E.b rfl) (af 6)) aD)))))) nd)) (bu (bx (kD (FY.fz (yV 3 (aF E) g.t g.G hr.m g.b (ao (af 7) aD))))) (cQ (NW 7))))) (cQ (bx (bU (gC (af 2) cJ) (aH (kD (lR 3 (aF E) h.t h.G hr.m h.b))) (aH (kD (lR 3 (aF E) j.t j.G hr.m j.b))))))))) (cQ (pU aA))):z.D 14 Str.empty (top 63) (n6 [3,4,5] · (nu [3,4,5] 6 8 _)))
abbrev aaF:=fJ IX
def acZ:=wJ IX
def El:=λ(z:Z) (E:En L z)=>(by exists 1,(aH (aT (jY (E.b rfl) (bO (aF E) (E.n rfl) (af 0))))):z.D 1 "Gate" (inClass (top 46) 6) (bq · (bG 1 1 _)))
abbrev Gj:=fF El
def Jb:=wG El
def Gg:=λ(z:Z) (E:En L z)=>(by exists 1,(aH (aT (gX (M:=["number","self"]) (js:=[none,some 0]) (f6 rfl (by kernel_rfl)) rfl (dg (qd rfl (E.b rfl) (bO (aF E) (E.n rfl) (af 0)))) (by decide) λs3 H3 fp=>⟨(bC 0 (aaC rfl)),j7,(gZ (ao (af 0) (ao (tQ (cH hr) (bO (aF E) (E.n rfl) (af 1)) (af 0)) aD)))⟩))):z.D 1 "Gate" (inClass (top 46) 9) (bq · (bG 1 1 _)))
abbrev rQ:=fF Gg
def ET:=wG Gg
def EI:=λ(z:Z) (E:En L z)=>(by exists 1,(aM (bz 2 xW nd) (aM (g8 rfl (dg (af 1)) (bC 3 nd) (aH (g8 rfl (dg (qq (tW (af 0) (oA (af 3) aA)) aA)) (m9 rfl (fB (bC 4 nd) (fB (bC 5 nd) (fB (bC 6 nd) mZ)))) (aH (zE 2 (cH hr) (af 4) (af 6)))))) (aH (oG 2)))):z.D 1 Str.empty (top 55) (bq · (bG 2 7 _)))
abbrev M7:=fF EI
def R_:=wF EI
def EA:=λ(z:Z) (E:En L z/\Jb z/\JA z/\uY z/\ET z/\R_ z/\Mb z)=>(by obtain⟨E,p,q,u,v,y,g⟩:=E;exists 1,(aM (bz 2 (lZ (lZ (lZ (ck (aF E) p.t p.G hr.m p.b (af 0)) (ck (aF E) q.t q.G hr.m q.b (af 0))) (ck (aF E) u.t u.G hr.m u.b (af 0))) (gX (M:=["_law_one"]) (js:=[none]) (f6 rfl (by kernel_rfl)) rfl (dg (ck (aF E) v.t v.G hr.m v.b (af 0))) (by decide) λs3 H3 fp=>⟨(bC 0 (aaC rfl)),j7,(ez (af 0) aA)⟩)) nd) (aM (bU (FW.ft (lV (jW (jq hr (E.b rfl) (qd rfl (E.b rfl) (af 2))) (jq hr (E.b rfl) (gX (M:=["_law_k"]) (js:=[none]) (f6 rfl (by kernel_rfl)) rfl (G2 (E.b rfl) (eU (E.b rfl) (af 1))) (by decide) λs3 H3 fp=>⟨(bC 0 (aaC rfl)),j7,(gh (af 0) aA)⟩))) (o_ (xQ hr.units (ck (aF E) u.t u.G hr.m u.b (af 0)) (qd rfl (E.b rfl) (ck (aF E) u.t u.G hr.m u.b (af 0))))))) (aH (aT fQ)) b8) (aM (bU (xQ hr.units (gX (M:=["_law_one"]) (js:=[none]) (f6 rfl (by kernel_rfl)) rfl (dg (ck (aF E) v.t v.G hr.m v.b (af 0))) (by decide) λs3 H3 fp=>⟨(bC 0 (aaC rfl)),j7,(ez (af 0) aA)⟩) (qd rfl (E.b rfl) (gX (M:=["_law_one"]) (js:=[none]) (f6 rfl (by kernel_rfl)) rfl (dg (ck (aF E) v.t v.G hr.m v.b (af 0))) (by decide) λs3 H3 fp=>⟨(bC 0 (aaC rfl)),j7,(ez (af 0) aA)⟩))) (aH (aT fQ)) b8) (aM (bz 3 (bB y.G hr.m y.m y.kp y.b (ao (af 1) (ao (ck (aF E) p.t p.G hr.m p.b (af 0)) aD))) nd) (aH (aT (sN (jq hr (E.b rfl) (ck (aF E) g.t g.G hr.m g.b (af 0))) (jq hr (E.b rfl) (gX (M:=["_law_slot","_law_values"]) (js:=[none,some 3]) (f6 rfl (by kernel_rfl)) rfl (dg (qd rfl (E.b rfl) (af 3))) (by decide) λs3 H3 fp=>⟨(bC 0 (aaC rfl)),(mC (xH (tQ (cH hr) (af 1) (af 0)) aA)),(gZ (ao (af 0) (ao (tQ (cH hr) (af 1) (af 0)) aD)))⟩))))))))):z.D 7 Str.empty (top 60) (bq · (bG 2 4 _)))
abbrev Ny:=fF EA
def YN:=wF EA
def DC:=λ(z:Z) (E:En L z)=>(by exists 1,(aM (bU (FW.ft (lV (jW (eU (E.b rfl) (af 1)) aA) (lV (Ff (ez (af 1) aA) (af 0)) (o_ (Cp (cH hr) (ez (af 1) aA) (af 2)))))) (aH (aT fQ)) b8) (aH (aT (sN (eU (E.b rfl) (gX (M:=["_law_lean","_law_outs","_law_ground"]) (js:=[none,some 3,some 1]) (f6 rfl (by kernel_rfl)) rfl (dg (af 0)) (by decide) λs3 H3 fp=>⟨(bC 0 (aaC rfl)),(mC (FW.ft (kH (GR (cH hr) (af 0) (af 1)) (lS (m5 (af 0) (ez (af 2) aA)))))),(af 0)⟩)) aA)))):z.D 1 Str.empty (top 57) (bq · (bG 4 4 _)))
abbrev JE:=fF DC
def aeh:=wF DC
def EZ:=λ(z:Z) (E:En L z)=>(by exists 1,(aM (g8 rfl (dg (qq (tW (af 0) (oA (af 1) aA)) aA)) (m9 rfl (fB (bC 3 nd) (fB (bC 4 nd) (fB (bC 5 nd) mZ)))) (aH (bU (jW (IU (cH hr) (af 2) (af 3) aA) (af 4)) (aH (oG 3)) b8))) (aH (aT mT))):z.D 1 Str.empty (top 56) (bq · (bG 3 6 _)))
abbrev GS:=fF EZ
def acL:=wF EZ
def E2:=λ(z:Z) (E:En L z/\acL z/\R_ z)=>(by obtain⟨E,p,q⟩:=E;exists 1,(aM (bU (FW.ft (lV (jj (fX (afD Z0 U7 (E.b rfl) (E.b rfl) (af 1)))) (o_ (gC (eU (E.b rfl) (af 1)) aA)))) (aH (aT fQ)) b8) (aM (bU (gC (ez (af 1) aA) cJ) (aM (bz 5 (bB p.G hr.m p.m p.kp p.b (ao (af 2) (ao (af 0) (ao (bB q.G hr.m q.m q.kp q.b (ao (af 2) (ao (af 3) aD))) aD)))) nd) (aM (yi 6 (hN:=nd) (M:=["_law_lean","_law_line"]) (js:=[none,some 3]) (f6 rfl (by kernel_rfl)) rfl (dg (qq (tW (af 2) (oA (af 0) aA)) aA)) (by decide) λs3 H3 fp=>⟨(bC 0 (aaC rfl)),(mC (Ff (af 0) (af 1))),(af 0)⟩) (aH (aT (nJ (acF (af 5) mT) (nJ (abf hr.units (af 6) (gz aD)) (qE (sN (jq hr (E.b rfl) (af 1)) (jq hr (E.b rfl) (gZ (ao cJ (ao (af 5) aD)))))))))))) b8) (aM (bU (jW (eU (E.b rfl) (af 1)) aA) (aH (aT fQ)) b8) (aM (bz 7 (ez (af 1) aA) nd) (aM (bz 8 (UG (sO (E.b rfl) (af 3)) (gZ (ao (af 0) aD))) nd) (aM (bU (FW.ft (lV (jW (jq hr (E.b rfl) (af 7)) (jq hr (E.b rfl) (sO (E.b rfl) (af 3)))) (o_ (FW.ft (kH (xH (eU (E.b rfl) (af 3)) aA) (lS (xQ hr.units (Qw (cH hr) (E.ni rfl) (af 4) (af 7)) cJ))))))) (aH (aT fQ)) b8) (aH (aT (nJ (YD (Qw (cH hr) (E.ni rfl) (af 4) (af 8)) (gZ (ao cJ (ao cJ aD)))) (qE (sN (jq hr (E.b rfl) (af 1)) (jq hr (E.b rfl) (gZ (ao cJ (ao (af 7) (ao (af 8) (ao (JU (cH hr) (af 4) (af 8) (by exact λ_ _=>rfl)) aD))))))))))))))))):z.D 2 Str.empty (top 58) (bq · (bG 5 9 _)))
abbrev Cv:=fF E2
def Za:=wF E2
def HL:=λ(z:Z) (E:En L z/\Jb z/\ET z/\aeh z/\Za z)=>(by obtain⟨E,p,q,u,v⟩:=E;exists 1,(aM (bz 5 (ck (aF E) p.t p.G hr.m p.b (af 0)) nd) (aM (bz 6 (vJ rfl (E.b rfl) (ck (aF E) q.t q.G hr.m q.b (af 0))) nd) (aM (g8 rfl (dg (qd rfl (E.b rfl) (af 2))) (bC 7 nd) (aH (bU (jW (jq hr (E.b rfl) (acg (cH hr) (af 6) (af 7))) (jq hr (E.b rfl) (tQ (cH hr) (af 2) (af 7)))) (aH (aT fQ)) b8))) (aM (g8 rfl (dg (ck (aF E) q.t q.G hr.m q.b (af 0))) (m9 rfl (fB (bC 7 nd) (fB (bC 8 nd) mZ))) (aH (bU (FW.ft (kH (Cp (cH hr) (af 7) (af 2)) (lS (gC (af 7) (af 4))))) (aH (bU (jW (jq hr (E.b rfl) (af 8)) (jq hr (E.b rfl) (gZ (ao cJ aD)))) (aH (aT fQ)) b8)) (aH (bU (FW.ft (kH (Cp (cH hr) (af 7) (af 2)) (lS (gC (ez (af 8) aA) cJ)))) (aH (bU (jj (fX (bB u.G hr.m u.m u.kp u.b (ao (qq (tW (af 1) (oA (af 7) aA)) aA) (ao (af 8) (ao (af 6) (ao (af 2) aD))))))) (aH (aT fQ)) b8)) (aH (bU (FW.ft (kH (Cp (cH hr) (af 7) (af 2)) (lS (jj (fX (bB v.G hr.m v.m v.kp v.b (ao (af 7) (ao (af 8) (ao (af 1) (ao (af 5) (ao (af 3) aD))))))))))) (aH (aT fQ)) b8))))))) (aH (aT (V0 (sN (af 4) aA) (qE (KS (cH hr) (af 4) (af 6)))))))))):z.D 3 Str.empty (top 59) (bq · (bG 5 9 _)))
abbrev N9:=fF HL
def adF:=wF HL
def HG:=λ(z:Z) (E:En L z/\Qz z)=>(by obtain⟨E,p⟩:=E;exists 1,(aM (bz 1 (P8 (dw E).ns p.M p.G hr.m (E.m rfl) p.b) nd) (aM (V3 1 (dw E) (E.n rfl) (bO (dw E) (E.n rfl) (af 0))) (aH (oG 1)))):z.D 3 "Changes" (inClass (top 25) 8) (bq · (bG 1 2 _)))
abbrev UE:=fF HG
def TM:=wG HG
def J_:=λ(z:Z) (E:En L z/\TM z)=>(by obtain⟨E,p⟩:=E;exists 1,(aH (aT (ck (dw E) p.t p.G hr.m p.b (bO (aF E) (E.n rfl) (af 0))))):z.D 4 "Gate" (inClass (top 46) 17) (bq · (bG 1 1 _)))
abbrev XW:=fF J_
def Xz:=wG J_
def DT:=λ(z:Z) (E:En L z/\Xz z/\AM z/\zG z/\Gv z/\Rj z/\NC z)=>(by obtain⟨E,p,q,u,v,y,g⟩:=E;exists 1,(aM (bz 2 (ck (aF E) p.t p.G hr.m p.b (af 0)) nd) (aM (bU (jW (ck (dw E) q.t q.G hr.m q.b (af 2)) (eU (E.b rfl) (af 1))) (aH (aT fQ)) b8) (aM (g8 rfl (aa0 (E.b rfl) (af 1)) (VC 3 4 rfl nd) (aM (bz 5 (gZ (ao (fR (dw E) y.t y.G hr.m y.b (af 2) (ao (gh (af 3) aA) aD)) (ao (fR (dw E) v.t v.G hr.m v.b (af 2) (ao (gh (af 3) aA) aD)) (ao (fR (dw E) u.t u.G hr.m u.b (af 2) (ao (gh (af 3) aA) aD)) aD)))) nd) (aH (bU (jW (jq hr (E.b rfl) (af 5)) (jq hr (E.b rfl) (af 4))) (aH (aT fQ)) b8)))) (aM (bU (m5 (eU (E.b rfl) (af 1)) aA) (aH (kD (FY.fz (yV 2 (dw E) g.t g.G hr.m g.b (ao aA (ao (gz aD) (ao (gz aD) aD))))))) b8) (aH (aT (sN (ck (dw E) q.t q.G hr.m q.b (ck (aF E) p.t p.G hr.m p.b (af 0))) (eU (E.b rfl) (af 1))))))))):z.D 5 Str.empty (top 61) (bq · (bG 2 6 _)))
abbrev Q_:=fF DT
def Z2:=wF DT
def o_law:=λ(z:Z) (E:En L z/\Vk z/\aeP z/\aeq z/\uY z/\JA z/\LQ z/\WG z/\U3 z/\acZ z/\YN z/\Jb z/\adF z/\ET z/\Z2 z)=>(by obtain⟨E,p,q,u,v,y,g,h,j,l,m,a0,a1,a2,a3⟩:=E;exists 1,(aM (bz 1 (bB p.G hr.m p.m p.kp p.b (ao (af 0) (ao aA aD))) nd) (aM (bz 2 (Mt (aF E).ns q.M q.G hr.m (E.m rfl) q.b (ao (ez (af 1) aA) (ao (ez (af 1) aA) (ao (ez (af 1) aA) (ao (ez (af 1) aA) aD))))) nd) (aM (bz 3 (gz aD) nd) (aM (bz 4 xW nd) (aM (bz 5 Ep nd) (aM (bz 6 Ep nd) (aM (bz 7 xW nd) (aM (bz 8 (gz aD) nd) (aM (g8 rfl (G2 (E.b rfl) (RP rfl (E.b rfl) aA (eU (E.b rfl) (af 0)))) (bC 9 nd) (aM (bz 10 (bB u.G hr.m u.m u.kp u.b (ao (af 0) (ao (af 9) (ao (ck (aF E) h.t h.G hr.m h.b (af 2)) (ao (ck (aF E) g.t g.G hr.m g.b (af 2)) (ao (lZ (ck (aF E) v.t v.G hr.m v.b (af 2)) (ck (aF E) y.t y.G hr.m y.b (af 2))) aD)))))) nd) (aM (bz 11 aA nd) (aM (bU (gC (af 10) cJ) (aH (aem (YO (FK.fz (Nx [2,5,6] [none,none,some 2,some 5,some 6,none] j.G hr.m j.m j.kp j.b (pq (af 0) (pq (af 9) (sF 2 (sF 5 (sF 6 (pq (af 1) Fw))))))))) (aH (aT fQ)) b8)) (aH (LI 11 (LX [2,4,3] [none,none,none,some 2,some 4,some 3] l.G hr.m l.m l.kp l.b (pq (af 0) (pq (af 9) (pq (af 10) (sF 2 (sF 4 (sF 3 Fw))))))) nd))) (aM (bU (FW.ft (lV (xQ hr.units (C6 (ck (aF E) a0.t a0.G hr.m a0.b (af 2)) (eU (E.b rfl) (af 8))) (af 8)) (o_ (jj (fX (bB m.G hr.m m.m m.kp m.b (ao (af 2) (ao (af 3) aD)))))))) (aH (aT fQ)) b8) (aM (bU (jj (fX (bB a1.G hr.m a1.m a1.kp a1.b (ao (af 2) (ao (af 3) (ao (af 7) (ao (af 6) (ao (af 11) aD)))))))) (aH (aT fQ)) b8) (aM (bz 8 (ck (aF E) a0.t a0.G hr.m a0.b (af 2)) nd) (aH (bz 7 (vJ rfl (E.b rfl) (ck (aF E) a2.t a2.G hr.m a2.b (af 2))) nd))))))))) (aH (aT (bB a3.G hr.m a3.m a3.kp a3.b (ao (af 2) (ao (af 3) aD)))))))))))))):z.D 15 Str.empty (top 64) (bq · (bG 1 12 _)))
abbrev zS:=fF o_law
end K91
namespace K91
open PySem L2 L2.Ev
theorem cC(h:f ρ=some (d,.own)):o8 f ρ=some (.rt d):=by rw[Bk,h];rfl
theorem Ai:n5 [.int v,.int a,.int b]=some (.bl (decide (a<=v)&&decide (v<=b))):=by
 refine bY rfl (cC ?_);show(match some (D.bl (decide (a<=v))) with|some (.bl true)=>some (D.bl (decide (v<=b)),Tag.own)|some (.bl false)=>some (.bl false,.own)|_=>none)=_;cases decide (a<=v)<;>rfl
noncomputable def iL(l:List Int):D:=.lst (l.map D.int)
noncomputable abbrev Ed:=Int×Int×Int
noncomputable def dT(p:Ed):D:=.tup [.int p.1,.int p.2.1,.int p.2.2]
def eL(E:List Ed):D:=.lst (E.map dT)
theorem xC:∀E:List Ed,aL (E.map dT)=true
 |[]=>rfl
 |p::r=>by rw[aao];unfold aL;rw[xC r];rfl
theorem My:∀bs:List Bool,mV (bs.map D.bl)=some bs
 |[]=>rfl
 |b::r=>by rw[aao];unfold mV;rw[My r];rfl
theorem Ld{bs:List Bool}:yE (.lst (bs.map D.bl))=some (.bl (bs.all id)):=by
 show(mV (bs.map D.bl)).map (λbs=>D.bl (bs.all id))=_;rw[My];rfl
theorem l6{α β:Type}(f:α->β):∀l:List α,l.filterMap (λx=>some (f x))=l.map f
 |[]=>rfl
 |a::l=>by rw[aeD,aao];show _::_=_;rw[l6 f l]
abbrev g2:GF:=gT (cR (gN 0) (cR (gN 1) jB))
theorem size_le{n:Nat}(h:n<=10000):n<sizeLine:=by unfold sizeLine;lia
theorem OI{k:Nat}(hk:k<=ds.length):cutD ds (some (k:Int)) none=ds.drop k:=by
 unfold cutD;rw[HT.JO,HT.J8,Nat.min_eq_left hk,List.take_of_length_le (by rw[List.length_drop];exact abL _)]
theorem Jk{k:Nat}(hk:k<=ds.length):cutD ds none (some (k:Int))=ds.take k:=by
 unfold cutD;rw[HT.JO,HT.J8,Nat.min_eq_left hk];rfl
theorem acP{ds:List D}:cutD ds (some 1) none=ds.drop 1:=by
 cases ds with
 |nil=>rfl
 |cons a r=>exact OI (by simp)
noncomputable def p_:List Int->Bool
 |x::y::r=>decide (x<y)&&p_ (y::r)
 |_=>true
theorem NV:∀l:List Int,((l.zip (l.drop 1)).map λp=>decide (p.1<p.2)).all id=p_ l
 |[]=>rfl
 |[_]=>rfl
 |x::y::r=>by
  have ih:=NV (y::r);show(decide (x<y)&&(((y::r).zip ((y::r).drop 1)).map λp=>decide (p.1<p.2)).all id)=_;rw[ih];rfl
theorem HE:∀{l},l.Pairwise (· < ·)->p_ l=true
 |[],_=>rfl
 |[_],_=>rfl
 |x::y::r,h=>by
  obtain⟨h1,h2⟩:=adS.mp h;show(decide (x<y)&&p_ (y::r))=true;rw[HE h2,aaq (h1 y aad)];rfl
theorem OW{l:List Int}(hl:l.length<=100):UA [iL l]=some (.bl (p_ l)):=by
 have q1:e1 (oO (some 1) none) (aj 0) [some (iL l,.sh [])]=some (iL (l.drop 1),.own):=bA rfl (by
  show(if aL (l.map D.int)=true then some (D.lst (cutD (l.map D.int) (some 1) none)) else none)=_;rw[if_pos (e_ l),acP,<- List.map_drop];rfl)
 have hz:qz (aj 0) (e1 (oO (some 1) none) (aj 0)) [some (iL l,.sh [])]=some (((l.zip (l.drop 1)).map λp=>D.tup [.int p.1,.int p.2]),jK [(iL l,.sh []),(iL (l.drop 1),.own)]):=by
  unfold qz;rw[q1];show(if(aL (l.map D.int)&&aL ((l.drop 1).map D.int))=true then some (((l.map D.int).zip ((l.drop 1).map D.int)).map λp=>D.tup [p.1,p.2],jK [(iL l,.sh []),(iL (l.drop 1),.own)]) else none)=_;rw[if_pos (by rw[e_,e_];rfl),List.zip_map,ade];rfl
 refine bY rfl (cC (bA (ji (k:=λd=>match d with | .tup [.int a,.int b]=>some (.bl (decide (a < b))) | _=>none) hz (by rw[List.length_map,List.length_zip];exact size_le (by lia)) (λd m=>by
  obtain⟨⟨a,b⟩,mi,rfl⟩:=abY.mp m;exact mX rfl rfl (aG rfl rfl vN))) ?_))
 rw[afc,<- NV,<- Ld,ade];exact congrArg (λz=>yE (.lst z)) (l6 (λp:Int×Int=>D.bl (decide (p.1<p.2))) _)
theorem tF(hi:it ρ=some (ds,.sh []))(h:cz g (.sh []) f ds ρ=some (.nx ρ')):iR it g f ρ=some (.nx ρ'):=tN hi h
theorem Ss(hi:it ρ=some (ds,.sh []))(h:cz g (.sh []) f ds ρ=some (.rt r)):iR it g f ρ=some (.rt r):=CA hi h
noncomputable def inR(v a b:Int):Bool:=decide (a<=v)&&decide (v<=b)
def qx(p:Ed):Bool:=inR p.1 0 999&&inR p.2.1 0 1000000000&&inR p.2.2 0 1000000000&&!(p.2.1==p.2.2)
def uQ(E:List Ed):Bool:=E.all qx&&p_ (E.map (·.1))
abbrev gE:GF:=gT (cR (gN 1) (cR (gN 2) (cR (gN 3) jB)))
def bE:SF:=(cu (fN (nW (iK (tV (cP n5 (au (aj 1) (au (eC (.int 0)) (au (eC (.int 999)) aE))))) (tV (cP n5 (au (aj 2) (au (eC (.int 0)) (au (eC (.int 1000000000)) aE))))))) (o8 (eC (.bl false))) g9) (fN (lT (nW (tV (cP n5 (au (aj 3) (au (eC (.int 0)) (au (eC (.int 1000000000)) aE)))))) (tV (e2 oEq (aj 2) (aj 3)))) (o8 (eC (.bl false))) g9))
theorem xE(h:aj i ρ=some (.int v,t)):tV (cP n5 (au (aj i) (au (eC (.int a)) (au (eC (.int b)) aE)))) ρ=some (inR v a b):=
 a_ (cL (ps:=[(.int v,t),(.int a,.own),(.int b,.own)]) (by rw[aR,h];rfl) Ai)
def rE(L:D)(a b c:Int):aO:=[some (L,.sh []),some (.int a,.own),some (.int b,.own),some (.int c,.own)]
theorem Yr{L:D}{a b c:Int}:bE (rE L a b c)=some (if qx (a,b,c)=true then .nx (rE L a b c) else .rt (.bl false)):=by
 have w1:tV (cP n5 (au (aj 1) (au (eC (.int 0)) (au (eC (.int 999)) aE)))) (rE L a b c)=some (inR a 0 999):=xE rfl;have w2:tV (cP n5 (au (aj 2) (au (eC (.int 0)) (au (eC (.int 1000000000)) aE)))) (rE L a b c)=some (inR b 0 1000000000):=xE rfl;have w3:tV (cP n5 (au (aj 3) (au (eC (.int 0)) (au (eC (.int 1000000000)) aE)))) (rE L a b c)=some (inR c 0 1000000000):=xE rfl;have w4:tV (e2 oEq (aj 2) (aj 3)) (rE L a b c)=some (b==c):=rfl;have c1:=sD w1 w2;have c2:=BN (show nW (tV (cP n5 (au (aj 3) (au (eC (.int 0)) (au (eC (.int 1000000000)) aE))))) (rE L a b c)=some (!inR c 0 1000000000) by rw[CL,w3];rfl) w4;unfold bE qx;rw[j0,jn,CL,c1];cases inR a 0 999<;>cases inR b 0 1000000000<;>try rfl
 show CI _ (g9 _)=_;rw[abv,pX,jn,c2];cases inR c 0 1000000000<;>cases(b==c)<;>rfl
theorem Kc{L:D}:∀{E:List Ed} {s1 s2 s3},∃qB Io yR,cz gE (.sh []) bE (E.map dT) [some (L,.sh []),s1,s2,s3]=some (if E.all qx=true then .nx [some (L,.sh []),qB,Io,yR] else .rt (.bl false))
 |[],s1,s2,s3=>⟨s1,s2,s3,rfl⟩
 |(a,b,c)::E,s1,s2,s3=>by
  obtain⟨t1,t2,t3,ih⟩:=Kc;refine⟨t1,t2,t3,?_⟩;rw[aao];show(match bE (rE L a b c) with|some (.nx aY)=>cz gE (.sh []) bE (E.map dT) aY|some (.ct aY)=>cz gE (.sh []) bE (E.map dT) aY|some (.bk aY)=>some (.nx aY)|some (.rt r)=>some (.rt r)|some (.er raw cn aY)=>some (.er raw cn aY)|none=>none)=_;rw[Yr,ag2];cases qx (a,b,c) with
  |true=>rw[if_pos rfl,Bool.true_and];exact ih
  |false=>rfl
theorem fG(h:sf ρ=some (.rt d)):cu sf sg ρ=some (.rt d):=by rw[j0,h];rfl
theorem OD{js:List (Option Nat)}{it:IF}{g:GF}{te:EF}{ρ:aO}{t:Tag}{l:List Int}{p:Int->Bool}(hi:it ρ=some (l.map D.int,t))(hl:l.length<=10000)(h:∀x∈l,jv g k7 te (ja js ρ) (.int x)=some (some (.bl (p x)))):
  e1 yE (gR js it g k7 te) ρ=some (.bl (l.all p),.own):=by
 have hc:=ji (k:=λd=>match d with | .int x=>some (.bl (p x)) | _=>none) hi (by rw[List.length_map];exact size_le hl) (λd m=>by
  exists 52;exact h x mx)
 rw[yM,hc,Nb,afc];have e:l.filterMap ((λd=>match d with|D.int x=>some (D.bl (p x))|_=>none) ∘ D.int)=(l.map p).map D.bl:=by
  rw[ade];exact l6 (λx=>D.bl (p x)) _
 rw[e,Ld,agY];rfl
theorem f_are{E:List Ed}(hl:E.length<=100):Xm [eL E]=some (.bl (uQ E)):=by
 obtain⟨t1,t2,t3,uB⟩:=Kc;refine bY rfl ?_;unfold uQ;cases ha:E.all qx with
 |false=>
  rw[ha] at uB;exact fG (Ss rfl uB)
 |true=>
  rw[ha] at uB;refine sq (tF rfl uB) (cC (cL (ps:=[(iL (E.map λp:Ed=>p.1),.own)]) ?_ (OW (by rw[List.length_map];exact hl))));rw[aR,ji (k:=λd=>match d with | .tup [.int a,.int _,.int _]=>some (.int a) | _=>none) rfl (by rw[List.length_map];exact size_le (by lia)) (λd m=>by
   obtain⟨⟨a,b,c⟩,mi,rfl⟩:=abY.mp m;exact mX rfl rfl rfl),afc]
  unfold iL;rw[ade,show E.filterMap ((λd=>match d with|D.tup [.int a,.int _,.int _]=>some (D.int a)|_=>none) ∘ dT)=E.map (D.int ∘ (·.1)) from l6 (λp:Ed=>D.int p.1) _];rfl
abbrev Ch:=Int×List Int×List Ed
def ent(c:Ch):D:=.tup [.int c.1,.tup (c.2.1.map D.int),.tup (c.2.2.map dT)]
def obj(C:List Ch):D:=.ins "Changes" [("entries",.lst (C.map ent))]
theorem JB(c:Ch):aB (ent c)=true:=by
 unfold ent;show aL [.int c.1,.tup (c.2.1.map D.int),.tup (c.2.2.map dT)]=true;unfold aL;unfold aL;unfold aL;unfold aL;show(aB (.int c.1)&&(aL (c.2.1.map D.int)&&(aL (c.2.2.map dT)&&true)))=true;rw[e_,xC];rfl
theorem C_:∀C:List Ch,aL (C.map ent)=true
 |[]=>rfl
 |c::r=>by rw[aao];unfold aL;rw[C_ r,JB];rfl
theorem lA{F:List D->Option D}{ps:List (D×Tag)}(h:fo ρ=some (.ins cn es,t))(hm:es.lookup m=none)(hg:g ρ=some ps)(hF:F (.ins cn es::ps.map (·.1))=some d):
  bP cn m F fo g ρ=some (d,.own):=by
 unfold bP;rw[h];dsimp only;rw[if_pos ⟨rfl,hm⟩,hg,ac0,hF];rfl
theorem Bg(h:(mm==("entries":Str))=false):([("entries",d)]:List (Str×D)).lookup mm=none:=by simp only[List.lookup,h]
theorem Bt(C:List Ch):BG [obj C]=some (.int C.length):=bY rfl (cC (bA rfl (by rw[vo,List.length_map])))
theorem Hl(h:aj i ρ=some (obj C,t)):bP "Changes" "many" BG (aj i) aE ρ=some (.int C.length,.own):=
 lA h (Bg (by decide)) xX (Bt C)
theorem ki{F:List D->Option D}(h:aj i ρ=some (obj C,t))(ha:fa ρ=some (x,t2))(hF:F [obj C,x]=some d)(hm:(mm==("entries":Str))=false:=by decide):
  bP "Changes" mm F (aj i) (au fa aE) ρ=some (d,.own):=
 lA (ps:=[(x,t2)]) h (Bg hm) (by rw[aR,ha,xX,Af]) hF
theorem H_(C:List Ch)(m:Int):Ej [obj C,.int m]=some (.bl (inR m 1 C.length)):=
 bY rfl (cC (cL (ps:=[(.int m,.sh []),(.int 1,.own),(.int C.length,.own)]) (by rw[aR,aR,aR,Hl rfl];rfl) Ai))
def sE(n:Nat)(r:Int)(l:List Int)(E:List Ed):Bool:=inR r 0 9&&(l.all (λx=>inR x 1 n)&&p_ l)&&(decide ((E.length:Int)<=20)&&uQ E)
theorem qX(h1:fa ρ=some (.bl b,t))(h2:fb ρ=some (.bl c,.own)):zO fa fb ρ=some (.bl (b&&c),.own):=by
 rw[ZW,h1];cases b
 .rfl
 .exact h2
theorem ads{C:List Ch}{r:Int}{l:List Int}{E:List Ed}(hl:l.length<=100)(hE:E.length<=100):afx [obj C,.int r,iL l,eL E]=some (.bl (sE C.length r l E)):=by
 have q1:=kN (xE (ρ:=[some (obj C,.sh []),some (.int r,.sh []),some (iL l,.sh []),some (eL E,.sh [])]) (i:=1) (a:=0) (b:=9) rfl);have q2:=BN (kN (a_ (OD (js:=[none,some 0]) (it:=d7 (aj 2)) (g:=gN 0) (te:=bP "Changes" "has" Ej (aj 1) (au (aj 0) aE)) (ρ:=[some (obj C,.sh []),some (.int r,.sh []),some (iL l,.sh []),some (eL E,.sh [])]) (fZ rfl) (by lia) (λx mx=>mX rfl rfl (ki rfl rfl (H_ C x)))))) (kN (a_ (cL (g:=au (aj 2) aE) rfl (OW hl))));refine bY rfl ?_;unfold sE;cases h0:inR r 0 9 with
 |false=>rw[h0] at q1;exact qo q1 (fG rfl)
 |true=>
  rw[h0] at q1;refine cK q1 ?_;cases h1:l.all λx=>inR x 1 C.length with
  |false=>rw[h1] at q2;exact qo q2 (fG rfl)
  |true=>
   cases h2:p_ l with
   |false=>rw[h1,h2] at q2;exact qo q2 (fG rfl)
   |true=>
    rw[h1,h2] at q2;exact cK q2 (cC (qX (c:=uQ E) (aG (bA rfl (by unfold eL;rw[vo,List.length_map])) rfl abh) (cL rfl (f_are hE))))
theorem A5(h1:fv ρ=some (d,t))(h2:ρ[i]? = some (some (.ins cn es,.own)))(hl:es.lookup f=some (.lst ds))(hc:(aB d&&aL ds&&decide (ds.length<sizeLine))=true):
  By i cn f fv ρ=some (.nx (bQ ρ i (.ins cn (dY f (.lst (ds++[d])) es)))):=by
 unfold By;rw[h1,h2];dsimp only;rw[if_pos rfl,hl];dsimp only;rw[if_pos hc]
theorem gu(h:f ρ=some (.nx ρ')):jI f ρ=some (.nx ρ'):=by unfold jI;rw[h]
theorem lM(hl:ds.length+1=n)(h:b (Bb N d0 ds)=some (.rt (.tup [r,d1]))):runM n N b d0 ds=some (r,d1):=by unfold runM;rw[if_pos hl,h]
theorem Mr{C:List Ch}{r:Int}{l:List Int}{E:List Ed}(hl:l.length<=100)(hE:E.length<=100)(hm:sE C.length r l E=true)(hC:C.length<60):tO (obj C) [.int r,iL l,eL E]=some (.int (C.length+1),obj (C++[(r,l,E)])):=by
 refine lM rfl ?_;refine cK (kN (b:=true) (a_ (lA rfl (Bg (by decide)) rfl ((ads hl hE).trans (by rw[hm]))))) ?_;refine cK (a_ (aG (Hl rfl) rfl (by rw[Ua,ab8 (by lia)]))) ?_;refine sq (ρ':=[some (obj (C++[(r,l,E)]),.own),some (.int r,.sh []),some (iL l,.sh []),some (eL E,.sh [])]) ((gu (A5 (d:=ent (r,l,E)) (t:=.sh []) ?_ rfl rfl (by rw[JB,C_,aaq (by rw[List.length_map];exact size_le (by lia))];rfl))).trans ?_) ?_
 .rw[l7,aR,aR,aR,bA rfl xy,bA (d:=eL E) (t:=.own) ?_ (if_pos (xC E))]
  .rfl
  .refine(ji (fZ rfl) (by rw[List.length_map];exact size_le (by lia)) (λd m=>by
    obtain⟨⟨a,b,c⟩,mx,rfl⟩:=abY.mp m;exact mX rfl rfl rfl)).trans ?_
   rw[l6 (λd:D=>d),List.map_id'];rfl
 .unfold obj;rw[adp];rfl
 .show qD _ _ _=_;unfold qD;rw[Hl rfl,abD];rfl
theorem oY{i:Int}(h1:-1000<=i)(h2:i<=1000):small i=true:=by
 unfold small;rw[aaq (show -(2 ^ 62)<=i by lia),aaq (show i<2 ^ 62 by lia)];rfl
noncomputable def bK(a:Int)(n:Nat):List Int:=(List.range n).map λi:Nat=>a+(i:Int)
theorem eO{a x:Int}{n:Nat}:x∈bK a n↔a<=x/\x<a+n:=by
 unfold bK;rw[abY];constructor
 .rintro⟨i,m,rfl⟩
  have:=agS.mp m
  lia
 .intro h;exact⟨(x-a).toNat,agS.mpr (by lia),by lia⟩
theorem x6(a:Int)(n:Nat):(bK a n).Pairwise (· < ·):=by
 unfold bK;rw[agb];exact List.pairwise_lt_range.imp (λh=>by lia)
theorem Cu(h:f ρ=some (.int i,t))(h2:g ρ=some (.int j,t2))(hi:small i=true)(hj:small j=true):qV f g ρ=some ((bK i (j-i).toNat).map D.int,.own):=by
 unfold qV;rw[h,h2];dsimp only;rw[if_pos (by rw[hi,hj];rfl)];unfold bK;rw[ade];rfl
theorem gU(p:Int->Bool)(f:Int->Int):∀l:List Int,l.filterMap (λx=>if p x=true then some (D.int (f x)) else none)=((l.filter p).map f).map D.int
 |[]=>rfl
 |a::r=>by
  rw[aeD]
  by_cases hp:p a=true
  .rw[List.filter_cons_of_pos hp,if_pos hp,gU p f r];rfl
  .rw[List.filter_cons_of_neg hp,if_neg hp,gU p f r]
theorem Zf{js:List (Option Nat)}{it:IF}{g:GF}{tt:TF}{te:EF}{ρ:aO}{t:Tag}{l:List Int}{p:Int->Bool}{f:Int->Int}(hi:it ρ=some (l.map D.int,t))(hl:l.length<=10000)(h:∀x∈l,jv g tt te (ja js ρ) (.int x)=some (if p x=true then some (.int (f x)) else none)):
  gR js it g tt te ρ=some (iL ((l.filter p).map f),.own):=by
 have hc:=ji (k:=λd=>match d with | .int x=>if p x=true then some (.int (f x)) else none | _=>none) hi (by rw[List.length_map];exact size_le hl) (λd m=>by
  exists 52;exact h x mx)
 rw[hc]
 congr 3
 clear hc h hi hl;rw[afc];exact gU p f l
def lean(L:List (List Int))(m:Int):List Int:=if 1<=m then(L[(m-1).toNat]?).getD [] else[]
noncomputable abbrev sec(C:List Ch):List (List Int):=C.map (·.2.1)
theorem RX{α:Type}{f:α->D}{L:List α}{m:Int}{l:α}(h1:1<=m)(h2:m<=L.length)(h:L[(m-1).toNat]? = some l):cB (L.map f) (m-1)=some (f l):=by
 unfold cB kM;rw[List.length_map];rw[if_pos (by omega),if_pos (by omega),ac0,acn,h];rfl
def ch(L:List Ch)(m:Int):Ch:=(L[(m-1).toNat]?).getD (0,[],[])
theorem A1{L:List Ch}{m:Int}(h1:1<=m)(h2:m<=L.length):L[(m-1).toNat]? = some (ch L m):=by
 unfold ch;rw[aa9 (by lia)];rfl
theorem n9{L:List Ch}{m:Int}(h1:1<=m)(h2:m<=L.length):(ch L m).2.1=lean (sec L) m:=by
 unfold ch lean sec;rw[if_pos h1,acn,aa9 (by lia)];rfl
theorem Jq{L:List Ch}{m:Int}(h1:1<=m)(h2:m<=L.length):ZX [obj L,.int m]=some (ent (ch L m)):=
 bY rfl (cK (kN (b:=true) (a_ (ki rfl rfl ((H_ L m).trans (by unfold inR;rw[aaq h1,aaq h2];rfl))))) (cC (aG rfl rfl (vH (RX h1 h2 (A1 h1 h2)) (JB _)))))
theorem D7{L:List Ch}{m:Int}(h1:1<=m)(h2:m<=L.length):BU [obj L,.int m]=some (iL (lean (sec L) m)):=
 bY rfl (cC (bA (aG (ki rfl rfl (Jq h1 h2)) rfl (if_pos (show aB (D.tup _)=true by simp only[aB,e_]))) (by rw[Qn,n9 h1 h2];rfl)))
def bJ(L:List Ch)(m:Int):List Ed:=(ch L m).2.2
theorem wD{L:List Ch}{m:Int}(h1:1<=m)(h2:m<=L.length):zR [obj L,.int m]=some (eL (bJ L m)):=
 bY rfl (cC (bA (aG (ki rfl rfl (Jq h1 h2)) rfl (if_pos (show aB (D.tup _)=true from xC _))) (if_pos (xC _))))
theorem ID{e:EF}{ρ:aO}{n:Nat}{t:Tag}(h:e ρ=some (.int n,t))(hs:n<=1000):wg e ρ=some ((bK 0 n).map D.int,.own):=by
 rw[S9 h (oY (by lia) (by lia)),Int.toNat_natCast];unfold bK;rw[ade];rfl
theorem zP{l:List Int}:l.any (· == m)=decide (m∈l):=by
 by_cases h:m∈l
 .rw[aaq h];exact adY.mpr ⟨m,h,by simp⟩
 .rw[ab8 h,af9];intro e;obtain⟨y,my,ey⟩:=adY.mp e;exact h (by rw[<- (agF.mp ey)];exact my)
theorem rm:x∈b7 l↔x∈l:=(qI l).mem_iff
structure Du(E:List Ed)(n:Nat):Prop where
 so:(E.map (·.1)).Pairwise (·<=·)
 ln:E.length<=n
theorem A2(h:n<4096):n<sizeLine:=by unfold sizeLine;lia
theorem NJ:∀ps:List (Int×Int×Int),aL (ps.map dT)=true
 |[]=>rfl
 |p::r=>by rw[aao];unfold aL;rw[NJ r];rfl
theorem afl{ps:List (Int×Int×Int)}:pZ (.lst (ps.map dT))=some (.lst (ps.map dT)):=by show(if aL (ps.map dT)=true then some (D.lst (ps.map dT)) else none)=_;rw[if_pos (NJ ps)]
def oi(es:List (Int×Int))(p:Int×Int×Int):Bool:=!((bN es p.1).getD 0==p.2.1)
def bad(es:List (Int×Int))(E:List (Int×Int×Int)):List Int:=(E.filter (oi es)).map (·.1)
noncomputable def mW:List Int->D
 |[]=>.az
 |x::_=>.int x
theorem Wv:∀{x} {l},(x::l).Pairwise (·<=·)->kr (x::l)=x
 |x,l,h=>by
  obtain⟨h1,h2⟩:=Dt (l:=x::l) (by simp);have h3:=h2 x aad;rcases aaA.mp h1 with e|m
  .exact e
  .have:=(adS.mp h).1 _ m;lia
def kW(es:List (Int×Int)):D->Option D
 |.tup [.int a,.int b,.int c]=>if oi es (a,b,c)=true then some (.int a) else none
 |_=>none
theorem aeo:∀p,kW es (dT p)=if oi es p=true then some (D.int p.1) else none
 |(_,_,_)=>rfl
theorem Fv(hE:Du E n)(hn:n<64)(w:List D->D)(hw:d7 (aj 1) [some (aZ es,.sh []),some (w (E.map dT),.sh [])]=some (E.map dT,.sh [])):DJ [aZ es,w (E.map dT)]=some (mW (bad es E)):=by
 have hc:=ji (js:=[none,none,none,some 0]) (g:=gT (cR (gN 0) (cR (gN 1) (cR (gN 2) jB)))) (tt:=tV (e2 iI (e3 lI (aj 3) (aj 0) (eC (.int 0))) (aj 1))) (te:=aj 0) (k:=kW es) hw (by rw[List.length_map];exact A2 (by have:=hE.ln;lia)) (λd m=>by
  obtain⟨⟨a,b,c⟩,mi,rfl⟩:=abY.mp m;show _=some (if oi es (a,b,c)=true then some (D.int a) else none);have ht:(tV (e2 iI (e3 lI (aj 3) (aj 0) (eC (.int 0))) (aj 1))) [some (.int a,.own),some (.int b,.own),some (.int c,.own),some (aZ es,.sh [])]=some (oi es (a,b,c)):=by
   rw[zQ,jN,uX];show Ev.kV (k2 iI ((lI (aZ es) (.int a) (.int 0)).map _) _)=_;rw[Iw];rfl
  by_cases h:oi es (a,b,c)=true
  .rw[if_pos h];exact ur (aQ:=[some (.int a,.own),some (.int b,.own),some (.int c,.own),some (aZ es,.sh [])]) rfl (by rw[ht,h]) rfl rfl
  .rw[if_neg h];exact wC (aQ:=[some (.int a,.own),some (.int b,.own),some (.int c,.own),some (aZ es,.sh [])]) rfl (by rw[ht,af9.mpr h]))
 have hb:(E.map dT).filterMap (kW es)=(bad es E).map D.int:=by
  clear hc hw hE;unfold bad
  induction E with
  |nil=>rfl
  |cons p r ih=>
   rw[aao,aeD,agA,aeo]
   by_cases h:oi es p=true
   .rw[if_pos h,if_pos h];dsimp only;rw[ih];rfl
   .rw[if_neg h,if_neg h];exact ih
 rw[hb] at hc;have hs:(bad es E).Pairwise (·<=·):=by
  unfold bad;have:=hE.so;rw[agb] at this ⊢;exact this.filter _
 refine bY rfl (cC (aG hc rfl ?_));show(match eN ((bad es E).map D.int) with|some []=>if aB .az=true then some D.az else none|some (n::r)=>some (D.int (kr (n::r)))|none=>none)=_;rw[uv];cases e:bad es E with
 |nil=>rfl
 |cons x l=>
  dsimp only;rw[Wv (by rw[<- e];exact hs)];rfl
def o7(es:List (Int×Int)):List Int:=(b7 (es.map (·.1))).filter λk=>!((bN es k).getD 0==0)
def nz(es:List (Int×Int)):List (Int×Int):=(o7 es).map λk=>(k,(bN es k).getD 0)
def kS(es:List (Int×Int)):D->Option D
 |.int i=>if(!((bN es i).getD 0==0))=true then some (dP (i,(bN es i).getD 0)) else none
 |_=>none
theorem aaK(hl:es.length<64):YR [aZ es]=some (.lst ((nz es).map dP)):=by
 have hs:(e1 i7 (aj 0)) [some (aZ es,.sh [])]=some (.lst ((b7 (es.map (·.1))).map D.int),.own):=by
  rw[yM];show(i7 (aZ es)).map _=_;rw[RW (by omega)];rfl
 have hc:=ji (js:=[none,some 0]) (g:=gN 0) (tt:=tV (e2 iI (e2 jL (aj 1) (aj 0)) (eC (.int 0)))) (te:=iV (au (aj 0) (au (e2 jL (aj 1) (aj 0)) aE))) (k:=kS es)
   (fZ hs) (by rw[List.length_map,qA,List.length_map];exact A2 (by omega)) (λd m=>by
  obtain⟨i,mi,rfl⟩:=abY.mp m;obtain⟨w,hw⟩:=qG.mpr (rm.mp mi);have hg:=JR hw;show _=some (if(!((bN es i).getD 0==0))=true then some (dP (i,(bN es i).getD 0)) else none);have ht:(tV (e2 iI (e2 jL (aj 1) (aj 0)) (eC (.int 0)))) [some (.int i,.sh []),some (aZ es,.sh [])]=some (!((bN es i).getD 0==0)):=by
   rw[zQ,jN,jN];show Ev.kV (k2 iI ((jL (aZ es) (.int i)).map _) _)=_;rw[hg,hw];rfl
  by_cases h:(!((bN es i).getD 0==0))=true
  .rw[if_pos h];refine ur (aQ:=[some (.int i,.sh []),some (aZ es,.sh [])]) (tg:=.sh []) rfl (by rw[ht,h]) ?_ rfl;rw[l7,aR,aR,jN];show Option.map _ (ko _ (ko ((jL (aZ es) (.int i)).map _) _))=_;rw[hg,hw];rfl
  .rw[if_neg h];exact wC (aQ:=[some (.int i,.sh []),some (aZ es,.sh [])]) rfl (by rw[ht,af9.mpr h]))
 refine(bY rfl (cC hc)).trans ?_
 congr 2
 unfold nz o7;generalize b7 (es.map (·.1))=l;clear hs hc
 induction l with
 |nil=>rfl
 |cons x r ih=>
  rw[aao,aeD,agA]
  by_cases h:(!((bN es x).getD 0==0))=true
  .rw[if_pos h,show kS es (.int x)=some (dP (x,(bN es x).getD 0)) from if_pos h];dsimp only;rw[ih];rfl
  .rw[if_neg h,show kS es (.int x)=none from if_neg h];exact ih
def cX(es:List (Int×Int))(E:List (Int×Int×Int)):List (Int×Int):=E.foldl (λm p=>gQ m p.1 p.2.2) es
theorem RM:∀(E) (es),(es.map (·.1)).Nodup->((cX es E).map (·.1)).Nodup
 |[],_,h=>h
 |p::r,es,h=>RM r _ (OR h)
theorem xV:∀(E) (es) (k),(E.map (·.1)).Nodup->(∀p∈E,p.1=k->bN (cX es E) k=some p.2.2)/\(k∉E.map (·.1)->bN (cX es E) k=bN es k)
 |[],es,k,_=>⟨λp m=>(nomatch m),λ_=>rfl⟩
 |q::r,es,k,h=>by
  obtain⟨h1,h2⟩:=ab4.mp h;obtain⟨a,b⟩:=xV r (gQ es q.1 q.2.2) k h2;refine⟨λp m e=>?_,λm=>?_⟩
  .rcases aaA.mp m with rfl|m
   .show bN (cX (gQ es p.1 p.2.2) r) k=_;rw[b (by rw[<- e];exact h1),Bj,if_pos e.symm]
   .exact a p m e
  .show bN (cX (gQ es q.1 q.2.2) r) k=_;rw[aao] at m;rw[b λx=>m (aab _ x),Bj,if_neg λx=>m (by rw[x];exact aad)]
noncomputable abbrev gK:=List (Int×Int)
theorem x8(S:gK->Slot->Slot->Slot->aO)(hg:∀v x y z (p:Ed),g (dT p) t (S v x y z)=some (S v (some (.int p.1,.own)) (some (.int p.2.1,.own)) (some (.int p.2.2,.own))))(hf:∀v (p:Ed),v.length<sizeLine->f (S v (some (.int p.1,.own)) (some (.int p.2.1,.own)) (some (.int p.2.2,.own)))=some (.nx (S (gQ v p.1 p.2.2) (some (.int p.1,.own)) (some (.int p.2.1,.own)) (some (.int p.2.2,.own))))):
  ∀{E} {v} {x y z},v.length+E.length<4096->∃x' y' z',cz g t f (E.map dT) (S v x y z)=some (.nx (S (cX v E) x' y' z'))
 |[],_,x,y,z,_=>⟨x,y,z,rfl⟩
 |p::E,v,x,y,z,hl=>by
  rw[acj] at hl;obtain⟨x',y',z',ih⟩:=x8 S hg hf (E:=E) (v:=gQ v p.1 p.2.2) (by have:=aaa (es:=v) (k:=p.1) (v:=p.2.2);lia);exact⟨x',y',z',(kQ (hg ..) (hf _ _ (A2 (by lia)))).trans ih⟩
def yJ(S L:D)(es:List (Int×Int))(s3 s4 s5 s6 s7:Slot):aO:=[some (S,.sh []),some (L,.sh []),some (aZ es,.own),s3,s4,s5,s6,s7]
abbrev OO:GF:=gT (cR (gN 5) (cR (gN 6) (cR (gN 7) jB)))
abbrev OE:SF:=m7 2 (aj 5) (aj 7)
theorem Ma:k∈o7 es↔(bN es k).getD 0≠0:=by
 unfold o7;rw[acO];refine⟨λh=>by simpa using h.2,λh=>⟨rm.mpr (qG.mp ?_),by simpa using h⟩⟩;cases e:bN es k with
 |none=>rw[e] at h;exact absurd rfl h
 |some v=>exact⟨v,rfl⟩
theorem MZ(h:(es.map (·.1)).Nodup):(o7 es).Nodup:=((qI _).nodup_iff.mpr h).sublist afq
theorem Sy:(nz es).map (·.1)=o7 es:=by
 unfold nz;rw[ade];exact List.map_id' _
theorem FO(f:Int->Int)(k:Int):∀l:List Int,bN (l.map λk=>(k,f k)) k=if k∈l then some (f k) else none
 |[]=>rfl
 |x::r=>by
  have ih:=FO f k r;rw[aao];unfold bN at ih ⊢;rw[adA]
  by_cases hx:x=k
  .rw[aaq hx,if_pos (by rw[hx];exact aad),hx];rfl
  .rw[ab8 hx];dsimp only;rw[ih];have:(k∈x::r)↔k∈r:=⟨λm=>(aaA.mp m).elim (λe=>absurd e.symm hx) id,aab _⟩
   simp only[this]
theorem YF(k:Int):(bN (nz es) k).getD 0=(bN es k).getD 0:=by
 unfold nz;rw[FO]
 by_cases h:k∈o7 es
 .rw[if_pos h];rfl
 .rw[if_neg h];have:=mt Ma.mpr h;simp only[ne_eq,Decidable.not_not] at this;rw[this];rfl
theorem PD(h:(es.map (·.1)).Nodup)(k:Int):(bN (jO (nz es)) k).getD 0=(bN es k).getD 0:=by
 rw[Q2 (by rw[Sy];exact MZ h),YF]
theorem Ue(ps:List (Int×Int)):((jO ps).map (·.1)).Nodup:=by
 have go:∀(ps m:List (Int×Int)),(m.map (·.1)).Nodup->((ps.foldl (λm p=>gQ m p.1 p.2) m).map (·.1)).Nodup:=by
  intro ps
  induction ps with
  |nil=>intro m h;exact h
  |cons p r ih=>intro m h;exact ih _ (OR h)
 exact go ps [] acW
theorem Uz(es:List (Int×Int)):(nz es).length<=es.length:=by
 unfold nz o7;rw[List.length_map];exact adk (afO _ _) (by rw[qA,List.length_map];exact abL _)
theorem sub_len[DecidableEq α]:∀{l m:List α},l.Nodup->(∀x∈l,x∈m)->l.length<=m.length
 |[],m,_,_=>aeK _
 |a::l,m,h,s=>by
  obtain⟨ha,hl⟩:=ab4.mp h;have ma:=s a aad;have:=sub_len (m:=m.erase a) hl λx mx=>(List.mem_erase_of_ne λe=>ha (by rw[<- e];exact mx)).mpr (s x (aab _ mx))
  rw[List.length_erase_of_mem ma] at this;have:=List.length_pos_of_mem ma;rw[acj];omega
theorem Yx(h:k∈(gQ es a c).map (·.1)):k=a\/k∈es.map (·.1):=by
 obtain⟨w,e⟩:=qG.mpr h;rw[Bj] at e
 split at e
 .rename_i q;exact .inl q
 .exact .inr (qG.mp ⟨w,e⟩)
theorem Kr{S:List Int}:∀{E} {es},(∀p∈E,p.1∈S)->(∀k∈es.map (·.1),k∈S)->∀k∈(cX es E).map (·.1),k∈S
 |[],es,_,h=>h
 |p::E,es,hE,h=>Kr (es:=gQ es p.1 p.2.2) (λq m=>hE q (aab _ m)) λk m=>(Yx m).elim (λe=>by rw[e];exact hE p aad) (h k)
def dz:gK->List (List Ed)->Option gK
 |v,[]=>some v
 |v,E::r=>if bad v E=[] then dz (cX v E) r else none
structure Kb(v:gK):Prop where
 nd:(v.map (·.1)).Nodup
 ks:∀k∈v.map (·.1),k∈bK 0 60
theorem Kb.len{v:gK}(h:Kb v):v.length<=60:=by
 have:=sub_len h.nd h.ks;rw[List.length_map] at this;unfold bK at this
 rwa [List.length_map,agu] at this
theorem Kb.nil:Kb []:=⟨.nil,λk m=>nomatch m⟩
structure Ee(E:List Ed):Prop where
 ed:Du E 20
 nd:(E.map (·.1)).Nodup
 sl:∀p∈E,p.1∈bK 0 60
theorem Kb.cX{v:gK}(h:Kb v)(e:Ee E):Kb (cX v E):=⟨RM E v h.nd,Kr e.sl h.ks⟩
abbrev Lj(Z:SF):SF:=cu (dJ 4 (cP DJ (au (aj 2) (au (aj 3) aE)))) (cu (fN (tV (e2 zM (aj 4) (eC .az))) Z g9) (iR (d7 (aj 3)) OO OE))
theorem abI{Z:SF}{S L:D}(hE:Du E 20)(hb:bad v E=[])(hl:v.length<=3000):∃t5 t6 t7,Lj Z (yJ S L v (some (eL E,.sh [])) s4 s5 s6 s7)=some (.nx (yJ S L (cX v E) (some (eL E,.sh [])) (some (.az,.own)) t5 t6 t7)):=by
 have hle:=hE.ln;obtain⟨t5,t6,t7,lp⟩:=x8 (g:=OO) (f:=OE) (λv x y z=>yJ S L v (some (eL E,.sh [])) (some (.az,.own)) x y z) (λ_ _ _ _ _=>rfl) (λv p h=>Bp rfl rfl rfl h) (E:=E) (v:=v) (by lia);exact⟨t5,t6,t7,lG (d:=.az) (cL rfl (by show DJ [aZ v,.lst (E.map dT)]=_;rw[Fv hE (by lia) D.lst rfl,hb];rfl)) (sq rfl (tF rfl lp))⟩
theorem RH{Z:SF}{S L:D}:∀{Es} {v v'} {s3 s4 s5 s6 s7},(∀E∈Es,Ee E)->dz v Es=some v'->Kb v->
  ∃t3 t4 t5 t6 t7,cz (gN 3) (.sh []) (Lj Z) (Es.map eL) (yJ S L v s3 s4 s5 s6 s7)=some (.nx (yJ S L v' t3 t4 t5 t6 t7))/\Kb v'
 |[],v,v',s3,s4,s5,s6,s7,_,h,k=>by
  cases h;exact⟨s3,s4,s5,s6,s7,rfl,k⟩
 |E::Es,v,v',s3,s4,s5,s6,s7,hE,h,k=>by
  unfold dz at h
  by_cases hb:bad v E=[]
  .rw[if_pos hb] at h;have MN:=hE E aad;obtain⟨t5,t6,t7,hs⟩:=abI MN.ed hb (by have:=k.len;lia);obtain⟨u3,u4,u5,u6,u7,ih,k'⟩:=RH (λE' m=>hE E' (aab _ m)) h (k.cX MN);exact⟨u3,u4,u5,u6,u7,(kQ rfl hs).trans ih,k'⟩
  .rw[if_neg hb] at h;cases h
def dS(ps:gK):D:=.lst (ps.map dP)
def dG(C:List Ch)(row:List Int):List (List Ed):=row.map (bJ C)
noncomputable abbrev Row(C:List Ch)(ns:List Int):Prop:=∀x∈ns,1<=x/\x<=(C.length:Int)
structure GoodC(C:List Ch):Prop where
 ln:C.length<=60
 ed:∀m,Ee (bJ C m)
 bd:∀m x,1<=m->m<=(C.length:Int)->x∈lean (sec C) m->1<=x/\x<m
 few:∀m,(lean (sec C) m).length<=60
theorem AW{C:List Ch}{row:List Int}(g:GoodC C)(hb:Row C row)(hl:row.length<=100)(h:dz [] (dG C row)=some v):Vl [obj C,iL row]=some (dS (nz v))/\Kb v:=by
 have hE:∀E∈dG C row,Ee E:=λE m=>by
  obtain⟨x,_,rfl⟩:=abY.mp m;exact g.ed x
 obtain⟨t3,t4,t5,t6,t7,uB,kv⟩:=RH hE h Kb.nil;have hc:=ji (js:=[none,some 0]) (it:=d7 (aj 1)) (ρ:=[some (obj C,.sh []),some (iL row,.sh [])]) (g:=gN 0) (tt:=k7) (te:=bP "Changes" "edits_of" zR (aj 1) (au (aj 0) aE)) (k:=λd=>match d with | .int x=>some (eL (bJ C x)) | _=>none) (fZ rfl) (by rw[List.length_map];exact size_le (by lia)) (λd m=>by
  exists 52;obtain⟨h1,h2⟩:=hb x mx;exact mX rfl rfl (ki rfl rfl (wD h1 h2)))
 rw[afc,show(row.filterMap ((λd=>match d with|D.int x=>some (eL (bJ C x))|_=>none) ∘ D.int))=(dG C row).map eL from(l6 _ _).trans (by unfold dG;rw[ade];rfl)] at hc;exact⟨bY rfl (cC (cL (by rw[aR,aR];show ko _ (ko (gR _ _ _ _ _ [some (obj C,.sh []),some (iL row,.sh [])]) _)=_;rw[hc];rfl) (bY rfl (lG rfl (sq (tF rfl uB) (cC (cL (ps:=[(aZ v,.sh [2])]) rfl (aaK (by have:=kv.len;lia))))))))),kv⟩
abbrev gV(es:gK)(k:Int):Int:=(bN es k).getD 0
def jg(C:List Ch)(v:gK)(m:Int):Bool:=(bad v (bJ C m)).isEmpty
theorem NR:jg C v m=true↔bad v (bJ C m)=[]:=List.isEmpty_iff
theorem ab6:jf (mW l) .az=some (.bl l.isEmpty):=by cases l<;>rfl
theorem tR{l:List Int}(hi:it ρ=some (l.map D.int,t))(hl:l.length<=10000)(hr:∀x,gN 0 (.int x) (.sh []) (ja js ρ)=some (some (.int x,.sh [])::r))(h:∀x∈l,tt (some (.int x,.sh [])::r)=some (p x)):
  gR js it (gN 0) tt (aj 0) ρ=some (iL (l.filter p),.own):=by
 have:=Zf (tt:=tt) (te:=aj 0) hi hl (λx mx=>by
  by_cases hp:p x=true
  .rw[if_pos hp];exact ur (hr x) (by rw[h x mx,hp]) rfl rfl
  .rw[if_neg hp];exact wC (hr x) (by rw[h x mx,af9.mpr hp]))
 rw[List.map_id'] at this;exact this
theorem Zu(h1:fv ρ=some (.int n,t))(h2:ρ[i]? = some (some (iL ns,.own)))(hm:n∈ns):wV i fv ρ=some (.nx (bQ ρ i (iL (ns.erase n)))):=by
 unfold wV;rw[h1,h2];unfold iL;dsimp only;rw[uv];dsimp only;rw[if_pos hm]
noncomputable def kB(k:Int):Key×D:=(Sum.inl k,.bl true)
def dB(ks:List Int):D:=.bf (ks.map kB)
noncomputable def add(ks:List Int)(k:Int):List Int:=if k∈ks then ks else ks++[k]
theorem abo:x∈add ks k↔x∈ks\/x=k:=by
 unfold add
 by_cases h:k∈ks
 .rw[if_pos h];exact⟨.inl,λe=>e.elim id λe=>by rw[e];exact h⟩
 .rw[if_neg h,abl,aaU]
theorem LH{ks:List Int}:((ks.map kB).any λkv=>decide (kv.1=(Sum.inl k:Key)))=decide (k∈ks):=by
 induction ks with
 |nil=>simp
 |cons a r ih=>
  rw[aao,afV,ih];have:decide ((kB a).1=(Sum.inl k:Key))=decide (a=k):=by
   exact agD.mpr uy
  rw[this]
  by_cases h:a=k
  .subst h;simp
  .simp[h,afZ h]
theorem afC{ks:List Int}:kC false (.int x) (dB ks)=some (.bl (decide (x∈ks))):=by
 show some (D.bl (if false=true then _ else(aS (ks.map kB) (Sum.inl x:Key)).isSome))=_;rw[if_neg abk,<- LH];unfold aS;rw[agg]
 congr 2
 rw[ag1,List.find?_isSome,adY]
theorem aci{ks:List Int}:putD (ks.map kB) (Sum.inl k:Key) (.bl true)=(add ks k).map kB:=by
 unfold putD add;rw[LH]
 by_cases h:k∈ks
 .rw[if_pos (aaq h),if_pos h,ade];refine afX λa _=>?_
  show(if(Sum.inl a:Key)=Sum.inl k then((Sum.inl a:Key),D.bl true) else kB a)=kB a
  split<;>rfl
 .rw[if_neg (by simpa using h),if_neg h,adp];rfl
def adds(m l:List Int):List Int:=l.foldl add m
theorem Lw:∀{l m} {x},x∈adds m l↔x∈m\/x∈l
 |[],m,x=>by simp[adds]
 |a::l,m,x=>by
  have:=Lw (l:=l) (m:=add m a) (x:=x);show x∈adds (add m a) l↔_;rw[this,abo,aaA,or_assoc]
noncomputable def rB(x:Int):D:=.tup [.int x,.bl true]
theorem PB:∀l:List Int,iU (l.map rB)=some (l.map kB)
 |[]=>rfl
 |p::r=>by
  rw[aao];show(match iu (.int p),iU (r.map rB) with|some k,some ps=>if aB (.bl true)=true then some ((k,D.bl true)::ps) else none|_,_=>none)=_;rw[PB r];rfl
theorem N8:∀(l m),(l.map kB).foldl (λm p=>putD m p.1 p.2) (m.map kB)=(adds m l).map kB
 |[],_=>rfl
 |p::r,m=>by rw[aao,afa];show(r.map kB).foldl _ (putD (m.map kB) (Sum.inl p:Key) (.bl true))=_;rw[aci];exact N8 r _
theorem afE:xq (.lst (l.map rB))=some (dB (adds [] l)):=by
 show(iU (l.map rB)).map _=_;rw[PB];show some (D.bf ((l.map kB).foldl (λm p=>putD m p.1 p.2) []))=_;rw[show([]:List (Key×D))=([]:List Int).map kB from rfl,N8];rfl
def lQ(C:List Ch)(there:List Int)(m:Int):Bool:=(lean (sec C) m).all λx=>decide (x∈there)
theorem tw{g:SF}(ρ':aO)(h:g ρ'=r)(e:ρ=ρ':=by rfl):g ρ=r:=by rw[e,h]
theorem Q3(h:f ρ=some (iL a,t))(h2:g ρ=some (iL b,t2))(hl:a.length+b.length<=1000):e2 gH (e1 pZ f) (e1 pZ g) ρ=some (iL (a++b),.own):=
 aG (bA h s_) (bA h2 s_) (qe (by rw[ae6];lia))
theorem KN(g:GoodC C){a b wt:List Int}(hl:a.length+b.length<=1000)(hw:Row C wt)(Co:wt.length<=1000):Ah [obj C,iL a,iL b,iL wt]=some (iL (wt.filter (lQ C (a++b)))):=by
 refine bY rfl (lG (bA (t:=.own) ?_ afE) (tw [some (obj C,.sh []),some (iL a,.sh []),some (iL b,.sh []),some (iL wt,.sh []),some (dB (adds [] (a++b)),.own)] (cC (tR (fZ rfl) (by lia) (λx=>rfl) (λx vd=>?_)))))
 .refine(ji (k:=λd=>match d with | .int x=>some (rB x) | _=>none) (fZ (Q3 rfl rfl hl)) (by rw[List.length_map,abD];exact size_le (by lia)) (λd m=>by
   obtain⟨x,vd,rfl⟩:=abY.mp m;exact ur rfl rfl rfl rfl)).trans ?_
  rw[afc,show((a++b).filterMap ((λd=>match d with|D.int x=>some (rB x)|_=>none) ∘ D.int))=(a++b).map rB from l6 rB _]
 .obtain⟨h1,h2⟩:=hw x vd;refine a_ (OD (fZ (ki rfl rfl (D7 h1 h2))) (by have:=g.few x;lia) (λy my=>mX rfl rfl (aG rfl rfl ?_)));rw[afC,show decide (y∈adds [] (a++b))=decide (y∈a++b) from agD.mpr (by rw[Lw];simp)]
theorem ad7(g:GoodC C)(hl:a.length+b.length<=100)(hb:Row C (a++b))(h:dz [] (dG C (a++b))=some v):afH [obj C,iL a,iL b]=some (aZ (jO (nz v))):=
 bY rfl (cC (bA (cL (ps:=[(obj C,.sh []),(iL (a++b),.own)]) (by rw[aR,aR];show ko _ (ko (e2 gH _ _ [some (obj C,.sh []),some (iL a,.sh []),some (iL b,.sh [])]) _)=_;rw[Q3 rfl rfl (by lia)];rfl) (AW g hb (by rw[abD];lia) h).1) Pk))
theorem M3(h:∀k,gV u k=gV v k)(E:List Ed):bad u E=bad v E:=by
 unfold bad
 congr 1
 refine List.filter_congr λp _=>?_
 unfold oi;have:=h p.1;unfold gV at this;rw[this]
theorem Z4(g:GoodC C)(h1:1<=m)(h2:m<=(C.length:Int)):Dl [obj C,aZ v,.int m]=some (.bl (jg C v m)):=
 bY rfl (cC (aG (cL (ps:=[(aZ v,.sh []),(eL (bJ C m),.own)]) (by rw[aR,aR];show ko _ (ko (bP _ _ _ _ _ [some (obj C,.sh []),some (aZ v,.sh []),some (.int m,.sh [])]) _)=_;rw[ki rfl rfl (wD h1 h2)];rfl) (Fv (g.ed m).ed (by lia) D.lst rfl)) rfl ab6))
theorem Sb{L:List Ch}{m:Int}(h1:1<=m)(h2:m<=L.length):xu [obj L,.int m]=some (.int (ch L m).1):=
 bY rfl (cC (aG (ki rfl rfl (Jq h1 h2)) rfl rfl))
abbrev kf:EF:=iV (au (e1 pY (bP "Changes" "rank_of" xu (aj 1) (au (aj 0) aE))) (au (aj 0) aE))
abbrev pr(C:List Ch):Int->Int×Int:=vA kf (obj C)
theorem QC{C:List Ch}{x:Int}(h1:1<=x)(h2:x<=C.length):sU kf (obj C) x=some (-(ch C x).1,x):=by
 unfold sU;have e:e1 pY (bP "Changes" "rank_of" xu (aj 1) (au (aj 0) aE)) [some (.int x,.own),some (obj C,.sh [])]=some (.int (-(ch C x).1),.own):=bA (ki rfl rfl (Sb h1 h2)) rfl;show(match iV _ _ with|some (.tup [.int a,.int b],_)=>some (a,b)|_=>none)=_;rw[l7,aR,e];rfl
theorem WV(h:Row C ns)(hn:ns.Nodup):(ns.map (pr C)).Nodup:=by
 have MR:∀x∈ns,pr C x=(-(ch C x).1,x):=λx m=>by
  show(sU kf (obj C) x).getD _=_;rw[QC (h x m).1 (h x m).2];rfl
 unfold List.Nodup;rw[agb];refine hn.imp_of_mem λ{a b} ma mb ne e=>ne ?_
 rw[MR a ma,MR b mb] at e;exact(agZ .. ▸ e).2
theorem Sz(h:Row C ns)(hn:ns.Nodup)(hl:ns.length<64):O5 [obj C,iL ns]=some (iL (jJ (pr C) ns)):=by
 refine bY rfl (cC ?_);show(match eN (ns.map D.int) with|some ns=>if ns.length<64/\(ns.map (pr C)).Nodup/\∀n∈ns,(sU kf (obj C) n).isSome=true then some (D.lst ((jJ (pr C) ns).map D.int),Tag.own) else none|none=>none)=_;rw[uv];dsimp only;rw[if_pos ⟨hl,WV h hn,λx m=>by rw[QC (h x m).1 (h x m).2];rfl⟩];rfl
noncomputable def Og:Option Int->D
 |none=>.az
 |some x=>.int x
def yk:SF:=fN (tV (cP Dl (au (aj 0) (au (aj 1) (au (aj 3) aE))))) (pL 3) g9
theorem OH(g:GoodC C):∀{l} {s3},Row C l->match l.find? (jg C v) with
  |some x=>cz (gN 3) (.sh []) yk (l.map D.int) [some (obj C,.sh []),some (aZ v,.sh []),some (N,.sh []),s3]=some (.rt (.int x))
  |none=>∃t3,cz (gN 3) (.sh []) yk (l.map D.int) [some (obj C,.sh []),some (aZ v,.sh []),some (N,.sh []),s3]=some (.nx [some (obj C,.sh []),some (aZ v,.sh []),some (N,.sh []),t3])
 |[],s3,_=>⟨s3,rfl⟩
 |x::l,s3,h=>by
  obtain⟨h1,h2⟩:=h x aad;have q:tV (cP Dl (au (aj 0) (au (aj 1) (au (aj 3) aE)))) [some (obj C,.sh []),some (aZ v,.sh []),some (N,.sh []),some (.int x,.sh [])]=some (jg C v x):=a_ (cL rfl (Z4 g h1 h2));have ih:=OH g (v:=v) (N:=N) (s3:=some (.int x,.sh [])) λy m=>h y (aab _ m)
  rw[adA];cases hf:jg C v x with
  |true=>
   rw[hf] at q;exact yo (aQ:=[some (obj C,.sh []),some (aZ v,.sh []),some (N,.sh []),some (.int x,.sh [])]) rfl (by unfold yk;rw[jn,q];rfl)
  |false=>
   rw[hf] at q;have e:=kQ (g:=gN 3) (t:=.sh []) (f:=yk) (ds:=l.map D.int) (ρ:=[some (obj C,.sh []),some (aZ v,.sh []),some (N,.sh []),s3]) (aQ:=[some (obj C,.sh []),some (aZ v,.sh []),some (N,.sh []),some (.int x,.sh [])]) rfl (by unfold yk;rw[jn,q];rfl);dsimp only;rw[aao,e];exact ih
theorem Uj(g:GoodC C)(h:Row C ns)(hn:ns.Nodup)(hl:ns.length<64):Cw [obj C,aZ v,iL ns]=some (Og ((jJ (pr C) ns).find? (jg C v))):=by
 have hi:d7 (cP O5 (au (aj 0) (au (aj 2) aE))) [some (obj C,.sh []),some (aZ v,.sh []),some (iL ns,.sh []),none]=some ((jJ (pr C) ns).map D.int,.own):=fZ (cL rfl (Sz h hn hl));have lp:=OH g (v:=v) (N:=iL ns) (l:=jJ (pr C) ns) (s3:=none) λx m=>h x ((wH ns).mem_iff.mp m)
 refine bY rfl ?_;cases e:(jJ (pr C) ns).find? (jg C v) with
 |none=>
  rw[e] at lp;obtain⟨t3,lp⟩:=lp;exact sq (uI hi lp) rfl
 |some x=>
  rw[e] at lp;exact fG (A0 hi lp)
theorem Mu:∀{row} {v v'} {m},dz v (dG C row)=some v'->bad v' (bJ C m)=[]->dz v (dG C (row++[m]))=some (cX v' (bJ C m))
 |[],v,v',m,h,hb=>by
  cases h;show(if bad v (bJ C m)=[] then dz (cX v (bJ C m)) [] else none)=_;rw[if_pos hb];rfl
 |x::r,v,v',m,h,hb=>by
  have h:(if bad v (bJ C x)=[] then dz (cX v (bJ C x)) (dG C r) else none)=some v':=h;show(if bad v (bJ C x)=[] then dz (cX v (bJ C x)) (dG C (r++[m])) else none)=_
  by_cases R9:bad v (bJ C x)=[]
  .rw[if_pos R9] at h ⊢;exact Mu h hb
  .rw[if_neg R9] at h;cases h
theorem Vm(h1:c ρ=some true)(h2:b ρ=some (.nx ρ')):iN c b (n+1) ρ=iN c b n ρ':=by rw[iN,h1];dsimp only;rw[h2]
theorem aav(h1:c ρ=some false):iN c b (n+1) ρ=some (.nx ρ):=by rw[iN,h1]
theorem T7(h1:c ρ=some true)(h2:b ρ=some (.rt d)):iN c b (n+1) ρ=some (.rt d):=by rw[iN,h1];dsimp only;rw[h2]
abbrev cF:TF:=tV (e2 oLt (e1 eS (aj 5)) (aj 4))
abbrev bF:SF:=(cu (dJ 8 (cP Cw (au (aj 0) (au (aj 7) (au (cP Ah (au (aj 0) (au (aj 1) (au (aj 5) (au (aj 6) aE))))) aE))))) (cu (fN (tV (e2 jf (aj 8) (eC .az))) (pL 5) g9) (cu (mR 5 (aj 8)) (cu (wV 6 (aj 8)) (iR (d7 (bP "Changes" "edits_of" zR (aj 0) (au (aj 8) aE))) (gT (cR (gN 9) (cR (gN 10) (cR (gN 11) jB)))) (m7 7 (aj 9) (aj 11)))))))
def rF(C:List Ch)(ln ld wt:List Int)(w:Int)(told left:List Int)(u:gK)(s8 s9 iC jd:Slot):aO:=[some (obj C,.sh []),some (iL ln,.sh []),some (iL ld,.sh []),some (iL wt,.sh []),some (.int w,.sh []),some (iL told,.own),some (iL left,.own),some (aZ u,.own),s8,s9,iC,jd]
structure Fl(C:List Ch)(ln told left:List Int)(w:Int)(ex:List Int):Prop where
 nd:ex.Nodup
 sub:∀x∈ex,x∈left
 le:((told++ex).length:Int)<=w\/ex=[]
 fst:∀x r,ex=x::r->∃v,dz [] (dG C (ln++told))=some v/\lQ C (ln++told) x=true/\jg C v x=true
 run:∃v,dz [] (dG C (ln++(told++ex)))=some v/\(w<=((told++ex).length:Int)\/∀x∈left,x∉ex->lQ C (ln++(told++ex)) x=true->jg C v x=false)
theorem aaz(g:GoodC C):∀{n} {told left} {u v} {s8 s9 iC jd},Row C left->left.Nodup->left.length<64->ln.length+told.length+left.length<=1000->dz [] (dG C (ln++told))=some v->(∀k,gV u k=gV v k)->Kb u->left.length<n->
  ∃ex,cu (iN cF bF n) (pL 5) (rF C ln ld wt w told left u s8 s9 iC jd)=some (.rt (iL (told++ex)))/\Fl C ln told left w ex:=by
 intro n
 induction n with
 |zero=>intros;omega
 |succ n ih=>
  intro told left u v s8 s9 iC jd hr nd hl hs hv hu ku hn;have c1:cF (rF C ln ld wt w told left u s8 s9 iC jd)=some (decide ((told.length:Int)<w)):=a_ (aG (bA rfl (by show some (D.int (told.map D.int).length)=_;rw[List.length_map])) rfl rfl)
  by_cases hw:(told.length:Int)<w
  .rw[aaq hw] at c1;have ef:jg C u=jg C v:=funext λx=>by unfold jg;rw[M3 hu]
   have q1:cP Cw (au (aj 0) (au (aj 7) (au (cP Ah (au (aj 0) (au (aj 1) (au (aj 5) (au (aj 6) aE))))) aE))) (rF C ln ld wt w told left u s8 s9 iC jd)=some (Og ((jJ (pr C) (left.filter (lQ C (ln++told)))).find? (jg C v)),.own):=by
    refine cL (ps:=[(obj C,.sh []),(aZ u,.sh [7]),(iL (left.filter (lQ C (ln++told))),.own)]) ?_ ?_
    .rw[aR,aR,aR,cL rfl (KN g (by lia) hr (by lia))];rfl
    .show Cw [obj C,aZ u,_]=_;rw[Uj g (λx m=>hr x (acO.mp m).1) (nd.sublist afq) (agp (afO _ _) hl),ef]
   have pm:=λx=>(wH (pr:=pr C) (left.filter (lQ C (ln++told)))).mem_iff (a:=x)
   cases hb:(jJ (pr C) (left.filter (lQ C (ln++told)))).find? (jg C v) with
   |none=>
    rw[hb] at q1;refine⟨[],fG ((T7 c1 (lG q1 (fG rfl))).trans (by rw[acG])),.nil,(λx m=>nomatch m),.inr rfl,(λx r e=>nomatch e),v,by rw[acG];exact hv,.inr λx m _ hf=>?_⟩;rw[acG] at hf;have:=af3.mp hb x ((pm x).mpr (acO.mpr ⟨m,hf⟩));simpa using this
   |some x=>
    rw[hb] at q1;have mf:=(pm x).mp (afU hb);have m:=(acO.mp mf).1;have f:=NR.mp (agK hb);obtain⟨h1,h2⟩:=hr x m;have hE:=(g.ed x).ed.ln;have hel:=List.length_erase_of_mem m;have hp:=List.length_pos_of_mem m;obtain⟨t9,Z_,t11,lp⟩:=x8 (g:=gT (cR (gN 9) (cR (gN 10) (cR (gN 11) jB)))) (f:=m7 7 (aj 9) (aj 11)) (λv x' y z=>rF C ln ld wt w (told++[x]) (left.erase x) v (some (.int x,.own)) x' y z) (λ_ _ _ _ _=>rfl) (λv p h=>Bp rfl rfl rfl h) (E:=bJ C x) (v:=u) (by have:=ku.len;lia);have st:bF (rF C ln ld wt w told left u s8 s9 iC jd)=some (.nx (rF C ln ld wt w (told++[x]) (left.erase x) (cX u (bJ C x)) (some (.int x,.own)) t9 Z_ t11)):=by
     refine lG q1 (cK rfl ?_);refine sq ((E1 rfl rfl (size_le (by lia))).trans rfl) ?_;refine sq ((Zu rfl rfl m).trans rfl) ?_;exact uI (fZ (ki rfl rfl (wD h1 h2))) lp
    obtain⟨ex,e,F⟩:=ih (told:=told++[x]) (λy my=>hr y (List.mem_of_mem_erase my)) (nd.erase x) (by lia) (by rw[abD,adR];lia) (by rw[<- afB];exact Mu hv f) (λk=>by
     obtain⟨a1,a2⟩:=xV (bJ C x) u k (g.ed x).nd;obtain⟨b1,b2⟩:=xV (bJ C x) v k (g.ed x).nd;unfold gV
     by_cases mk:k∈(bJ C x).map (·.1)
     .obtain⟨p,mp,rfl⟩:=abY.mp mk;rw[a1 p mp rfl,b1 p mp rfl]
     .rw[a2 mk,b2 mk];exact hu k) (ku.cX (g.ed x)) (by lia)
    have ea:told++x::ex=told++[x]++ex:=by rw[afB];rfl
    refine⟨x::ex,?_,ab4.mpr ⟨λmx=>(nd.mem_erase_iff.mp (F.sub x mx)).1 rfl,F.nd⟩,λy my=>(aaA.mp my).elim (λe=>e ▸ m) λmy=>List.mem_of_mem_erase (F.sub y my),.inl ?_,(λy r e=>by cases e;exact⟨v,hv,(acO.mp mf).2,agK hb⟩),?_⟩
    .rw[j0,Vm c1 st,<- j0,ea];exact e
    .rw[ea];rcases F.le with h|h
     .exact h
     .rw[h,acG,abD,adR];lia
    .rw[ea];obtain⟨v',r1,r2⟩:=F.run;refine⟨v',r1,r2.imp id λr y my ny=>?_⟩;exact r y (nd.mem_erase_iff.mpr ⟨λe=>ny (e ▸ aad),my⟩) λq=>ny (aab _ q)
  .rw[ab8 hw] at c1;exact⟨[],(sq (aav c1) rfl).trans (by rw[acG];rfl),.nil,(λx m=>nomatch m),.inr rfl,(λx r e=>nomatch e),v,by rw[acG];exact hv,.inl (by rw[acG];lia)⟩
theorem aaW(g:GoodC C)(hb:Row C (ln++ld))(hr:Row C wt)(nd:wt.Nodup)(hw:wt.length<64)(hl:ln.length+ld.length<=100)(hv:dz [] (dG C (ln++ld))=some v):∃ex,DZ [obj C,iL ln,iL ld,iL wt,.int w]=some (iL (ld++ex))/\Fl C ln ld wt w ex:=by
 have kv:=(AW g hb (by rw[abD];lia) hv).2;have kd:Kb (jO (nz v)):=⟨Ue _,λk m=>kv.ks k (qG.mp (by
  obtain⟨w,e⟩:=qG.mpr m;rw[Q2 (by rw[Sy];exact MZ kv.nd)] at e;unfold nz at e;rw[FO] at e
  split at e
  .rename_i mk;have:=Ma.mp mk;cases h:bN v k with
   |none=>rw[h] at this;exact absurd rfl this
   |some y=>exact⟨y,rfl⟩
  .cases e))⟩
 obtain⟨ex,e,F⟩:=aaz g (n:=4000) hr nd hw (by lia) hv (PD kv.nd) kd (by lia);exact⟨ex,bY rfl (lG (bA rfl s_) (lG (bA rfl s_) (lG (cL rfl (ad7 g hl hb hv)) e))),F⟩
noncomputable def best:Int×Int->List (Int×Int)->Int×Int
 |p,[]=>p
 |p,q::r=>best (if p.2-p.1<q.2-q.1 then q else p) r
noncomputable def pairs(f:List Int):List (Int×Int):=f.zip f.tail
def mid(f:List Int):Int:=let p:=best (f.headD 0,f.headD 0) (pairs f);(p.1+p.2) / 2
theorem Br:∀(l:List (Int×Int)) (p:Int×Int),best p l=p\/best p l∈l
 |[],p=>.inl rfl
 |q::r,p=>by
  unfold best
  by_cases h:p.2-p.1<q.2-q.1
  .rw[if_pos h];rcases Br r q with e|e
   .rw[e];exact .inr aad
   .exact .inr (aab _ e)
  .rw[if_neg h];rcases Br r p with e|e
   .exact .inl e
   .exact .inr (aab _ e)
theorem CG:∀(l:List (Int×Int)) (p:Int×Int),p.2-p.1<=(best p l).2-(best p l).1/\∀q∈l,q.2-q.1<=(best p l).2-(best p l).1
 |[],p=>⟨Int.le_refl _,λq m=>nomatch m⟩
 |x::r,p=>by
  unfold best
  by_cases h:p.2-p.1<x.2-x.1
  .rw[if_pos h];obtain⟨h1,h2⟩:=CG r x;refine⟨by lia,λq m=>?_⟩;rcases aaA.mp m with rfl|m
   .exact h1
   .exact h2 q m
  .rw[if_neg h];obtain⟨h1,h2⟩:=CG r p;refine⟨h1,λq m=>?_⟩;rcases aaA.mp m with rfl|m
   .lia
   .exact h2 q m
theorem Fj:∀(r:List Int) (a:Int),(∀q∈pairs (a::r),q.2-q.1<=1)->(a::r).getLastD 0<=a+r.length
 |[],a,_=>by simp
 |b::r,a,h=>by
  have h1:b-a<=1:=h (a,b) (by unfold pairs;exact aad);have h2:=Fj r b λq m=>h q (by unfold pairs at m ⊢;exact aab _ m)
  have e:(a::b::r).getLastD 0=(b::r).getLastD 0:=by simp[List.getLastD]
  rw[e,acj]
  lia
noncomputable abbrev fence(ws:List Int)(e:Int):List Int:=0::(ws++[e])
theorem FL(m:q∈pairs f):q.1∈f/\q.2∈f:=by
 unfold pairs at m;obtain⟨h1,h2⟩:=List.of_mem_zip m;exact⟨h1,List.mem_of_mem_tail h2⟩
theorem ZH(hw:∀x∈ws,1<=x)(hl:(ws.length:Int)<e-1):1<=mid (fence ws e):=by
 have hf:∀x∈fence ws e,0<=x:=λx m=>by
  rcases aaA.mp m with rfl|m
  .exact Int.le_refl _
  .rcases abl.mp m with m|m
   .have:=hw x m;lia
   .cases aaU.mp m;lia
 obtain⟨q,m,hq⟩:∃q∈pairs (fence ws e),2<=q.2-q.1:=by
  refine agc λhn=>?_
  have:=Fj (ws++[e]) 0 λq m=>by
   refine agc λh=>hn ⟨q,m,by lia⟩
  have q1:(0::(ws++[e])).getLastD 0=e:=by rw[show(0::(ws++[e]))=(0::ws)++[e] from rfl,List.getLastD_concat]
  rw[q1,abD,adR] at this
  lia
 have hb:=(CG (pairs (fence ws e)) ((fence ws e).headD 0,(fence ws e).headD 0)).2 q m;unfold mid;dsimp only;rcases Br (pairs (fence ws e)) ((fence ws e).headD 0,(fence ws e).headD 0) with h|h
 .rw[h] at hb;dsimp only at hb
  lia
 .obtain⟨h1,h2⟩:=FL h;have:=hf _ h1
  lia
noncomputable def RC(p:Int×Int):D:=.tup [.int p.1,.int p.2]
noncomputable def rM(f:List Int)(l h:Int)(t1 t2:Tag)(s3 s4:Slot):aO:=[some (.lst (f.map D.int),.sh []),some (.int l,t1),some (.int h,t2),s3,s4]
abbrev bM:SF:=fN (tV (e2 qt (e2 i9 (aj 4) (aj 3)) (e2 i9 (aj 2) (aj 1)))) (cu (dJ 1 (aj 3)) (dJ 2 (aj 4))) g9
abbrev gM:GF:=gT (cR (gN 3) (cR (gN 4) jB))
theorem E4:∀(ps:List (Int×Int)) (p:Int×Int) (t1 t2:Tag) (s3 s4:Slot),∃t1' t2' yR ZS,cz gM (.sh []) bM (ps.map RC) (rM f p.1 p.2 t1 t2 s3 s4)=some (.nx (rM f (best p ps).1 (best p ps).2 t1' t2' yR ZS))
 |[],p,t1,t2,s3,s4=>⟨t1,t2,s3,s4,rfl⟩
 |q::r,p,t1,t2,s3,s4=>by
  have hc:tV (e2 qt (e2 i9 (aj 4) (aj 3)) (e2 i9 (aj 2) (aj 1))) (rM f p.1 p.2 t1 t2 (some (.int q.1,.own)) (some (.int q.2,.own)))=some (decide (p.2-p.1<q.2-q.1)):=rfl
  by_cases h:p.2-p.1<q.2-q.1
  .have hb:bM (rM f p.1 p.2 t1 t2 (some (.int q.1,.own)) (some (.int q.2,.own)))=some (.nx (rM f q.1 q.2 (.sh [3]) (.sh [4]) (some (.int q.1,.own)) (some (.int q.2,.own)))):=by
    unfold bM;rw[jn,hc,aaq h,LO];rfl
   obtain⟨a,b,c,d,hh⟩:=E4 r q (.sh [3]) (.sh [4]) (some (.int q.1,.own)) (some (.int q.2,.own));refine⟨a,b,c,d,(kQ rfl hb).trans ?_⟩;unfold best;rw[if_pos h];exact hh
  .have hb:bM (rM f p.1 p.2 t1 t2 (some (.int q.1,.own)) (some (.int q.2,.own)))=some (.nx (rM f p.1 p.2 t1 t2 (some (.int q.1,.own)) (some (.int q.2,.own)))):=by
    unfold bM;rw[jn,hc,ab8 h,O2];rfl
   obtain⟨a,b,c,d,hh⟩:=E4 r p t1 t2 (some (.int q.1,.own)) (some (.int q.2,.own));refine⟨a,b,c,d,(kQ rfl hb).trans ?_⟩;unfold best;rw[if_neg h];exact hh
theorem Wg(a:Int)(r:List Int):oO (some 1) none (.lst ((a::r).map D.int))=some (.lst (r.map D.int)):=by
 show(if aL ((a::r).map D.int)=true then some (D.lst (cutD ((a::r).map D.int) (some 1) none)) else none)=_;rw[if_pos (e_ _)];have:cutD ((a::r).map D.int) (some 1) none=r.map D.int:=by
  unfold cutD;have e:HT.gW ((a::r).map D.int).length 0 (some 1)=1:=by
   have q:=HT.JO ((a::r).map D.int).length 0 1;rw[show((1:Nat):Int)=1 from rfl] at q;rw[q,List.length_map,acj];lia
  rw[HT.J8,e,aao,List.drop_succ_cons,List.drop_zero,acj,Nat.add_sub_cancel,List.take_length]
 rw[this]
theorem Vi(a:Int)(r:List Int):yU [.lst ((a::r).map D.int)]=some (.int (mid (a::r))):=by
 refine bY rfl ?_;show E_ [some (.lst ((a::r).map D.int),.sh []),none,none,none,none]=_;unfold E_;have q1:dJ 1 (e2 c9 (aj 0) (eC (.int 0))) [some (.lst ((a::r).map D.int),.sh []),none,none,none,none]=some (.nx [some (.lst ((a::r).map D.int),.sh []),some (.int a,.own),none,none,none]):=by
  have hx:c9 (.lst ((a::r).map D.int)) (.int 0)=some (.int a):=vH (by rw[LG (by lia) (by rw[acj];lia)];rfl) rfl;rw[iO,jN];show B8 1 _ ((c9 (.lst ((a::r).map D.int)) (.int 0)).map _)=_;rw[hx];rfl
 have q2:dJ 2 (aj 1) [some (.lst ((a::r).map D.int),.sh []),some (.int a,.own),none,none,none]=some (.nx (rM (a::r) a a .own (.sh [1]) none none)):=rfl;have hz:qz (aj 0) (e1 (oO (some 1) none) (aj 0)) (rM (a::r) a a .own (.sh [1]) none none)=some ((pairs (a::r)).map RC,.sh []):=by
  unfold qz;have v0:aj 0 (rM (a::r) a a .own (.sh [1]) none none)=some (.lst ((a::r).map D.int),.sh []):=rfl;have v1:e1 (oO (some 1) none) (aj 0) (rM (a::r) a a .own (.sh [1]) none none)=some (.lst (r.map D.int),.own):=by
   rw[yM,v0];show(oO (some 1) none (.lst ((a::r).map D.int))).map _=_;rw[Wg];rfl
  rw[v0,v1];dsimp only;rw[if_pos (by rw[e_,e_];rfl)];refine congrArg some (Prod.ext ?_ rfl);rw[List.zip_map,ade];rfl
 obtain⟨t1,t2,s3,s4,hl⟩:=E4 (pairs (a::r)) (a,a) .own (.sh [1]) none none;have hf:iR (qz (aj 0) (e1 (oO (some 1) none) (aj 0))) gM bM (rM (a::r) a a .own (.sh [1]) none none)=some (.nx (rM (a::r) (best (a,a) (pairs (a::r))).1 (best (a,a) (pairs (a::r))).2 t1 t2 s3 s4)):=tN hz hl;rw[j0,q1,pX,j0,q2,pX,j0];rw[hf,pX];unfold mid;rw[show((a::r).headD 0,(a::r).headD 0)=(a,a) from rfl];generalize best (a,a) (pairs (a::r))=p;have v1:aj 1 (rM (a::r) p.1 p.2 t1 t2 s3 s4)=some (.int p.1,DH 1 t1):=rfl;have v2:aj 2 (rM (a::r) p.1 p.2 t1 t2 s3 s4)=some (.int p.2,DH 2 t2):=rfl;rw[Bk,jN,jN,v1,v2,xU,lJ,PM,HD,xU,acI (by lia) (by lia)];rfl
noncomputable def jX:Option Int->D
 |none=>.az
 |some b=>.int b
noncomputable def endOf(size:Int):Option Int->Int
 |none=>size+1
 |some b=>b
def pick(size:Int)(bad:Option Int)(e:Int)(ws:List Int):Int:=if(bad.isNone&&!(ws.any (· == size)))=true then size else mid (fence ws e)
def lF(size:Int)(bad:Option Int)(e:Int)(ws:List Int):List Int:=b7 (ws++[pick size bad e ws])
noncomputable def lim(e bh:Int):Int:=if e-1<bh then e-1 else bh
def kU(size:Int)(bad:Option Int)(e bh:Int):Nat->List Int->List Int
 |0,ws=>ws
 |n+1,ws=>if(ws.length:Int)<lim e bh then kU size bad e bh n (lF size bad e ws) else ws
theorem CD{bad:Option Int}:(lF size bad e ws).length=ws.length+1:=by unfold lF;rw[qA,abD];rfl
theorem NZ(b:Option Int):oH (jX b)=b.isNone:=by cases b<;>rfl
abbrev cW:TF:=tV (e2 oLt (e1 eS (aj 5)) (e2 xj (aj 3) (e2 i9 (aj 4) (eC (.int 1)))))
abbrev bW:SF:=cu (fN (iK (tV (e2 jf (aj 1) (eC .az))) (tV (e2 (jo true) (aj 0) (aj 5)))) (mR 5 (aj 0)) (mR 5 (cP yU (au (e2 gH (e2 gH (iG (au (eC (.int 0)) aE)) (aj 5)) (iG (au (aj 4) aE))) aE)))) (dJ 5 (e1 i7 (aj 5)))
def zT(t:Tag):Prop:=t=.own\/t=.sh []
def rW(size:Int)(bad:Option Int)(kd:D)(bh e:Int)(t4:Tag)(ws:List Int):aO:=[some (.int size,.sh []),some (jX bad,.sh []),some (kd,.sh []),some (.int bh,.sh []),some (.int e,t4),some (.lst (ws.map D.int),.own)]
section
variable{size bh e:Int}{bad:Option Int}
theorem PY:cW (rW size bad kd bh e t4 ws)=some (decide ((ws.length:Int)<lim e bh)):=by
 show some (decide (((ws.map D.int).length:Int)<(if e-1<bh then e-1 else bh)))=_;rw[List.length_map];rfl
theorem VH:(tV (e2 (jo true) (aj 0) (aj 5))) (rW size bad kd bh e t4 ws)=some (!(ws.any (· == size))):=by
 rw[zQ,jN];show Ev.kV ((jo true (.int size) (.lst (ws.map D.int))).map _)=_;rw[uA];rfl
theorem adP:(iK (tV (e2 jf (aj 1) (eC .az))) (tV (e2 (jo true) (aj 0) (aj 5)))) (rW size bad kd bh e t4 ws)=some (bad.isNone&&!(ws.any (· == size))):=by
 refine sD ?_ VH;show some (oH (jX bad))=_;rw[NZ]
theorem K8(h:zT t4)(x:Int):bQ (rW size bad kd bh e t4 ws) 5 (.lst ((ws++[x]).map D.int))=rW size bad kd bh e t4 (ws++[x]):=by
 rcases h with rfl|rfl<;>rfl
theorem Yi(hl:ws.length<63):(e2 gH (e2 gH (iG (au (eC (.int 0)) aE)) (aj 5)) (iG (au (aj 4) aE))) (rW size bad kd bh e t4 ws)=some (.lst ((fence ws e).map D.int),.own):=by
 have h1:gH (.lst (([0]:List Int).map D.int)) (.lst (ws.map D.int))=some (.lst (([0]++ws).map D.int)):=qe (by unfold PySem.sizeLine;show 1+ws.length<=_;lia);have h2:gH (.lst (([0]++ws).map D.int)) (.lst (([e]:List Int).map D.int))=some (.lst (([0]++ws++[e]).map D.int)):=qe (by unfold PySem.sizeLine;rw[abD];show 1+ws.length+1<=_;lia);rw[jN,jN];show k2 gH ((gH (.lst (([0]:List Int).map D.int)) (.lst (ws.map D.int))).map _) _=_;rw[h1,PM];show(gH (.lst (([0]++ws).map D.int)) (.lst (([e]:List Int).map D.int))).map _=_;rw[h2];rfl
theorem abO(ht:zT t4)(hl:ws.length<63):bW (rW size bad kd bh e t4 ws)=some (.nx (rW size bad kd bh e t4 (lF size bad e ws))):=by
 have hz:ws.length<PySem.sizeLine:=by unfold PySem.sizeLine;lia
 have h1:fN (iK (tV (e2 jf (aj 1) (eC .az))) (tV (e2 (jo true) (aj 0) (aj 5)))) (mR 5 (aj 0)) (mR 5 (cP yU (au (e2 gH (e2 gH (iG (au (eC (.int 0)) aE)) (aj 5)) (iG (au (aj 4) aE))) aE))) (rW size bad kd bh e t4 ws)=some (.nx (rW size bad kd bh e t4 (ws++[pick size bad e ws]))):=by
  rw[jn,adP];unfold pick
  by_cases hb:(bad.isNone&&!(ws.any (· == size)))=true
  .rw[hb,LO,if_pos rfl,E1 rfl rfl hz,K8 ht]
  .have yG:(bad.isNone&&!(ws.any (· == size)))=false:=by simpa using hb
   have hm:cP yU (au (e2 gH (e2 gH (iG (au (eC (.int 0)) aE)) (aj 5)) (iG (au (aj 4) aE))) aE) (rW size bad kd bh e t4 ws)=some (.int (mid (fence ws e)),.own):=by
    rw[s_call,aR,Yi hl,xX,Af,MU];simp only[aao,agX];have:=Vi 0 (ws++[e]);rw[aao] at this;rw[this];rfl
   rw[yG,O2,if_neg abk,E1 hm rfl hz,K8 ht]
 unfold bW;rw[j0,h1,pX,iO,yM];show B8 5 _ ((i7 (.lst ((ws++[pick size bad e ws]).map D.int))).map _)=_;rw[aaR (by rw[abD];show ws.length+1<64;lia)];rfl
theorem NL(ht:zT t4)(hh:bh<=60):∀(n:Nat) (ws:List Int) (m:Nat),bh-ws.length<=n->n<m->iN cW bW m (rW size bad kd bh e t4 ws)=some (.nx (rW size bad kd bh e t4 (kU size bad e bh n ws)))
 |_,_,0,_,h=>absurd h (Nat.not_lt_zero _)
 |0,ws,m+1,h,_=>by
  have:¬((ws.length:Int)<lim e bh):=by unfold lim;split<;>lia
  rw[iN,PY,ab8 this];rfl
 |n+1,ws,m+1,h,hm=>by
  rw[iN,PY];unfold kU
  by_cases hc:(ws.length:Int)<lim e bh
  .have h1:(ws.length:Int)<bh:=by unfold lim at hc;split at hc<;>lia
   rw[aaq hc,if_pos hc];dsimp only;rw[abO ht (by lia)];exact NL ht hh n (lF size bad e ws) m (by rw[CD];lia) (by lia)
  .rw[ab8 hc,if_neg hc]
end
noncomputable def lD(e:Int)(ks:List Int):List Int:=ks.filter λk=>decide (k<e)
noncomputable def kI(e:Int):D->Option D
 |.int i=>if decide (i<e)=true then some (.int i) else none
 |_=>none
theorem HF(e:Int):∀ks:List Int,(ks.map D.int).filterMap (kI e)=(lD e ks).map D.int
 |[]=>rfl
 |k::r=>by
  unfold lD;rw[aao,aeD,agA];have hk:kI e (D.int k)=if decide (k<e)=true then some (D.int k) else none:=rfl
  by_cases h:decide (k<e)=true
  .rw[hk,if_pos h,if_pos h,aao];dsimp only;rw[HF e r];rfl
  .rw[hk,if_neg h,if_neg h];exact HF e r
theorem aeI{js:List (Option Nat)}(hi:it ρ=some (ks.map D.int,t))(hj:ja js ρ=[none,some (.int e,.sh [])])(hl:ks.length<64):
  gR js it (gN 0) (tV (e2 oLt (aj 0) (aj 1))) (aj 0) ρ=some (.lst ((lD e ks).map D.int),.own):=by
 have hc:=ji (g:=gN 0) (tt:=tV (e2 oLt (aj 0) (aj 1))) (te:=aj 0) (k:=kI e) hi (by rw[List.length_map];unfold PySem.sizeLine;lia) (λd m=>by
  obtain⟨i,mi,rfl⟩:=abY.mp m;rw[hj];show _=some (if decide (i<e)=true then some (D.int i) else none)
  by_cases h:decide (i<e)=true
  .rw[if_pos h];refine ur rfl ?_ rfl rfl;show some (decide (i<e))=_;rw[h]
  .rw[if_neg h];refine wC rfl ?_;show some (decide (i<e))=_;rw[af9.mpr h])
 rw[hc,HF]
theorem aa1{bad:Option Int}(h0:aj 0 ρ=some (.int size,.sh []))(h1:aj 1 ρ=some (jX bad,.sh [])):∃t,zT t/\o9 (tV (e2 jf (aj 1) (eC .az))) (e2 gI (aj 0) (eC (.int 1))) (aj 1) ρ=some (.int (endOf size bad),t):=by
 have hc:tV (e2 jf (aj 1) (eC .az)) ρ=some bad.isNone:=by
  rw[zQ,jN,h1,HD,xU,aeQ,NZ];rfl
 cases bad with
 |none=>exact⟨.own,.inl rfl,by rw[NI (by rw[hc];rfl),jN,h0,HD,xU,lJ];rfl⟩
 |some b=>exact⟨.sh [],.inr rfl,by rw[LU (by rw[hc];rfl),h1];rfl⟩
def W(size:Int)(bad:Option Int)(ks:List Int)(bh:Int):List Int:=kU size bad (endOf size bad) bh 100 (lD (endOf size bad) ks)
theorem adg{bad:Option Int}(hh:bh<=60)(hl:ks.length<64)(kd:D)(hk:d7 (aj 2) [some (.int size,.sh []),some (jX bad,.sh []),some (kd,.sh []),some (.int bh,.sh []),none,none]=some (ks.map D.int,.sh []))
  (XC:∀t,d7 (aj 2) [some (.int size,.sh []),some (jX bad,.sh []),some (kd,.sh []),some (.int bh,.sh []),some (.int (endOf size bad),t),none]=some (ks.map D.int,.sh [])) :
  Jw [.int size,jX bad,kd,.int bh]=some (.lst ((W size bad ks bh).map D.int)):=by
 refine bY rfl ?_;show EV [some (.int size,.sh []),some (jX bad,.sh []),some (kd,.sh []),some (.int bh,.sh []),none,none]=_;unfold EV;obtain⟨t4,ht,h1⟩:=aa1 (ρ:=[some (.int size,.sh []),some (jX bad,.sh []),some (kd,.sh []),some (.int bh,.sh []),none,none]) rfl rfl;have q1:dJ 4 (o9 (tV (e2 jf (aj 1) (eC .az))) (e2 gI (aj 0) (eC (.int 1))) (aj 1)) [some (.int size,.sh []),some (jX bad,.sh []),some (kd,.sh []),some (.int bh,.sh []),none,none]=some (.nx [some (.int size,.sh []),some (jX bad,.sh []),some (kd,.sh []),some (.int bh,.sh []),some (.int (endOf size bad),t4),none]):=by
  rw[iO,h1];rcases ht with rfl|rfl<;>rfl
 have q2:dJ 5 (gR [none,some 4] (d7 (aj 2)) (gN 0) (tV (e2 oLt (aj 0) (aj 1))) (aj 0)) [some (.int size,.sh []),some (jX bad,.sh []),some (kd,.sh []),some (.int bh,.sh []),some (.int (endOf size bad),t4),none]=some (.nx (rW size bad kd bh (endOf size bad) t4 (lD (endOf size bad) ks))):=by
  rw[iO,aeI (XC t4) rfl hl];rfl
 have q3:=NL (size:=size) (bad:=bad) (kd:=kd) (e:=endOf size bad) ht hh 100 (lD (endOf size bad) ks) 4000 (by lia) (by lia);rw[j0,q1,pX,j0,q2,pX,j0,q3,pX];rfl
theorem acz{bad:Option Int}(hh:bh<=60)(hl:ks.length<64):Jw [.int size,jX bad,.lst (ks.map D.int),.int bh]=some (.lst ((W size bad ks bh).map D.int)):=adg hh hl _ rfl λ_=>rfl
theorem Qu{bad:Option Int}(hh:bh<=60):∀(n:Nat) (ws:List Int),ws.length<64->(kU size bad e bh n ws).length<64
 |0,ws,h=>h
 |n+1,ws,h=>by
  unfold kU
  split
  .rename_i hc;refine Qu hh n _ ?_;rw[CD];unfold lim at hc
   split at hc<;>lia
  .exact h
theorem U9{bad:Option Int}(hh:bh<=60)(hl:ks.length<64):(W size bad ks bh).length<64:=Qu hh _ _ (agp (afO _ _) hl)
structure mG(e:Int)(ws:List Int):Prop where
 so:ws.Pairwise (· < ·)
 bd:∀x∈ws,1<=x/\x<e
theorem between:∀{f:List Int}{q:Int×Int}{x:Int},f.Pairwise (· < ·)->q∈pairs f->x∈f->x<=q.1\/q.2<=x
 |[],q,x,_,m,_=>by cases m
 |[a],q,x,_,m,_=>by cases m
 |a::b::r,q,x,hp,m,mx=>by
  obtain⟨h1,h2⟩:=adS.mp hp;have hs:pairs (a::b::r)=(a,b)::pairs (b::r):=rfl;rw[hs] at m;rcases aaA.mp m with hq|m'
  .subst hq;rcases aaA.mp mx with hx|vd
   .exact .inl (by show x<=a;lia)
   .rcases aaA.mp vd with hx|mx2
    .exact .inr (by show b<=x;lia)
    .have:=(adS.mp h2).1 x mx2;exact .inr (by show b<=x;lia)
  .rcases aaA.mp mx with hx|vd
   .have:=h1 q.1 (FL m').1;exact .inl (by lia)
   .exact between h2 m' vd
theorem aey(h:mG e ws)(he:1<=e):(fence ws e).Pairwise (· < ·):=by
 refine adS.mpr ⟨λx m=>?_,List.pairwise_append.mpr ⟨h.so,List.pairwise_singleton _ _,λx m y my=>?_⟩⟩
 .rcases abl.mp m with m|m
  .have:=h.bd x m;lia
  .cases aaU.mp m;lia
 .cases aaU.mp my;exact(h.bd x m).2
theorem aec(h:mG e ws)(hl:(ws.length:Int)<e-1):mid (fence ws e)<e/\mid (fence ws e)∉ws:=by
 have hf:=aey h (by lia);obtain⟨q,m,hq⟩:∃q∈pairs (fence ws e),2<=q.2-q.1:=by
  refine agc λhn=>?_
  have:=Fj (ws++[e]) 0 λq m=>by
   refine agc λh=>hn ⟨q,m,by lia⟩
  have q1:(0::(ws++[e])).getLastD 0=e:=by rw[show(0::(ws++[e]))=(0::ws)++[e] from rfl,List.getLastD_concat]
  rw[q1,abD,adR] at this
  lia
 have hb:=(CG (pairs (fence ws e)) ((fence ws e).headD 0,(fence ws e).headD 0)).2 q m;unfold mid;dsimp only;rcases Br (pairs (fence ws e)) ((fence ws e).headD 0,(fence ws e).headD 0) with h'|h'
 .rw[h'] at hb;dsimp only at hb
  lia
 .generalize best ((fence ws e).headD 0,(fence ws e).headD 0) (pairs (fence ws e))=p at hb h';have h2:p.2<=e:=by
   have:=(FL h').2;rcases aaA.mp this with z|z
   .lia
   .rcases abl.mp z with z|z
    .have:=(h.bd _ z).2;lia
    .rw[aaU.mp z];exact Int.le_refl _
  refine⟨by lia,λmx=>?_⟩;rcases between hf h' (aab _ (abj _ mx)) with z|z<;>lia
section
variable{size bh e:Int}{bad:Option Int}
theorem aev(h:mG e ws)(he:e=endOf size bad)(hl:(ws.length:Int)<e-1):1<=pick size bad e ws/\pick size bad e ws<e/\pick size bad e ws∉ws:=by
 unfold pick
 split
 .rename_i hc;cases bad with
  |none=>
   have he:e=size+1:=he;refine⟨by lia,by lia,λm=>?_⟩;have:ws.any (· == size)=true:=adY.mpr ⟨size,m,aen size⟩;rw[this] at hc;cases hc
  |some b=>cases hc
 .obtain⟨h1,h2⟩:=aec h hl;exact⟨ZH (λx m=>(h.bd x m).1) hl,h1,h2⟩
theorem acw(h:mG e ws)(he:e=endOf size bad)(hl:(ws.length:Int)<e-1):mG e (lF size bad e ws)/\∀x∈ws,x∈lF size bad e ws:=by
 obtain⟨p1,p2,p3⟩:=aev h he hl;have hp:(lF size bad e ws).Perm (ws++[pick size bad e ws]):=qI _;have hn:(lF size bad e ws).Nodup:=by
  refine hp.nodup_iff.mpr (acR.mpr ⟨h.so.imp λcU=>Int.ne_of_lt cU,ab4.mpr ⟨(λm=>by cases m),acW⟩,λa ma b mb e=>?_⟩);cases aaU.mp mb;exact p3 (e ▸ ma)
 refine⟨⟨?_,λx m=>?_⟩,λx m=>hp.mem_iff.mpr (abj _ m)⟩
 .have hs:(lF size bad e ws).Pairwise (·<=·):=Bs _;exact(List.pairwise_and_iff.mpr ⟨hs,hn⟩).imp λh=>by have h1:=h.1;have h2:=h.2;lia
 .rcases abl.mp (hp.mem_iff.mp m) with m|m
  .exact h.bd x m
  .rw[aaU.mp m];exact⟨p1,p2⟩
theorem R0(he:e=endOf size bad):∀(n:Nat) (ws:List Int),mG e ws->mG e (kU size bad e bh n ws)/\∀x∈ws,x∈kU size bad e bh n ws
 |0,ws,h=>⟨h,λx m=>m⟩
 |n+1,ws,h=>by
  unfold kU
  split
  .rename_i hc;have hl:(ws.length:Int)<e-1:=by unfold lim at hc;split at hc<;>lia
   obtain⟨a,b⟩:=acw h he hl;obtain⟨c,d⟩:=R0 he n (lF size bad e ws) a;exact⟨c,λx m=>d x (b x m)⟩
  .exact⟨h,λx m=>m⟩
end
theorem Ws{bad:Option Int}(h:ks.Pairwise (· < ·))(h1:∀x∈ks,1<=x):mG (endOf size bad) (W size bad ks bh)/\∀x∈ks,x<endOf size bad->x∈W size bad ks bh:=by
 have hi:mG (endOf size bad) (lD (endOf size bad) ks):=⟨h.sublist afq,λx m=>let q:=acO.mp m;⟨h1 x q.1,aaC q.2⟩⟩
 obtain⟨a,b⟩:=R0 rfl 100 _ hi;exact⟨a,λx m hx=>b x (acO.mpr ⟨m,aaq hx⟩)⟩
theorem QD{size e bh:Int}{bad:Option Int}:∀(n:Nat) (ws:List Int),bh-ws.length<=n->lim e bh<=(kU size bad e bh n ws).length/\((ws.length:Int)<=bh->((kU size bad e bh n ws).length:Int)<=bh)
 |0,ws,h=>⟨by unfold kU lim;split<;>lia,id⟩
 |n+1,ws,h=>by
  unfold kU
  by_cases hc:(ws.length:Int)<lim e bh
  .rw[if_pos hc];have h2:lim e bh<=bh:=by unfold lim;split<;>lia
   obtain⟨a,b⟩:=QD (bh:=bh) n (lF size bad e ws) (by rw[CD];lia);exact⟨a,λ_=>b (by rw[CD];lia)⟩
  .rw[if_neg hc];exact⟨by lia,id⟩
theorem qv(hl:ds.length+1=n)(h:b (Bb N d0 ds)=some (.nx ρ))(h0:ρ[0]? = some (some (d1,.own))):runM n N b d0 ds=some (.az,d1):=by unfold runM;rw[if_pos hl,h];dsimp only;rw[h0]
noncomputable def hs(h:List Str):D:=.lst (h.map D.str)
def tob(n t:Int)(h:List Str):D:=.ins "Tally" [("need",.int n),("tries",.int t),("heard",hs h)]
theorem RJ(h:1<=n/\n<=t/\t<=20):UH [.int n,.int t]=some (.bl true):=
 bY rfl (cC (qX (b:=true) (cL rfl (Ai.trans (by rw[aaq (show(1:Int)<=t by omega),aaq h.2.2];rfl))) (cL rfl (Ai.trans (by rw[aaq h.1,aaq h.2.1];rfl)))))
theorem aay(h:1<=n/\n<=t/\t<=20):Ca (.ins "Tally" []) [.int n,.int t]=some (.az,tob n t []):=
 qv rfl (cK (kN (a_ (cL (ps:=[(.int n,.sh []),(.int t,.sh [])]) rfl (RJ h)))) rfl) rfl
theorem Rl:vV (hs h) (.str w)=some (.int (dX w h)):=by
 show(kK (h.map D.str)).map (λys=>D.int (dX w ys))=_;rw[Sq];rfl
theorem Sx:dX w (h++[v])=dX w h+(if(v==w)=true then 1 else 0):=by
 unfold dX;rw[List.countP_append,List.countP_cons,List.countP_nil,agv]
theorem JV:eS (hs h)=some (.int h.length):=by unfold hs;rw[vo,List.length_map]
def word(n t:Int)(h:List Str):Str:=if(dX "yes" h:Int) >= n then "yes" else if(dX "no" h:Int) >= n then "no" else if(h.length:Int) >= t then "unsure" else "more"
theorem Qd:Ni [tob n t h]=some (.str (word n t h)):=by
 have c1:∀w:Str,tV (e2 Bh (e2 vV (bV "Tally" "heard" (aj 0)) (eC (.str w))) (bV "Tally" "need" (aj 0))) [some (tob n t h,.sh [])]=some (decide ((dX w h:Int) >= n)):=λw=>a_ (aG (aG rfl rfl Rl) rfl rfl)
 have c2:tV (e2 Bh (e1 eS (bV "Tally" "heard" (aj 0))) (bV "Tally" "tries" (aj 0))) [some (tob n t h,.sh [])]=some (decide ((h.length:Int) >= t)):=a_ (aG (bA rfl JV) rfl rfl);refine bY rfl ?_;unfold word
 by_cases a1:(dX "yes" h:Int) >= n
 .rw[if_pos a1];exact qo ((c1 _).trans (by rw[aaq a1])) (fG rfl)
 .rw[if_neg a1];refine cK ((c1 _).trans (by rw[ab8 a1])) ?_
  by_cases a2:(dX "no" h:Int) >= n
  .rw[if_pos a2];exact qo ((c1 _).trans (by rw[aaq a2])) (fG rfl)
  .rw[if_neg a2];refine cK ((c1 _).trans (by rw[ab8 a2])) ?_
   by_cases a3:(h.length:Int) >= t
   .rw[if_pos a3];exact qo (c2.trans (by rw[aaq a3])) (fG rfl)
   .rw[if_neg a3];exact cK (c2.trans (by rw[ab8 a3])) rfl
theorem Au:∀h:List Str,aL (h.map D.str)=true
 |[]=>rfl
 |x::h=>by rw[aao];unfold aL;rw[Au h];rfl
theorem abA(hw:w∈(["yes","no","unsure"]:List Str))(hm:word n t h="more")(hl:h.length<=100):RZ (tob n t h) [.str w]=some (.str (word n t (h++[w])),tob n t (h++[w])):=by
 have m1:∀h:List Str,bP "Tally" "word" Ni (aj 0) aE [some (tob n t h,.own),some (.str w,.sh [])]=some (.str (word n t h),.own):=λh=>lA rfl rfl rfl Qd
 refine lM rfl (cK ?_ (cK (a_ (aG (m1 h) rfl (by rw[hm];rfl))) (sq (ρ':=[some (tob n t (h++[w]),.own),some (.str w,.sh [])]) (gu ?_) ?_)))
 .simp only[aaA,adB,agr] at hw;rcases hw with rfl|rfl|rfl<;>rfl
 .refine(A5 rfl rfl rfl (by rw[Au,List.length_map,aaq (size_le (by lia))];rfl)).trans ?_;unfold tob hs;rw[adp];rfl
 .unfold qD;rw[m1 (h++[w])];rfl
theorem Ke(hm:word n t h="more"):(h.length:Int)<t:=by
 unfold word at hm
 split at hm
 .exists 69
 .split at hm
  .exists 69
  .split at hm
   .exists 69
   .omega
noncomputable abbrev Ta:=List (List Int×List Str)
structure G where
 w:Int
 h:Int
 n:Int
 t:Int
 C:List Ch
 ln:List Int
 ld:List Int
 gr:List (Key×D)
 ta:Ta
 lk:List (List Int)
 ht:Bool
 gw:List (List Int)
 en:List D
 an:Int
 br:Int
noncomputable def tD(l:List Int):D:=.tup (l.map D.int)
noncomputable def kL(l:List Int):List Key:=l.map Sum.inl
def qg(n t:Int)(ta:Ta):List (List Key×D):=ta.map λp=>(kL p.1,tob n t p.2)
def gF(g:G):List (Str×D):=[("numbers",.tup [.int g.w,.int g.h,.int g.n,.int g.t]),("known",obj g.C),("on_line",iL g.ln),("laid_ones",iL g.ld),("grounds",.bf g.gr),("tallies",.cj (qg g.n g.t g.ta)),("looks",.lst (dQ g.lk)),("halted",.bl g.ht),("grown",.lst (dQ g.gw)),("ended",.lst g.en),("answers",.int g.an),("breaks",.int g.br)]
def gD(g:G):D:=.ins "Gate" (gF g)
theorem CO(h:fo ρ=some (obj C,t))(ha:fa ρ=some (x,t2))(hF:F [obj C,x]=some d)(hm:(mm==("entries":Str))=false:=by decide):bP "Changes" mm F fo (au fa aE) ρ=some (d,.own):=
 lA (ps:=[(x,t2)]) h (Bg hm) (by rw[aR,ha,xX,Af]) hF
theorem fl(h:fo ρ=some (gD g,t))(e:(gF g).lookup f=some d:=by rfl):bV "Gate" f fo ρ=some (d,k_ t):=by
 unfold bV;rw[h];show(if("Gate":Str)="Gate" then((gF g).lookup f).map _ else none)=_;rw[if_pos rfl,e];rfl
theorem eK(h:fo ρ=some (gD g,t))(hF:F [gD g]=some d)(hm:(gF g).lookup mm=none:=by rfl):bP "Gate" mm F fo aE ρ=some (d,.own):=lA h hm rfl hF
theorem qw(h:fo ρ=some (gD g,t))(ha:fa ρ=some (x,t2))(hF:F [gD g,x]=some d)(hm:(gF g).lookup mm=none:=by rfl):bP "Gate" mm F fo (au fa aE) ρ=some (d,.own):=
 lA (ps:=[(x,t2)]) h hm (by rw[aR,ha,xX,Af]) hF
def aN(gr:List (Key×D))(x:Int):Bool:=(aS gr (Sum.inl x:Key)).isSome
abbrev fW(g:G)(x:Int):Bool:=aN g.gr x
def BZ(g:G)(x:Int):Bool:=!decide (x∈g.ln)&&(!decide (x∈g.ld)&&!fW g x)
theorem O8(h:f ρ=some (.int x,t))(h2:f2 ρ=some (iL l,t2)):e2 (jo true) f f2 ρ=some (.bl (!decide (x∈l)),.own):=
 aG h h2 (by rw[<- zP];exact uA)
theorem WT:YJ [gD g,.int x]=some (.bl (BZ g x)):=
 bY rfl (cC (qX (O8 rfl (fl rfl)) (qX (O8 rfl (fl rfl)) (aG rfl (fl rfl) rfl))))
def wl(g:G):List Int:=(bK 1 g.C.length).filter (BZ g)
theorem jr:(bK a n).length=n:=by unfold bK;rw[List.length_map,agu]
theorem qy(hR:g.C.length<=100):rV [gD g]=some (iL (wl g)):=by
 have hi:qV (eC (.int 1)) (e2 gI (bP "Changes" "many" BG (bV "Gate" "known" (aj 0)) aE) (eC (.int 1))) [some (gD g,.sh [])]=some ((bK 1 g.C.length).map D.int,.own):=by
  rw[Cu rfl (aG (lA (fl rfl) rfl rfl (Bt g.C)) rfl rfl) (oY (by lia) (by lia)) (oY (by lia) (by lia)),show((g.C.length:Int)+1-1).toNat=g.C.length by lia]
 exact bY rfl (cC (tR hi (by rw[jr];lia) (λx=>rfl) (λx mx=>a_ (qw rfl rfl WT))))
theorem gO:x∈wl g↔(1<=x/\x<=(g.C.length:Int))/\x∉g.ln/\x∉g.ld/\fW g x=false:=by
 unfold wl;rw[acO,eO];unfold BZ;simp only[aaV,Bool.not_eq_true',decide_eq_false_iff_not];exact and_congr_left λ_=>by lia
theorem oX:Row g.C (wl g):=λx m=>(gO.mp m).1
theorem wB:(wl g).Pairwise (· < ·):=(x6 1 _).sublist afq
theorem AL:(wl g).Nodup:=wB.imp (λh=>by lia)
theorem xK:(wl g).length<=g.C.length:=by
 have:=afO (BZ g) (bK 1 g.C.length)
 rwa [jr] at this
noncomputable def gv{κ α:Type}[DecidableEq κ](es:List (κ×α))(k:κ):Option α:=(es.find? λkv=>decide (kv.1=k)).map (·.2)
noncomputable def gp{κ α:Type}[DecidableEq κ](es:List (κ×α))(k:κ)(d:α):List (κ×α):=if(es.any λkv=>decide (kv.1=k))=true then es.map (λkv=>if kv.1=k then(kv.1,d) else kv) else es++[(k,d)]
theorem yZ[DecidableEq κ]{es:List (κ×α)}:gv (gp es k d) k=some d:=by
 unfold gv gp
 by_cases h:(es.any λkv=>decide (kv.1=k))=true
 .rw[if_pos h]
  induction es with
  |nil=>cases h
  |cons a r ih=>
   rw[aao]
   by_cases z:a.1=k
   .rw[if_pos z,List.find?_cons_of_pos (by simpa using z)];rfl
   .rw[if_neg z,af8 (by simpa using z)];exact ih (by rw[afV,ab8 z,Bool.false_or] at h;exact h)
 .rw[if_neg h,ag6];have:es.find? (λkv=>decide (kv.1=k))=none:=by
   rw[af3];intro x m e;exact h (adY.mpr ⟨x,m,e⟩)
  rw[this];simp
theorem BX[DecidableEq κ]{es:List (κ×α)}(h:j≠k):gv (gp es k d) j=gv es j:=by
 unfold gv gp
 congr 1
 split
 .rename_i hh;clear hh
  induction es with
  |nil=>rfl
  |cons a r ih=>
   rw[aao]
   by_cases z:a.1=k
   .rw[if_pos z];have:¬a.1=j:=λe=>h (e.symm.trans z)
    rw[af8 (by simpa using this),af8 (by simpa using this)];exact ih
   .rw[if_neg z]
    by_cases y:a.1=j
    .rw[List.find?_cons_of_pos (by simpa using y),List.find?_cons_of_pos (by simpa using y)]
    .rw[af8 (by simpa using y),af8 (by simpa using y)];exact ih
 .rw[ag6,af8 (by simpa using λe:k=j=>h e.symm)];simp
theorem acr{κ:Type}{k:κ}[DecidableEq κ]{es:List (κ×D)}:(aS (putD es k d) k)=some d:=yZ
theorem acA{κ:Type}{j k:κ}[DecidableEq κ]{es:List (κ×D)}(h:j≠k):aS (putD es k d) j=aS es j:=BX h
theorem kT{gr:List (Key×D)}:aN (putD gr (Sum.inl x) d) y=(decide (y=x)||aN gr y):=by
 unfold aN
 by_cases h:y=x
 .rw[h,acr,aaq rfl];rfl
 .rw[acA (λe=>by injection e with e;exact h e),ab8 h];rfl
theorem qT:aL ds=true↔∀d∈ds,aB d=true:=by
 induction ds with
 |nil=>exact⟨λ_ d m=>(nomatch m),λ_=>rfl⟩
 |cons a r ih=>
  unfold aL;rw[aaV,ih];exact⟨λh d m=>(aaA.mp m).elim (λe=>e ▸ h.1) (h.2 d),λh=>⟨h a aad,λd m=>h d (aab _ m)⟩⟩
theorem Zp[DecidableEq κ]{es:List (κ×D)}(h:aL (es.map (·.2))=true)(hd:aB d=true):aL ((putD es k d).map (·.2))=true:=by
 rw[qT] at h ⊢;intro y m;obtain⟨kv,mk,rfl⟩:=abY.mp m;unfold putD at mk
 split at mk
 .obtain⟨x,mx,rfl⟩:=abY.mp mk
  split
  .exact hd
  .exact h _ (abY.mpr ⟨x,mx,rfl⟩)
 .rcases abl.mp mk with mk|mk
  .exact h _ (abY.mpr ⟨kv,mk,rfl⟩)
  .cases aaU.mp mk;exact hd
theorem P7[DecidableEq κ]{es:List (κ×α)}:(gp es k d).map (·.1)=if k∈es.map (·.1) then es.map (·.1) else es.map (·.1)++[k]:=by
 unfold gp
 by_cases h:(es.any λkv=>decide (kv.1=k))=true
 .rw[if_pos h,if_pos (by obtain⟨x,m,e⟩:=adY.mp h;exact abY.mpr ⟨x,m,aaC e⟩),ade];refine afX λa _=>?_
  show(if a.1=k then(a.1,d) else a).1=a.1
  split<;>rfl
 .rw[if_neg h,if_neg (λm=>by obtain⟨x,m,e⟩:=abY.mp m;exact h (adY.mpr ⟨x,m,aaq e⟩)),adp];rfl
theorem Gm[DecidableEq κ]{es:List (κ×α)}(h:(es.map (·.1)).Nodup):((gp es k d).map (·.1)).Nodup:=by
 rw[P7]
 split
 .exact h
 .rename_i hk;exact acR.mpr ⟨h,by simp,λa ma b mb e=>by cases aaU.mp mb;exact hk (e ▸ ma)⟩
structure Gr(n:Nat)(gr:List (Key×D)):Prop where
 im:aL (gr.map (·.2))=true
 nd:(gr.map (·.1)).Nodup
 ks:∀k∈gr.map (·.1),∃x:Int,k=Sum.inl x/\x∈bK 1 n
 tp:∀p∈gr,(IM p.2).isSome=true
theorem zZ[DecidableEq κ]{es:List (κ×α)}(m:q∈gp es k d):q∈es\/q=(k,d):=by
 unfold gp at m
 split at m
 .obtain⟨p,mp,rfl⟩:=abY.mp m
  split
  .rename_i e;exact .inr (by rw[e])
  .exact .inl mp
 .exact(abl.mp m).imp id aaU.mp
theorem Gr.put(h:Gr n gr)(hx:x∈bK 1 n)(hd:aB d=true)(ht:(IM d).isSome=true:=by rfl):Gr n (putD gr (Sum.inl x) d):=⟨Zp h.im hd,Gm h.nd,λk m=>by
 have m:k∈(gp gr (Sum.inl x) d).map (·.1):=m;rw[P7] at m
 split at m
 .exact h.ks k m
 .rcases abl.mp m with m|m
  .exact h.ks k m
  .exact⟨x,aaU.mp m,hx⟩,λp m=>(zZ m).elim (h.tp p) λe=>by rw[e];exact ht⟩
theorem ze(h:aN gr x=false):putD gr (Sum.inl x) d=gr++[(Sum.inl x,d)]:=by
 unfold putD;rw[if_neg];intro q;obtain⟨kv,m,e⟩:=adY.mp q;unfold aN aS at h;rw[agg] at h;have:=(List.find?_isSome (p:=λkv:Key×D=>decide (kv.1=Sum.inl x))).mpr ⟨kv,m,e⟩;rw[h] at this;cases this
def cnt(gr:List (Key×D)):Nat:=(Qo "look" gr).length
theorem MQ:cnt (a++b)=cnt a+cnt b:=by
 unfold cnt Qo;rw[List.filter_append,adp,abD]
theorem Kn(h:a <+: b):cnt a<=cnt b:=by
 obtain⟨r,rfl⟩:=h;rw[MQ];lia
noncomputable def kG:List (Key×D)->List Int
 |[]=>[]
 |(.inl x,_)::r=>x::kG r
 |_::r=>kG r
theorem qP:∀{gr},(∀k∈gr.map (·.1),∃x:Int,k=Sum.inl x/\x∈bK 1 n)->gr.map (·.1)=(kG gr).map Sum.inl/\ig gr=some (kG gr)
 |[],_=>⟨rfl,rfl⟩
 |(k,d)::r,h=>by
  obtain⟨x,e,_⟩:=h k aad;obtain⟨a,b⟩:=qP λk m=>h k (aab _ m)
  have e:=e;subst e;refine⟨by rw[aao,a];rfl,?_⟩;show(ig r).map _=_;rw[b];rfl
theorem afP{l:List Int}:(l.map (Sum.inl:Int->Key)).Nodup↔l.Nodup:=by
 unfold List.Nodup;rw[agb];exact⟨λh=>h.imp λq e=>q (by rw[e]),λh=>h.imp λq e=>q (agx e)⟩
theorem Gr.nK{gr:List (Key×D)}(h:Gr n gr):(kG gr).Nodup:=afP.mp ((qP h.ks).1 ▸ h.nd)
theorem Gr.mem{gr:List (Key×D)}(h:Gr n gr):x∈kG gr↔aN gr x=true:=by
 have e:=(qP h.ks).1;unfold aN aS;rw[agg,List.find?_isSome];constructor
 .intro m;have:(Sum.inl x:Key)∈gr.map (·.1):=e ▸ abY.mpr ⟨x,m,rfl⟩;obtain⟨kv,mk,q⟩:=abY.mp this;exact⟨kv,mk,aaq q⟩
 .rintro⟨kv,mk,q⟩
  have:(Sum.inl x:Key)∈gr.map (·.1):=abY.mpr ⟨kv,mk,aaC q⟩;rw[e] at this;obtain⟨y,my,q⟩:=abY.mp this;exact agx q ▸ my
theorem Gr.bd{gr:List (Key×D)}(h:Gr n gr)(m:aN gr x=true):x∈bK 1 n:=by
 have:(Sum.inl x:Key)∈gr.map (·.1):=(qP h.ks).1 ▸ abY.mpr ⟨x,h.mem.mpr m,rfl⟩;obtain⟨y,e,q⟩:=h.ks _ this;exact agx e ▸ q
theorem Gr.len{gr:List (Key×D)}(h:Gr n gr):gr.length<=n:=by
 have:=sub_len h.nK λx m=>h.bd (h.mem.mp m)
 rw[jr] at this;have e:=congrArg List.length (qP h.ks).1;rw[List.length_map,List.length_map] at e
 lia
abbrev nA(ta:Ta)(l:List Int):Option (List Str):=gv ta l
def wd(g:G)(l:List Int):Str:=match nA g.ta l with
 |none=>"more"
 |some h=>word g.n g.t h
theorem se:∀l:List Int,iy (l.map D.int)=some (kL l)
 |[]=>rfl
 |x::l=>by
  rw[aao];unfold iy;rw[se l];rfl
theorem lU:∀{a b},kL a=kL b->a=b
 |[],[],_=>rfl
 |[],_::_,e=>by cases e
 |_::_,[],e=>by cases e
 |x::a,y::b,e=>by
  injection e with e1 e2;cases e1;rw[lU e2]
section
variable[DecidableEq κ][DecidableEq LA]{φ:κ->LA}{ψ:α->D}{k:κ}
theorem sQ(yj:∀a b,φ a=φ b->a=b):∀es:List (κ×α),aS (es.map λp=>(φ p.1,ψ p.2)) (φ k)=(gv es k).map ψ
 |[]=>rfl
 |p::r=>by
  have ih:=sQ yj r;unfold aS gv at ih ⊢;rw[aao,adA,adA,show decide ((φ p.1,ψ p.2).1=φ k)=decide (p.1=k) from agD.mpr ⟨yj _ _,λe=>by rw[<- e]⟩];cases decide (p.1=k) with
  |true=>rfl
  |false=>exact ih
theorem A3(yj:∀a b,φ a=φ b->a=b):putD (es.map λp=>(φ p.1,ψ p.2)) (φ k) (ψ d)=(gp es k d).map λp=>(φ p.1,ψ p.2):=by
 unfold putD gp;rw[agw,show es.any ((λkv:LA×D=>decide (kv.1=φ k)) ∘ λp=>(φ p.1,ψ p.2))=es.any λp=>decide (p.1=k) from congrArg es.any (funext λp=>agD.mpr ⟨yj _ _,λe=>by rw[<- e]⟩)]
 split
 .rw[ade,ade];refine afX λp _=>?_
  simp only[Function.comp]
  by_cases z:p.1=k
  .rw[if_pos (by rw[z]),if_pos z]
  .rw[if_neg λq=>z (yj _ _ q),if_neg z]
 .rw[adp];rfl
end
theorem N7(ta:Ta):aS (qg n t ta) (kL l)=(nA ta l).map (tob n t):=sQ (λ_ _=>lU) ta
theorem Et:Ck [gD g,tD l]=some (.str (wd g l)):=by
 have v:=N7 (n:=g.n) (t:=g.t) (l:=l) g.ta;have vP:tV (e2 (Gz false) (aj 1) (bV "Gate" "tallies" (aj 0))) [some (gD g,.sh []),some (tD l,.sh [])]=some (aS (qg g.n g.t g.ta) (kL l)).isSome:=a_ (aG rfl (fl rfl) (by
  show(iy (l.map D.int)).map _=_;rw[se];rfl))
 refine bY rfl (cC ?_);unfold wd;rw[v] at vP;cases e:nA g.ta l with
 |none=>rw[e] at vP;exact LU vP
 |some h=>
  rw[e] at vP v;refine(NI vP).trans (lA (t:=.sh []) ?_ rfl rfl Qd);unfold uW;rw[fl rfl,show aj 1 [some (gD g,.sh []),some (tD l,.sh [])]=some (tD l,.sh []) from rfl];show(iy (l.map D.int)).bind _=_;rw[se,ac0,v];rfl
noncomputable def gG(g:G)(p:Nat):List Int:=g.ln++g.ld.take p
theorem f_look{p:Nat}(hp:p<=g.ld.length)(hl:g.ln.length+g.ld.length<=1000):zp [gD g,.int p]=some (tD (gG g p)):=by
 have hc:pP (bV "Gate" "laid_ones" (aj 0)) (aj 1) [some (gD g,.sh []),some (.int p,.sh [])]=some (iL (g.ld.take p),.own):=by
  unfold pP;rw[fl rfl,show aj 1 [some (gD g,.sh []),some (.int p,.sh [])]=some (.int p,.sh []) from rfl];show(if aL (g.ld.map D.int)=true then some (D.lst (cutD (g.ld.map D.int) none (some (p:Int))),Tag.own) else none)=_;rw[if_pos (e_ _),Jk (by rw[List.length_map];exact hp),<- List.map_take];rfl
 have h1:=agW (i:=p) (l:=g.ld);exact bY rfl (cC (bA (aG (fl rfl) hc (qe (by rw[ae6];lia))) xy))
noncomputable def bw(s:Str):Bool:=(["no","unsure"]:List Str).any (· == s)
def lW(g:G)(p:Nat):Bool:=bw (wd g (gG g p))
def dH(g:G):Option Nat:=((List.range g.ld.length).map (· + 1)).find? (lW g)
noncomputable def bD:Option Nat->D
 |none=>.az
 |some p=>.int p
theorem Qx(hl:g.ln.length+g.ld.length<=1000):∀{ps:List Nat} {s1},(∀p∈ps,p<=g.ld.length)->∃qB,
  cz (gN 1) (.sh []) (fN (tV (e2 (pB false) (bP "Gate" "word_of" Ck (aj 0) (au (bP "Gate" "look_of" zp (aj 0) (au (aj 1) aE)) aE)) (eC (.tup ((["no","unsure"]:List Str).map D.str))))) (pL 1) g9) (ps.map λp:Nat=>D.int p) [some (gD g,.sh []),s1]=some (match ps.find? (lW g) with|none=>.nx [some (gD g,.sh []),qB]|some p=>.rt (.int p))
 |[],s1,_=>⟨s1,rfl⟩
 |p::ps,s1,h=>by
  obtain⟨a,e⟩:=Qx hl (λq m=>h q (aab _ m));have ht:tV (e2 (pB false) (bP "Gate" "word_of" Ck (aj 0) (au (bP "Gate" "look_of" zp (aj 0) (au (aj 1) aE)) aE)) (eC (.tup ((["no","unsure"]:List Str).map D.str)))) [some (gD g,.sh []),some (.int p,.sh [])]=some (lW g p):=
   a_ (aG (qw rfl (qw rfl rfl (f_look (h p aad) hl)) Et) rfl rfl)
  refine⟨a,?_⟩;rw[adA];cases eb:lW g p with
  |true=>
   rw[eb] at ht;exact yo (aQ:=[some (gD g,.sh []),some (.int p,.sh [])]) rfl (by rw[jn,ht];rfl)
  |false=>
   rw[eb] at ht;exact(kQ (aQ:=[some (gD g,.sh []),some (.int p,.sh [])]) rfl (by rw[jn,ht];rfl)).trans e
theorem aeW(n:Nat):(bK 1 n).map D.int=((List.range n).map (· + 1)).map λp:Nat=>D.int p:=by
 unfold bK;rw[ade,ade];refine afX λi _=>?_
 show D.int (1+(i:Int))=D.int ((i+1:Nat):Int);rw[show(1+(i:Int))=((i+1:Nat):Int) by lia]
theorem vW:p∈(List.range n).map (· + 1)↔1<=p/\p<=n:=by
 rw[abY];exact⟨λ⟨i,m,e⟩=>by have:=agS.mp m;lia,λh=>⟨p-1,agS.mpr (by lia),by lia⟩⟩
theorem FU{g:G}(hl:g.ln.length+g.ld.length<=900):Cy [gD g]=some (bD (dH g)):=by
 obtain⟨a,e⟩:=Qx (by lia) (ps:=(List.range g.ld.length).map (· + 1)) (λp m=>(vW.mp m).2);have hi:qV (eC (.int 1)) (e2 gI (e1 eS (bV "Gate" "laid_ones" (aj 0))) (eC (.int 1))) [some (gD g,.sh []),none]=some (((List.range g.ld.length).map (· + 1)).map λp:Nat=>D.int p,.own):=by
  rw[Cu rfl (aG (bA (fl rfl) (by show some (D.int (g.ld.map D.int).length)=_;rw[List.length_map])) rfl rfl) (oY (by lia) (by lia)) (oY (by lia) (by lia)),show((g.ld.length:Int)+1-1).toNat=g.ld.length by lia,aeW]
 refine bY rfl ?_;unfold dH;cases eb:((List.range g.ld.length).map (· + 1)).find? (lW g) with
 |none=>rw[eb] at e;exact sq (uI hi e) rfl
 |some p=>rw[eb] at e;exact fG (A0 hi e)
theorem zf(h:dH g=some p):1<=p/\p<=g.ld.length/\lW g p=true/\∀q,1<=q->q<p->lW g q=false:=by
 obtain⟨h1,as,bs,e,h2⟩:=List.find?_eq_some_iff_append.mp h;have hp:=vW.mp (show p∈(List.range g.ld.length).map (· + 1) from e ▸ aas _ aad);refine⟨hp.1,hp.2,h1,λq q1 q2=>?_⟩;have so:((List.range g.ld.length).map (· + 1)).Pairwise (· < ·):=agb.mpr (List.pairwise_lt_range.imp λh=>by lia);have mq:q∈(List.range g.ld.length).map (· + 1):=vW.mpr (by lia);rw[e] at so mq;rcases abl.mp mq with m|m
 .simpa using h2 q m
 .rcases aaA.mp m with m|m
  .lia
  .have:=(adS.mp (List.pairwise_append.mp so).2.1).1 q m;lia
theorem afK:dH g=none↔∀p,1<=p->p<=g.ld.length->lW g p=false:=by
 unfold dH;rw[af3];exact⟨λh p h1 h2=>by simpa using h p (vW.mpr ⟨h1,h2⟩),λh p m=>by simpa using h p (vW.mp m).1 (vW.mp m).2⟩
theorem HS:∀a b:List Int,PyData.eqvAll (a.map PyData.int) (b.map PyData.int)=decide (a=b)
 |[],[]=>rfl
 |[],_::_=>rfl
 |_::_,[]=>rfl
 |x::a,y::b=>by
  simp only[aao,PyData.eqvAll,PyData.eqv,HS a b]
  by_cases h:x=y<;>by_cases k:a=b<;>simp[h,k]
theorem Mh(l:List Int):py (tD l)=.tuple (l.map PyData.int):=by unfold tD;unfold py;rw[za]
theorem aei(l:List Int):dW (tD l)=true:=by
 unfold dW;have c1:fV (tD l)=true:=by unfold tD;unfold fV;exact Ao _
 rw[c1,Mh];have c2:(PyData.tuple (l.map PyData.int)).canLay0=true:=by simp only[PyData.canLay0];exact AI l
 have c3:(PyData.tuple (l.map PyData.int)).depth<=40:=by simp only[PyData.depth,depthAll_ints];lia
 rw[c2,aaq c3];rfl
theorem any_rows(l:List Int)(L:List (List Int)):((d9 (dQ L)).any λy=>PyData.eqv y (py (tD l)))=decide (l∈L):=by
 rw[D3,Mh,agw];have:((λy=>PyData.eqv y (PyData.tuple (l.map PyData.int))) ∘ j_)=λr=>decide (r=l):=funext λr=>by
  simp only[Function.comp,j_,PyData.eqv,HS]
 rw[this]
 by_cases h:l∈L
 .rw[aaq h];exact adY.mpr ⟨l,h,by simp⟩
 .rw[ab8 h,af9];intro e;obtain⟨y,my,ey⟩:=adY.mp e;exact h ((aaC ey) ▸ my)
theorem QN(neg:Bool)(l:List Int)(L:List (List Int)):A9 neg (tD l) (.lst (dQ L))=some (.bl (if neg=true then !decide (l∈L) else decide (l∈L))):=by
 show(if(dW (tD l)&&dW (.lst (dQ L)))=true then some (D.bl (if neg=true then !(d9 (dQ L)).any λy=>PyData.eqv y (py (tD l)) else(d9 (dQ L)).any λy=>PyData.eqv y (py (tD l)))) else none)=_;rw[aei,Wd,any_rows];rfl
def kp(g:G)(l:List Int):Bool:=decide (l∈g.lk)&&(wd g l == "more")
theorem TJ:Wo [gD g,tD l]=some (.bl (kp g l)):=
 bY rfl (cC (qX (aG rfl (fl rfl) (QN false l g.lk)) (aG (qw rfl rfl Et) rfl rfl)))
def kZ(g:G):List Int:=(bK 1 g.ld.length).filter λx=>kp g (gG g x.toNat)
def uz(g:G):Option Int:=(dH g).map λp:Nat=>(p:Int)
def uD(g:G):List Int:=W g.ld.length (uz g) (kZ g) g.h
def z9(g:G):List (List Int):=(uD g).map λp=>gG g p.toNat
theorem YK(o:Option Nat):bD o=jX (o.map λp:Nat=>(p:Int)):=by cases o<;>rfl
theorem rZ:(kZ g).Pairwise (· < ·)/\(∀x∈kZ g,1<=x/\x<=g.ld.length)/\(kZ g).length<=g.ld.length:=by
 refine⟨(x6 1 _).sublist afq,λx m=>by have:=eO.mp (acO.mp m).1;lia,?_⟩;have:=afO (λx=>kp g (gG g x.toNat)) (bK 1 g.ld.length)
 rwa [jr] at this
def eo(g:G):Int:=endOf g.ld.length (uz g)
theorem Pj:mG (eo g) (uD g)/\(∀p∈kZ g,p<eo g->p∈uD g):=
 Ws rZ.1 (λx m=>(rZ.2.1 x m).1)
theorem Qh:1<=eo g/\eo g<=g.ld.length+1:=by
 unfold eo uz;cases e:dH g with
 |none=>show 1<=(g.ld.length:Int)+1/\(g.ld.length:Int)+1<=_;lia
 |some p=>have:=zf e;show 1<=(p:Int)/\(p:Int)<=_;lia
theorem X4(hl:g.ln.length+g.ld.length<=900)(h6:g.ld.length<64)(hh:g.h<=60):ad5 [gD g]=some (.lst (dQ (z9 g))):=by
 have hi:qV (eC (.int 1)) (e2 gI (aj 1) (eC (.int 1))) [some (gD g,.sh []),some (.int g.ld.length,.own),none]=some ((bK 1 g.ld.length).map D.int,.own):=by
  rw[Cu rfl rfl (oY (by lia) (by lia)) (oY (by lia) (by lia)),show((g.ld.length:Int)+1-1).toNat=g.ld.length by lia]
 have look:∀{x:Int},1<=x->x<=g.ld.length->bP "Gate" "look_of" zp (aj 1) (au (aj 0) aE) [some (.int x,.sh []),some (gD g,.sh [])]=some (tD (gG g x.toNat),.own):=λ{x} h1 h2=>
  qw rfl rfl (by
   have:=f_look (g:=g) (p:=x.toNat) (by lia) (by lia)
   rwa [show((x.toNat:Nat):Int)=x by lia] at this)
 refine bY rfl (lG (bA (fl rfl) (by show some (D.int (g.ld.map D.int).length)=_;rw[List.length_map])) (lG (tR hi (by rw[jr];lia) (λx=>rfl) (λx mx=>by
  have hx:=eO.mp mx;exact a_ (qw rfl (look (by lia) (by lia)) TJ))) (cC ?_)))
 have hw:cP Jw (au (aj 1) (au (bP "Gate" "bad" Cy (aj 0) aE) (au (aj 2) (au (e2 c9 (bV "Gate" "numbers" (aj 0)) (eC (.int 1))) aE)))) [some (gD g,.sh []),some (.int g.ld.length,.own),some (iL (kZ g),.own)]=some (iL (uD g),.own):=
  cL (by
   rw[aR,aR,eK rfl (FU hl)];rfl) (by
   have:=acz (size:=g.ld.length) (bad:=uz g) (ks:=kZ g) hh (by have:=rZ (g:=g).2.2;lia);simp only[aao,agX];rw[YK];exact this)
 have hc:=ji (js:=[none,some 0]) (g:=gN 0) (tt:=k7) (k:=λd=>match d with | .int p=>some (tD (gG g p.toNat)) | _=>none) (fZ hw) (by rw[List.length_map];exact size_le (by have:=U9 (size:=g.ld.length) (bad:=uz g) (ks:=kZ g) hh (by have:=rZ (g:=g).2.2;lia);show(W _ _ _ _).length<=_;lia)) (λd m=>by
  exists 52;have:=(Pj).1.bd x mx;have:=Qh (g:=g);exact mX rfl rfl (look (by lia) (by lia)))
 rw[afc] at hc;have e:(uD g).filterMap ((λd=>match d with|.int p=>some (tD (gG g p.toNat))|_=>none) ∘ D.int)=dQ (z9 g):=by
  unfold z9 dQ;rw[ade];exact l6 (λp:Int=>tD (gG g p.toNat)) _
 rw[e] at hc;exact hc
theorem pR(h:fv ρ=some (d,t))(h0:ρ[0]? = some (some (gD g,.own)))(ho:(jV t||aB d)=true)(e:dY f d (gF g)=gF g'):jI (yI 0 "Gate" f fv) ρ=some (.nx (bQ ρ 0 (gD g'))):=by
 refine gu ?_;unfold yI;rw[h,h0];show(if("Gate":Str)="Gate"/\(gF g).length<1000/\(jV t||aB d)=true then some (Out.nx (bQ ρ 0 (.ins "Gate" (dY f d (gF g))))) else none)=_;rw[if_pos ⟨rfl,by show 12<1000;decide,ho⟩,e];rfl
theorem xo(h0:ρ[0]? = some (some (gD g,.own)))(h:F (gD g) []=some (r,gD g'))(hm:(gF g).lookup m=none:=by rfl):xO 0 "Gate" m F aE ρ=some (r,bQ ρ 0 (gD g')):=by
 unfold xO;rw[h0];show(if("Gate":Str)="Gate"/\(gF g).lookup m=none/\apart 0 []=true then(F (gD g) []).map _ else none)=_;rw[if_pos ⟨rfl,hm,rfl⟩,h];rfl
theorem B6(h:fv ρ=some (d,t))(hk:fk ρ=some (.int x,t2))(h0:ρ[0]? = some (some (gD g,.own)))(hi:aB d=true)(hG:aL (g.gr.map (·.2))=true)(hl:g.gr.length<=100):wA 0 "Gate" "grounds" fk fv ρ=some (.nx (bQ ρ 0 (gD { g with gr:=putD g.gr (Sum.inl x) d }))):=by
 unfold wA;rw[h,h0,hk];show(if("Gate":Str)="Gate" then(if(aB d&&aL (g.gr.map (·.2))&&decide (g.gr.length<sizeLine))=true then some (Out.nx (bQ ρ 0 (.ins "Gate" (dY "grounds" (.bf (putD g.gr (Sum.inl x) d)) (gF g))))) else none) else none)=_;rw[if_pos rfl,hi,hG,aaq (size_le (by lia)),if_pos (show(true&&true&&true)=true from rfl)];rfl
theorem DO(h:f ρ=some (d,t)):jI (dJ i f) ρ=some (.nx (iH ρ i d t)):=gu (by unfold dJ;rw[h])
theorem f_(h:tf ρ=some true)(h2:sf ρ=r):fN tf sf sg ρ=r:=by rw[jn,h];exact h2
theorem fL(h:tf ρ=some false)(h2:sg ρ=r):fN tf sf sg ρ=r:=by rw[jn,h];exact h2
theorem LW:cB ((x::r).map D.int) 0=some (.int x):=by
 unfold cB kM;rw[if_pos (by omega),if_pos (by rw[List.length_map,acj];omega)];rfl
def gone(C:List Ch)(gr:List (Key×D))(x:Int):List Int:=(lean (sec C) x).filter (aN gr)
def dh(C:List Ch)(gr:List (Key×D))(x:Int):List (Key×D):=match gone C gr x with
 |[]=>gr
 |y::_=>putD gr (Sum.inl x) (.tup [.str "leans",.int y])
theorem IZ{g:G}(gc:GoodC g.C):∀{l} {gr} {s1 s2},Row g.C l->Gr g.C.length gr->∃qB Io,cz (gN 1) (.sh []) (cu (dJ 2 (gR [none,some 0] (d7 (bP "Changes" "leans_of" BU (bV "Gate" "known" (aj 0)) (au (aj 1) aE))) (gN 0) (tV (e2 (kC false) (aj 0) (bV "Gate" "grounds" (aj 1)))) (aj 0))) (fN (rR (aj 2)) (wA 0 "Gate" "grounds" (aj 1) (iV (au (eC (.str "leans")) (au (e2 c9 (aj 2) (eC (.int 0))) aE)))) g9)) (l.map D.int) [some (gD { g with gr:=gr },.own),s1,s2]=some (.nx [some (gD { g with gr:=l.foldl (dh g.C) gr },.own),qB,Io])
 |[],gr,s1,s2,_,_=>⟨s1,s2,rfl⟩
 |x::l,gr,s1,s2,h,k=>by
  have hx:=h x aad;have hc:gR [none,some 0] (d7 (bP "Changes" "leans_of" BU (bV "Gate" "known" (aj 0)) (au (aj 1) aE))) (gN 0) (tV (e2 (kC false) (aj 0) (bV "Gate" "grounds" (aj 1)))) (aj 0) [some (gD { g with gr:=gr },.own),some (.int x,.sh []),s2]=some (iL (gone g.C gr x),.own):=
   tR (fZ (CO (fl rfl) rfl (D7 hx.1 hx.2))) (by have:=gc.few x;lia) (λy=>rfl) (λy _=>a_ (aG rfl (fl rfl) rfl))
  cases e:gone g.C gr x with
  |nil=>
   obtain⟨a,b,ih⟩:=IZ gc (λy m=>h y (aab _ m)) k;refine⟨a,b,(kQ rfl (lG (e ▸ hc) rfl)).trans (ih.trans ?_)⟩;rw[afa,show dh g.C gr x=gr by unfold dh;rw[e]]
  |cons y r=>
   have k':Gr g.C.length (dh g.C gr x):=by unfold dh;rw[e];exact k.put (eO.mpr (by lia)) rfl
   obtain⟨a,b,ih⟩:=IZ gc (λy m=>h y (aab _ m)) k';refine⟨a,b,(kQ rfl (lG (e ▸ hc) (f_ rfl ((B6 (d:=.tup [.str "leans",.int y]) (t:=.own) ?_ rfl rfl rfl k.im (by have:=k.len;have:=gc.ln;show gr.length<=100;lia)).trans ?_)))).trans ih⟩
   .rw[l7,aR,aR,aG rfl rfl (vH LW rfl)];rfl
   .unfold dh;rw[e];rfl
def g7(g:G):G:={ g with gr:=(wl g).foldl (dh g.C) g.gr }
theorem SA(gc:GoodC g.C)(k:Gr g.C.length g.gr):AD (gD g) []=some (.az,gD (g7 g)):=by
 obtain⟨a,b,e⟩:=IZ gc oX k;exact qv rfl (gu (uI (fZ (eK rfl (qy (by have:=gc.ln;lia)))) e)) rfl
theorem vj:∀{l:List Int} {gr},Gr n gr->(∀x∈l,x∈bK 1 n)->Gr n (l.foldl (dh C) gr)/\(∀x,aN gr x=true->aN (l.foldl (dh C) gr) x=true)/\(∀x,aN (l.foldl (dh C) gr) x=true->aN gr x=true\/x∈l)
 |[],gr,k,_=>⟨k,λ_ h=>h,λ_ h=>.inl h⟩
 |x::l,gr,k,h=>by
  have k1:Gr n (dh C gr x)/\(∀y,aN gr y=true->aN (dh C gr x) y=true)/\∀y,aN (dh C gr x) y=true->aN gr y=true\/y=x:=by
   unfold dh
   split
   .exact⟨k,λ_ h=>h,λ_ h=>.inl h⟩
   .refine⟨k.put (h x aad) rfl,λy q=>by rw[kT,q,Bool.or_true],λy q=>?_⟩;rw[kT,ag4,agM] at q;exact q.symm
  obtain⟨a,b,c⟩:=vj k1.1 λy m=>h y (aab _ m)
  refine⟨a,λy q=>b y (k1.2.1 y q),λy q=>?_⟩;rcases c y q with q|q
  .exact(k1.2.2 y q).imp id λe=>by rw[e];exact aad
  .exact .inr (aab _ q)
theorem Ou:∀{l:List Int} {gr},l.Nodup->(∀x∈l,aN gr x=false)->gr <+: l.foldl (dh C) gr
 |[],gr,_,_=>aeR _
 |x::l,gr,nd,h=>by
  obtain⟨n1,n2⟩:=ab4.mp nd;have h1:gr <+: dh C gr x/\∀y∈l,aN (dh C gr x) y=false:=by
   unfold dh
   split
   .exact⟨aeR _,λy m=>h y (aab _ m)⟩
   .refine⟨by rw[ze (h x aad)];exact ags _ _,λy m=>?_⟩;rw[kT,h y (aab _ m),ab8 (show ¬y=x from λe=>n1 (e ▸ m))];rfl
  exact h1.1.trans (Ou n2 h1.2)
theorem IP(bd:∀m x,1<=m->m<=(C.length:Int)->x∈lean (sec C) m->1<=x/\x<m):∀{l:List Int} {gr},l.Pairwise (· < ·)->Row C l->Gr C.length gr->∀x∈l,aN (l.foldl (dh C) gr) x=false->∀y∈lean (sec C) x,aN (l.foldl (dh C) gr) y=false
 |[],gr,_,_,_,x,m,_=>nomatch m
 |z::l,gr,hp,hr,k,x,m,hx=>λy my=>by
  obtain⟨Wa,xT⟩:=adS.mp hp;have hz:=hr z aad;have kz:Gr C.length (dh C gr z):=(vj (l:=[z]) k λx m=>by rw[aaU.mp m];exact eO.mpr (by lia)).1;have rl:∀x∈l,x∈bK 1 C.length:=λx m=>by have:=hr x (aab _ m);exact eO.mpr (by lia)
  obtain⟨_,b,c⟩:=vj kz rl;rcases aaA.mp m with rfl|m
  .cases e:aN ((x::l).foldl (dh C) gr) y with
   |false=>rfl
   |true=>
    have yz:=(bd x y hz.1 hz.2 my).2;have jE:aN (dh C gr x) x=false:=by
     cases q:aN (dh C gr x) x with
     |false=>rfl
     |true=>rw[show aN ((x::l).foldl (dh C) gr) x=true from b x q] at hx;cases hx
    have e0:aN (dh C gr x) y=true:=by
     rcases c y e with q|q
     .exact q
     .have:=Wa y q;lia
    unfold dh at jE e0
    split at jE
    .rename_i q;rw[q] at e0;have:=agj.mp q y my;exact absurd e0 this
    .rw[kT,aaq rfl] at jE;cases jE
  .exact IP bd xT (λx m=>hr x (aab _ m)) kz x m hx y my
theorem lay_ints(l:List Int):dW (iL l)=true:=by
 unfold dW;have c1:fV (iL l)=true:=by unfold iL;unfold fV;exact Ao _
 have c0:py (iL l)=.list (l.map PyData.int):=by unfold iL;unfold py;rw[za]
 rw[c1,c0];have c2:(PyData.list (l.map PyData.int)).canLay0=true:=by simp only[PyData.canLay0];exact AI l
 have c3:(PyData.list (l.map PyData.int)).depth<=40:=by simp only[PyData.depth,depthAll_ints];lia
 rw[c2,aaq c3];rfl
theorem K5(a b:List Int):PyData.eqv (py (iL a)) (py (iL b))=decide (a=b):=by
 have c:∀l,py (iL l)=.list (l.map PyData.int):=λl=>by unfold iL;unfold py;rw[za]
 rw[c,c];simp only[PyData.eqv,HS]
theorem AH(a b:List Int):lB (iL a) (iL b)=some (.bl (!decide (a=b))):=by
 unfold lB;rw[lay_ints,lay_ints,K5];rfl
theorem eqI(a b:List Int):wN (iL a) (iL b)=some (.bl (decide (a=b))):=by
 unfold wN;rw[lay_ints,lay_ints,K5];rfl
structure Gd(g:G):Prop where
 w1:1<=g.w/\g.w<=16
 h1:1<=g.h/\g.h<=8
 nt:1<=g.n/\g.n<=g.t/\g.t<=20
 gc:GoodC g.C
 row:Row g.C (g.ln++g.ld)
 nd:(g.ln++g.ld).Nodup
 sX:(g.ld.length:Int)<=g.w
 jc:∀x∈g.ln++g.ld,fW g x=false
 gr:Gr g.C.length g.gr
 run:∃v,dz [] (dG g.C (g.ln++g.ld))=some v
theorem Gd.len(k:Gd g):g.ln.length+g.ld.length<=60:=by
 have:=sub_len k.nd λx m=>eO.mpr (show 1<=x/\x<1+(g.C.length:Int) by have:=k.row x m;lia)
 rw[jr,abD] at this;have:=k.gc.ln
 lia
theorem Ei:∀{a b} {v},(∃w,dz v (dG C (a++b))=some w)->∃w,dz v (dG C a)=some w
 |[],b,v,_=>⟨v,rfl⟩
 |x::a,b,v,⟨w,h⟩=>by
  have h:(if bad v (bJ C x)=[] then dz (cX v (bJ C x)) (dG C (a++b)) else none)=some w:=h;show ∃w,(if bad v (bJ C x)=[] then dz (cX v (bJ C x)) (dG C a) else none)=some w
  by_cases hb:bad v (bJ C x)=[]
  .rw[if_pos hb] at h ⊢;exact Ei ⟨w,h⟩
  .rw[if_neg hb] at h;cases h
theorem Gd.cut(k:Gd g){gr:List (Key×D)}(hp:ld <+: g.ld)(hg:Gr g.C.length gr)(hd:∀x∈g.ln++ld,aN gr x=false):Gd { g with ld:=ld,gr:=gr }:=by
 obtain⟨r,e⟩:=hp;have ea:g.ln++g.ld=(g.ln++ld)++r:=by rw[<- e,afB]
 refine⟨k.w1,k.h1,k.nt,k.gc,λx m=>k.row x (by rw[ea];exact abj _ m),?_,?_,hd,hg,Ei (by rw[<- ea];exact k.run)⟩
 .have:=k.nd;rw[ea] at this;exact(acR.mp this).1
 .have:=k.sX;rw[<- e,abD] at this
  lia
theorem ne1:lB (bD o) (.int 1)=some (.bl (!decide (o=some 1))):=by
 cases o with
 |none=>kernel_rfl
 |some p=>
  show(if(dW (.int p)&&dW (.int 1))=true then some (D.bl (!PyData.eqv (py (.int p)) (py (.int 1)))) else none)=_;have e:dW (.int (p:Int))=true:=by unfold dW;simp[fV,py,PyData.canLay0,PyData.depth]
  have e1:dW (.int 1)=true:=by unfold dW;simp[fV,py,PyData.canLay0,PyData.depth]
  rw[e,e1];simp only[py,PyData.eqv,agf,if_true]
  by_cases h:p=1
  .subst h;rfl
  .rw[ab8 (λz=>h (acf z)),show(((p:Int)==1)=false) from adz.mpr (by lia)]
theorem KJ(hl:g.ln.length+g.ld.length<=900):tV (e2 lB (bP "Gate" "bad" Cy (aj 0) aE) (eC (.int 1))) (some (gD g,.own)::s)=some (!decide (dH g=some 1)):=
 a_ (aG (eK rfl (FU hl)) rfl ne1)
theorem LL(hl:g.ln.length+g.ld.length<=900)(h:dH g≠some 1):LK (gD g) []=some (.bl false,gD g):=by
 have ht:=KJ hl (s:=[none]);rw[ab8 h] at ht;exact lM rfl (qo ht (fG rfl))
def mL(g:G):D:=.tup [.str "look",tD g.ln,tD (gG g 1),.str (wd g (gG g 1))]
theorem MK:aB (mL g)=true:=by
 unfold mL tD;simp only[aB,aL,e_,agf]
def aaM(g:G)(x:Int):G:={ g with ld:=[],gr:=putD g.gr (Sum.inl x) (mL g) }
theorem Li(k:Gd g)(h:dH g=some 1)(hx:g.ld=x::r):LK (gD g) []=some (.bl true,gD (aaM g x)):=by
 have hl:=k.len;have ht:=KJ (g:=g) (by lia) (s:=[none]);rw[aaq h] at ht;have h1:bP "Gate" "look_of" zp (aj 0) (au (eC (.int 1)) aE) [some (gD g,.own),none]=some (tD (gG g 1),.own):=qw rfl rfl (f_look (by rw[hx,acj];lia) (by lia));have e1:∃t,iV (au (eC (.str "look")) (au (e1 uL (bV "Gate" "on_line" (aj 0))) (au (aj 1) (au (bP "Gate" "word_of" Ck (aj 0) (au (aj 1) aE)) aE)))) [some (gD g,.own),some (tD (gG g 1),.own)]=some (mL g,t):=by
  rw[l7,aR,aR,aR,aR,bA (fl rfl) xy,qw rfl rfl Et];exact⟨_,rfl⟩
 obtain⟨t,e1⟩:=e1;exact lM rfl (cK ht (sq (DO h1) (sq (gu (B6 e1 (aG (fl rfl) rfl (vH (by rw[hx];exact LW) rfl)) rfl MK k.gr.im (by have:=k.gr.len;have:=k.gc.ln;lia))) (sq (pR rfl rfl rfl rfl) rfl))))
theorem KC:Ev.rR (bV "Gate" "laid_ones" (aj 0)) (some (gD g,.own)::s)=some (!g.ld.isEmpty):=by
 unfold Ev.rR;rw[fl rfl];cases g.ld<;>rfl
theorem Si(h:g.ld≠[]):I0 (gD g) []=some (.bl false,gD g):=by
 have ht:=KC (g:=g) (s:=[none,none,none]);rw[show g.ld.isEmpty=false from List.isEmpty_eq_false_iff.mpr h] at ht;exact lM rfl (qo ht (fG rfl))
theorem Dg(l:List Int):aB (mW l)=true:=by cases l<;>rfl
def j8(C:List Ch)(u:gK)(gr:List (Key×D))(x:Int):List (Key×D):=putD gr (Sum.inl x) (.tup [.str "unfit",mW (bad u (bJ C x))])
theorem X_(g:GoodC C)(x:Int):Nc [dS (nz v),eL (bJ C x)]=some (mW (bad (jO (nz v)) (bJ C x))):=
 bY rfl (cC (cL (ps:=[(aZ (jO (nz v)),.own),(eL (bJ C x),.sh [])]) (by rw[aR,aR,bA rfl Pk];rfl) (Fv (g.ed x).ed (by lia) D.lst rfl)))
theorem QX{g:G}(gc:GoodC g.C):∀{l} {gr} {s3},Row g.C l->Gr g.C.length gr->∃yR,cz (gN 3) (.sh [1]) (wA 0 "Gate" "grounds" (aj 3) (iV (au (eC (.str "unfit")) (au (cP Nc (au (aj 2) (au (bP "Changes" "edits_of" zR (bV "Gate" "known" (aj 0)) (au (aj 3) aE)) aE))) aE)))) (l.map D.int) [some (gD { g with gr:=gr },.own),some (iL N,.lk),some (dS (nz v),.own),s3]=some (.nx [some (gD { g with gr:=l.foldl (j8 g.C (jO (nz v))) gr },.own),some (iL N,.lk),some (dS (nz v),.own),yR])
 |[],gr,s3,_,_=>⟨s3,rfl⟩
 |x::l,gr,s3,h,k=>by
  have hx:=h x aad;obtain⟨a,ih⟩:=QX gc (gr:=j8 g.C (jO (nz v)) gr x) (λy m=>h y (aab _ m)) (k.put (eO.mpr (by lia)) (by simp only[aB,aL,Dg,agf]));refine⟨a,(kQ (aQ:=[some (gD { g with gr:=gr },.own),some (iL N,.lk),some (dS (nz v),.own),some (.int x,.sh [1])]) rfl ((B6 (g:={ g with gr:=gr }) (t:=.own) ?_ rfl rfl (by simp only[aB,aL,Dg,agf]) k.im (by have:=k.len;have:=gc.ln;show gr.length<=100;lia)).trans rfl)).trans ih⟩;rw[l7,aR,aR,cL (by rw[aR,aR,CO (fl rfl) rfl (wD hx.1 hx.2)];rfl) (X_ gc x)];rfl
def eV(g:G):List Int:=(wl g).filter (lQ g.C g.ln)
theorem SJ(k:Gd g)(h:g.ld=[]):∃u v,dz [] (dG g.C g.ln)=some v/\(∀E,bad u E=bad v E)/\I0 (gD g) []=some (.bl (!decide (eV g=[])),gD { g with gr:=(eV g).foldl (j8 g.C u) g.gr }):=by
 have hl:=k.len;have gl:=k.gc.ln;have ht:=KC (g:=g) (s:=[none,none,none]);rw[h] at ht;obtain⟨v,hv⟩:=k.run;rw[h,acG] at hv;have hw:=xK (g:=g);have h1:cP Ah (au (bV "Gate" "known" (aj 0)) (au (bV "Gate" "on_line" (aj 0)) (au (iG aE) (au (bP "Gate" "waiting" rV (aj 0) aE) aE)))) [some (gD g,.own),none,none,none]=some (iL (eV g),.own):=
  cL (by rw[aR,aR,aR,aR,eK rfl (qy (by lia))];rfl) (by
   have:=KN k.gc (a:=g.ln) (b:=[]) (by simp;lia) oX (by lia);rw[acG] at this;exact this)
 have hs:=AW k.gc (λx m=>k.row x (abj _ m)) (by lia) hv;have h2:bP "Gate" "sheet" R7 (aj 0) aE [some (gD g,.own),some (iL (eV g),.own),none,none]=some (dS (nz v),.own):=eK rfl (bY rfl (cC (cL rfl hs.1)));obtain⟨s3,lp⟩:=QX k.gc (λx m=>oX x (acO.mp m).1) k.gr;refine⟨jO (nz v),v,hv,λE=>M3 (PD hs.2.nd) E,lM rfl (cK ht (sq (DO h1) (sq (DO h2) (sq (ρ':=[some (gD { g with gr:=(eV g).foldl (j8 g.C (jO (nz v))) g.gr },.own),some (iL (eV g),.own),some (dS (nz v),.own),s3]) (gu ((tN (fZ rfl) lp).trans rfl)) ?_))))⟩;unfold qD;have:e2 lB (aj 1) (iG aE) [some (gD { g with gr:=(eV g).foldl (j8 g.C (jO (nz v))) g.gr },.own),some (iL (eV g),.own),some (dS (nz v),.own),s3]=some (.bl (!decide (eV g=[])),.own):=aG (d2:=iL []) rfl rfl (AH _ _);rw[this];rfl
theorem UX(hl:g.ln.length+g.ld.length<=900):tV (e2 jf (bP "Gate" "bad" Cy (aj 0) aE) (eC .az)) (some (gD g,.own)::s)=some (dH g).isNone:=
 a_ (aG (eK rfl (FU hl)) rfl (by cases dH g<;>rfl))
theorem AU(h:f ρ=some (r,[some (gD g',.own)])):uE f [0] ρ=some (.rt (.tup [r,gD g'])):=by
 unfold uE;rw[h];rfl
theorem Rt(h:f ρ=some (.bl false,ρ'))(h2:f2 ρ'=some (.bl b,aY)):u0 f f2 ρ=some (.bl b,aY):=by
 unfold u0;rw[h];dsimp only;rw[h2]
theorem P9(h:f ρ=some (.bl true,ρ')):u0 f f2 ρ=some (.bl true,ρ'):=by
 unfold u0;rw[h]
def Lf(g:G):Prop:=∀x∈wl g,∀y∈lean (sec g.C) x,fW g y=false
def Full(g:G):Prop:=g.w<=(g.ld.length:Int)\/∀x∈wl g,∀v,dz [] (dG g.C (g.ln++g.ld))=some v->lQ g.C (g.ln++g.ld) x=true->jg g.C v x=false
structure Fin(g:G):Prop where
 lf:Lf g
 go:g.ht=false->dH g≠some 1/\(g.ld=[]->wl g=[])/\(dH g=none->Full g)
theorem abp(k:Gd g)(lf:Lf g)(hd:g.ld=[])(h:eV g=[]):wl g=[]:=by
 cases e:wl g with
 |nil=>rfl
 |cons x r=>
  have mx:=e ▸ aad;have hx:=gO.mp mx;have:=agj.mp h x mx;refine absurd (adt.mpr λy my=>aaq ?_) this;have hy:=k.gc.bd x y hx.1.1 hx.1.2 my;refine agc λn=>?_
  have KA:=gO.mpr ⟨⟨hy.1,by omega⟩,n,(by rw[hd];exact adB),lf x mx y my⟩;rw[e] at KA;have:=wB (g:=g);rw[e] at this;rcases aaA.mp KA with q|q
  .omega
  .have:=(adS.mp this).1 y q;omega
theorem Nr:∀{l:List Int} {gr},Gr n gr->(∀x∈l,x∈bK 1 n)->Gr n (l.foldl (j8 C u) gr)/\∀y,aN (l.foldl (j8 C u) gr) y=(decide (y∈l)||aN gr y)
 |[],gr,k,_=>⟨k,λy=>rfl⟩
 |x::l,gr,k,h=>by
  obtain⟨a,b⟩:=Nr (gr:=j8 C u gr x) (k.put (h x aad) (by simp only[aB,aL,Dg,agf])) λy m=>h y (aab _ m)
  refine⟨a,λy=>?_⟩;rw[afa,b];unfold j8;rw[kT,<- Bool.or_assoc]
  congr 1
  rw[<- Bool.decide_or];exact agD.mpr (by rw[aaA];exact or_comm)
theorem QV:∀{l:List Int} {gr},l.Nodup->(∀x∈l,aN gr x=false)->gr <+: l.foldl (j8 C u) gr
 |[],gr,_,_=>aeR _
 |x::l,gr,nd,h=>by
  obtain⟨n1,n2⟩:=ab4.mp nd;have h1:gr <+: j8 C u gr x/\∀y∈l,aN (j8 C u gr x) y=false:=by
   unfold j8;refine⟨by rw[ze (h x aad)];exact ags _ _,λy m=>?_⟩;rw[kT,h y (aab _ m),ab8 (show ¬y=x from λe=>n1 (e ▸ m))];rfl
  exact h1.1.trans (QV n2 h1.2)
noncomputable def gm(g:G)(ex:List Int):G:={ g with ld:=g.ld++ex }
inductive Nw(g:G)(gr:List (Key×D)):Key×D->Prop
 |look (x:Int):bw (wd g (g.ln++[x]))=true->Nw g gr (Sum.inl x,.tup [.str "look",tD g.ln,tD (g.ln++[x]),.str (wd g (g.ln++[x]))])
 |qL (x y:Int) (r:List Int) (u:List (Key×D)):(∀z,aN g.gr z=true->aN u z=true)->(∀z,aN u z=true->aN gr z=true)->gone g.C u x=y::r->Nw g gr (Sum.inl x,.tup [.str "leans",.int y])
 |qF (x:Int) (v:gK):dz [] (dG g.C g.ln)=some v->bad v (bJ g.C x)≠[]->lQ g.C g.ln x=true->Nw g gr (Sum.inl x,.tup [.str "unfit",mW (bad v (bJ g.C x))])
theorem Nw.up(h:Nw { g with ld:=ld,gr:=gr } wR p)(mo:∀z,aN g.gr z=true->aN gr z=true):Nw g wR p:=by
 cases h with
 |look x b=>exact .look x b
 |qL x y r u a b e=>exact .qL x y r u (λz q=>a z (mo z q)) b e
 |qF x v a b c=>exact .qF x v a b c
theorem Nw.mo(h:Nw g gr p)(mo:∀z,aN gr z=true->aN wR z=true):Nw g wR p:=by
 cases h with
 |look x b=>exact .look x b
 |qL x y r u a b e=>exact .qL x y r u a (λz q=>mo z (b z q)) e
 |qF x v a b c=>exact .qF x v a b c
theorem QY:∀{l:List Int} {gr} {p},p∈l.foldl (j8 C u) gr->p∈gr\/∃x∈l,p=(Sum.inl x,.tup [.str "unfit",mW (bad u (bJ C x))])
 |[],gr,p,m=>.inl m
 |x::l,gr,p,m=>by
  rcases QY (l:=l) m with q|⟨y,my,e⟩
  .exact(zZ q).imp id λe=>⟨x,aad,e⟩
  .exact .inr ⟨y,aab _ my,e⟩
structure Up(g:G)(ld:List Int)(gr:List (Key×D)):Prop where
 gd:Gd { g with ld:=ld,gr:=gr }
 mo:∀x,aN g.gr x=true->aN gr x=true
 pf:g.gr <+: gr
 nw:∀p∈gr,p∈g.gr\/Nw g gr p
abbrev pA(g:G)(gr:List (Key×D)):Prop:=∃x,aN gr x=true/\fW g x=false
theorem Om(k:Gd g)(hx:g.ld=x::r)(hb:dH g=some 1):Up g [] (putD g.gr (Sum.inl x) (mL g))/\pA g (putD g.gr (Sum.inl x) (mL g))/\cnt g.gr+1<=cnt (putD g.gr (Sum.inl x) (mL g)):=by
 have mx:=hx ▸ aad;have rx:=k.row x (aas _ mx);have nw:putD g.gr (Sum.inl x) (mL g)=g.gr++[(Sum.inl x,mL g)]:=ze (k.jc x (aas _ mx));refine⟨⟨k.cut List.nil_prefix (k.gr.put (eO.mpr (by lia)) MK) λy m=>?_,(λy q=>by rw[kT,q,Bool.or_true]),by rw[nw];exact ags _ _,λp m=>?_⟩,⟨x,by rw[kT,aaq rfl];rfl,k.jc x (aas _ mx)⟩,by rw[nw,MQ];exact abL _⟩
 .rw[acG] at m;rw[kT,show aN g.gr y=false from k.jc y (abj _ m),ab8 λe=>(acR.mp k.nd).2.2 y m x mx e];rfl
 .rw[nw] at m;refine(abl.mp m).imp id λm=>?_
  have lk:gG g 1=g.ln++[x]:=by unfold gG;rw[hx];rfl
  have b:=(zf hb).2.2.1;unfold lW at b;rw[lk] at b;rw[aaU.mp m];unfold mL;rw[lk];exact .look x b
theorem Yg(k:Gd g)(lf:Lf g):∃b ld gr,BC (gD g) []=some (.bl b,gD { g with ld:=ld,gr:=gr })/\Up g ld gr/\(b=true->pA g gr)/\(b=false->gr=g.gr/\(g.ht=false->Fin { g with ld:=ld,gr:=gr })/\(dH g≠none->ld=g.ld)/\(Full g->ld=g.ld))/\(Fin g->g.ht=false->b=false)/\(∀p,dH g=some p->p≠1->b=false)/\(dH g=some 1->cnt g.gr+1<=cnt gr):=by
 have hl:=k.len;have gl:=k.gc.ln;have ht:=UX (g:=g) (by lia) (s:=[]);cases hb:dH g with
 |some p=>
  rw[hb] at ht;have hm:=zf hb;have nZ:g.ld≠[]:=λe=>by rw[e] at hm;simp at hm;lia
  by_cases hp:p=1
  .subst hp;obtain⟨x,r,ex⟩:=af7 nZ;obtain⟨u,n,cn⟩:=Om k ex hb;exact⟨true,[],_,lM rfl (cK ht (AU (P9 (xo rfl (Li k hb ex))))),u,(λ_=>n),(λe=>nomatch e),(λf h=>absurd hb (f.go h).1),(λp e np=>absurd (acf e).symm np),λ_=>cn⟩
  .have hn:dH g≠some 1:=by rw[hb];exact λz=>hp (acf z)
   exact⟨false,g.ld,g.gr,lM rfl (cK ht (AU (Rt (xo rfl (LL (by lia) hn)) (xo rfl (Si nZ))))),⟨k,λ_ q=>q,aeR _,λ_ m=>.inl m⟩,(λe=>nomatch e),(λ_=>⟨rfl,λ_=>⟨lf,λ_=>⟨hn,λe=>absurd e nZ,λe=>by rw[show dH g=none from e] at hb;cases hb⟩⟩,λ_=>rfl,λ_=>rfl⟩),(λ_ _=>rfl),(λ_ _ _=>rfl),λe=>absurd (acf e) hp⟩
 |none=>
  rw[hb] at ht;obtain⟨v,hv⟩:=k.run;have UR:=xK (g:=g);obtain⟨ex,hf,F⟩:=aaW k.gc k.row oX AL (by lia) (by lia) hv;have hf:cP DZ (au (bV "Gate" "known" (aj 0)) (au (bV "Gate" "on_line" (aj 0)) (au (bV "Gate" "laid_ones" (aj 0)) (au (bP "Gate" "waiting" rV (aj 0) aE) (au (e2 c9 (bV "Gate" "numbers" (aj 0)) (eC (.int 0))) aE))))) [some (gD g,.own)]=some (iL (g.ld++ex),.own):=
   cL (ps:=[(obj g.C,.sh [0]),(iL g.ln,.sh [0]),(iL g.ld,.sh [0]),(iL (wl g),.own),(.int g.w,.own)]) (by rw[aR,aR,aR,aR,eK rfl (qy (by lia))];rfl) hf
  have VW:Full g->ex=[]:=λfu=>by
    rcases fu with h|h
    .rcases F.le with q|q
     .have:=k.sX;rw[abD] at q;exact agC (by lia)
     .exact q
    .cases ee:ex with
     |nil=>rfl
     |cons x r=>
      exact absurd (F.fst x r ee) λ⟨v,h1,h2,h3⟩=>by
       rw[h x (F.sub x (ee ▸ aad)) v h1 h2] at h3;cases h3
  have same:Full g->g.ld++ex=g.ld:=λfu=>by rw[VW fu,acG]
  have fg:Fin g->g.ht=false->gm g ex=g:=λf h=>by
   unfold gm;rw[same ((f.go h).2.2 hb)]
  have k1:Gd (gm g ex):=by
   refine⟨k.w1,k.h1,k.nt,k.gc,λx m=>?_,?_,?_,λx m=>?_,k.gr,let⟨v,h,_⟩:=F.run;⟨v,h⟩⟩
   .have m:x∈g.ln++(g.ld++ex):=m;rw[<- afB] at m;exact(abl.mp m).elim (k.row x) λm=>oX (g:=g) x (F.sub x m)
   .show(g.ln++(g.ld++ex)).Nodup;rw[<- afB];refine acR.mpr ⟨k.nd,F.nd,λa ma b mb e=>?_⟩;have:=gO.mp (F.sub b mb);exact(abl.mp ma).elim (λm=>this.2.1 (e ▸ m)) λm=>this.2.2.1 (e ▸ m)
   .show(((g.ld++ex).length:Nat):Int)<=g.w;rcases F.le with q|q
    .exact q
    .rw[q,acG];exact k.sX
   .have m:x∈g.ln++(g.ld++ex):=m;rw[<- afB] at m;exact(abl.mp m).elim (k.jc x) λm=>(gO.mp (F.sub x m)).2.2.2
  have Hj:∀x∈wl (gm g ex),x∈wl g/\x∉ex:=λx m=>by
   have h:=gO.mp m;have h3:=h.2.2.1;exact⟨gO.mpr ⟨h.1,h.2.1,λq=>h3 (abj _ q),h.2.2.2⟩,λq=>h3 (aas _ q)⟩
  have J7:Lf (gm g ex):=λx m y my=>lf x (Hj x m).1 y my
  have Ip:Full (gm g ex):=by
   obtain⟨v',r1,r2⟩:=F.run;rcases r2 with q|q
   .exact .inl q
   .refine .inr λx m v jP TL=>?_
    obtain⟨m1,m2⟩:=Hj x m;have jP:dz [] (dG g.C (g.ln++(g.ld++ex)))=some v:=jP;rw[r1] at jP;cases jP;exact q x m1 m2 TL
  have uJ:=k1.len;have st:jI (yI 0 "Gate" "laid_ones" (cP DZ (au (bV "Gate" "known" (aj 0)) (au (bV "Gate" "on_line" (aj 0)) (au (bV "Gate" "laid_ones" (aj 0)) (au (bP "Gate" "waiting" rV (aj 0) aE) (au (e2 c9 (bV "Gate" "numbers" (aj 0)) (eC (.int 0))) aE))))))) [some (gD g,.own)]=some (.nx [some (gD (gm g ex),.own)]):=pR hf rfl rfl rfl
  by_cases h1:dH (gm g ex)=some 1
  .have hm:=zf h1;obtain⟨x,r,e1⟩:=af7 (λe:(gm g ex).ld=[]=>by rw[e] at hm;simp at hm);obtain⟨u,n,_⟩:=Om k1 e1 h1;exact⟨true,[],putD g.gr (Sum.inl x) (mL (gm g ex)),lM rfl (sq (f_ ht st) (AU (P9 (xo rfl (Li k1 h1 e1))))),⟨u.gd,u.mo,u.pf,λp m=>(u.nw p m).imp id λz=>Nw.up (g:=g) (ld:=g.ld++ex) (gr:=g.gr) z λ_ q=>q⟩,(λ_=>n),(λe=>nomatch e),(λf h=>by rw[fg f h,hb] at h1;cases h1),(λp e=>nomatch e),λe=>nomatch e⟩
  .have NO:∀b gr,I0 (gD (gm g ex)) []=some (.bl b,gD { gm g ex with gr:=gr })->BC (gD g) []=some (.bl b,gD { g with ld:=g.ld++ex,gr:=gr }):=λb gr h=>lM rfl (sq (f_ ht st) (AU (Rt (xo rfl (LL (by lia) h1)) (xo rfl h))))
   by_cases he:(gm g ex).ld=[]
   .obtain⟨u,v1,LY,hb1,h⟩:=SJ k1 he;obtain⟨a,b⟩:=Nr (l:=eV (gm g ex)) k1.gr λx m=>by have:=oX x (acO.mp m).1;exact eO.mpr (show 1<=x/\x<1+((gm g ex).C.length:Int) by lia)
    refine⟨_,g.ld++ex,_,NO _ _ h,⟨k1.cut (aeR _) a λx m=>?_,(λx q=>(b x).trans (by rw[show aN (gm g ex).gr x=true from q,Bool.or_true])),QV (AL.sublist afq) (λx m=>(gO.mp (acO.mp m).1).2.2.2),λp m=>(QY m).imp id λ⟨x,mx,e⟩=>by
     obtain⟨m1,m2⟩:=acO.mp mx;rw[e,hb1];refine .qF x v1 LY (λz=>?_) m2;have he:g.ld++ex=[]:=he;have hr:dz [] (dG (gm g ex).C ((gm g ex).ln++(gm g ex).ld))=some v1:=by
      show dz [] (dG g.C (g.ln++(g.ld++ex)))=some v1;rw[he,acG];exact LY
     rcases Ip with q|q
     .have q:g.w<=((g.ld++ex).length:Int):=q;rw[he] at q;have:=k.w1;have q:g.w<=0:=q
      lia
     .have:=q x m1 v1 hr (by show lQ g.C (g.ln++(g.ld++ex)) x=true;rw[he,acG];exact m2);rw[show jg (gm g ex).C v1 x=true from NR.mpr z] at this;cases this⟩,λe=>?_,λe=>?_,λf h=>?_,(λp e=>nomatch e),(λe=>nomatch e)⟩
    .rw[b,show aN (gm g ex).gr x=false from k1.jc x m,ab8 λq=>?_]
     .rfl
     .have:=gO.mp (acO.mp q).1;exact(abl.mp m).elim this.2.1 this.2.2.1
    .obtain⟨x,r,e1⟩:=af7 (λz:eV (gm g ex)=[]=>by rw[z] at e;cases e);have mx:=e1 ▸ aad;exact⟨x,(b x).trans (by rw[aaq mx];rfl),(gO.mp (Hj x (acO.mp mx).1).1).2.2.2⟩
    .have e2:eV (gm g ex)=[]:=by simpa using e
     rw[e2];exact⟨rfl,λhh=>⟨J7,λ_=>⟨h1,λ_=>abp k1 J7 he e2,λ_=>Ip⟩⟩,λz=>absurd rfl z,same⟩
    .have e3:=fg f h;rw[e3] at he;rw[e3,show eV g=[] from(by unfold eV;rw[(f.go h).2.1 he];rfl)];rfl
   .exact⟨false,g.ld++ex,g.gr,NO _ _ (Si he),⟨k1,λx q=>q,aeR _,λ_ m=>.inl m⟩,(λe=>nomatch e),(λ_=>⟨rfl,λhh=>⟨J7,λ_=>⟨h1,λe=>absurd e he,λ_=>Ip⟩⟩,λz=>absurd rfl z,same⟩),(λ_ _=>rfl),(λp e=>nomatch e),λe=>nomatch e⟩
def eB(g:G):G:={ g with lk:=z9 g }
abbrev cS:aO->Option (Bool×aO):=xm (nW (tV (bV "Gate" "halted" (aj 0)))) (tZ (xO 0 "Gate" "put_out_more" BC aE))
theorem Sj:nW (tV (bV "Gate" "halted" (aj 0))) [some (gD g,.own)]=some (!g.ht):=kN (a_ (fl rfl))
theorem Tu(h:g.ht=true):cS [some (gD g,.own)]=some (false,[some (gD g,.own)]):=by
 have:=Sj (g:=g);rw[h] at this;unfold cS xm;rw[this];rfl
theorem Wt(h:f ρ=some (.bl b,ρ')):tZ f ρ=some (b,ρ'):=by unfold tZ;rw[h]
theorem PV(h:g.ht=false)(hm:BC (gD g) []=some (.bl b,gD g1)):cS [some (gD g,.own)]=some (b,[some (gD g1,.own)]):=by
 have:=Sj (g:=g);rw[h] at this;refine Eq.trans ?_ (Wt (xo (ρ:=[some (gD g,.own)]) (m:="put_out_more") rfl hm));unfold cS xm;rw[this];rfl
theorem Ko(h:c ρ=some (false,aQ)):lO c f (n+1) ρ=some (.nx aQ):=by rw[lO,h]
theorem X3(h:c ρ=some (true,aQ))(h2:f aQ=some (.nx aY)):lO c f (n+1) ρ=lO c f n aY:=by
 rw[lO,h];dsimp only;rw[h2]
theorem RG(k:Gd g):sZ (xO 0 "Gate" "put_out_leaning" AD aE) [some (gD g,.own)]=some (.nx [some (gD (g7 g),.own)]):=by
 unfold sZ;rw[xo rfl (SA k.gc k.gr)];rfl
theorem IJ(m:x∈wl g):x∈bK 1 g.C.length:=(acO.mp m).1
theorem RD:∀{l:List Int} {gr} {p},Gr n gr->(∀x∈l,x∈bK 1 n)->p∈l.foldl (dh C) gr->p∈gr\/∃x y r u,p=(Sum.inl x,.tup [.str "leans",.int y])/\(∀z,aN gr z=true->aN u z=true)/\(∀z,aN u z=true->aN (l.foldl (dh C) gr) z=true)/\gone C u x=y::r
 |[],gr,p,_,_,m=>.inl m
 |x::l,gr,p,k,h,m=>by
  have k1:=vj (C:=C) (l:=[x]) k λy m=>by rw[aaU.mp m];exact h x aad
  rcases RD (l:=l) k1.1 (λy m=>h y (aab _ m)) m with q|⟨y,z,r,u,e,a,b,c⟩
  .have q:p∈dh C gr x:=q;unfold dh at q;cases e:gone C gr x with
   |nil=>rw[e] at q;exact .inl q
   |cons y r=>
    rw[e] at q;exact(zZ q).imp id λe2=>⟨x,y,r,gr,e2,λ_ z=>z,λz q=>(vj (C:=C) k h).2.1 z q,e⟩
  .exact .inr ⟨y,z,r,u,e,λw q=>a w (k1.2.1 w q),b,c⟩
theorem HQ(k:Gd g):Up g g.ld (g7 g).gr/\Lf (g7 g):=by
 obtain⟨a,b,c⟩:=vj k.gr λx m=>IJ m
 have sub:∀x∈wl (g7 g),x∈wl g:=λx m=>by
  have h:=gO.mp m;refine gO.mpr ⟨h.1,h.2.1,h.2.2.1,?_⟩;cases q:fW g x with
  |false=>rfl
  |true=>rw[show fW (g7 g) x=true from b x q] at h;cases h.2.2.2
 refine⟨⟨k.cut (aeR _) a λx m=>?_,b,Ou AL (λx m=>(gO.mp m).2.2.2),λp m=>(RD k.gr (λx m=>IJ m) m).imp id λ⟨x,y,r,u,e,a,b,c⟩=>e ▸ .qL x y r u a b c⟩,λx m y my=>IP k.gc.bd wB oX k.gr x (sub x m) (gO.mp m).2.2.2 y my⟩;cases q:aN (g7 g).gr x with
 |false=>rfl
 |true=>
  rcases c x q with q|q
  .rw[show aN g.gr x=false from k.jc x m] at q;cases q
  .have:=gO.mp q;exact((abl.mp m).elim this.2.1 this.2.2.1).elim
theorem Bw(k:Gd g)(lf:Lf g):g7 g=g:=by
 have:∀l:List Int,(∀x∈l,x∈wl g)->l.foldl (dh g.C) g.gr=g.gr:=λl=>by
  induction l with
  |nil=>intro _;rfl
  |cons x l ih=>
   intro h;have e:dh g.C g.gr x=g.gr:=by
    unfold dh;rw[show gone g.C g.gr x=[] from agj.mpr λy my=>by rw[show aN g.gr y=false from lf x (h x aad) y my];exact abk]
   rw[afa,e];exact ih λy m=>h y (aab _ m)
 unfold g7;rw[this (wl g) λx m=>m]
theorem QE(k:Gd g)(h:¬Lf g):pA g (g7 g).gr:=by
 have⟨x,hx⟩:=agR.mp h;have⟨mx,hx⟩:=agR.mp hx;have⟨y,hy⟩:=agR.mp hx;have⟨my,hy⟩:=agR.mp hy;obtain⟨u,_⟩:=HQ k;refine⟨x,?_,(gO.mp mx).2.2.2⟩;cases q:aN (g7 g).gr x with
 |true=>rfl
 |false=>
  have h1:=IP k.gc.bd wB oX k.gr x mx q y my;rw[show aN ((wl g).foldl (dh g.C) g.gr) y=true from u.mo y (by simpa using hy)] at h1;cases h1
theorem Up.trans(a:Up g ld gr)(b:Up { g with ld:=ld,gr:=gr } Xy wR):Up g Xy wR:=⟨b.gd,λx q=>b.mo x (a.mo x q),a.pf.trans b.pf,λp m=>(b.nw p m).elim (λm=>(a.nw p m).imp id λz=>z.mo b.mo) λz=>.inr (z.up a.mo)⟩
def r8(g:G):Nat:=((bK 1 g.C.length).filter λx=>!fW g x).length
theorem HX:(bK a n).Nodup:=(x6 a n).imp λh=>by lia
theorem adq(mo:∀x,aN g.gr x=true->aN gr x=true):r8 { g with ld:=ld,gr:=gr }<=r8 g:=sub_len (HX.sublist afq) λx m=>by
 obtain⟨m1,m2⟩:=acO.mp m;refine acO.mpr ⟨m1,?_⟩;cases q:fW g x with
 |false=>rfl
 |true=>rw[show fW ({ g with ld:=ld,gr:=gr }:G) x=true from mo x q] at m2;cases m2
theorem aai(u:Up g ld gr)(n:pA g gr):r8 { g with ld:=ld,gr:=gr } < r8 g:=by
 obtain⟨x,h1,h2⟩:=n;have:=sub_len (l:=x::(bK 1 g.C.length).filter λx=>!aN gr x) (m:=(bK 1 g.C.length).filter λx=>!fW g x) (ab4.mpr ⟨(λm=>by have:=(acO.mp m).2;rw[h1] at this;cases this),HX.sublist afq⟩) λy m=>by
  rcases aaA.mp m with rfl|m
  .exact acO.mpr ⟨u.gd.gr.bd h1,by rw[h2];rfl⟩
  .obtain⟨m1,m2⟩:=acO.mp m;refine acO.mpr ⟨m1,?_⟩;cases q:fW g y with
   |false=>rfl
   |true=>rw[u.mo y q] at m2;cases m2
 exact this
theorem aar(m n:Nat)(g:G)(hm:r8 g<=m)(hn:m<n)(k:Gd g)(lf:Lf g)(hh:g.ht=false):∃ld gr,lO cS (sZ (xO 0 "Gate" "put_out_leaning" AD aE)) n [some (gD g,.own)]=some (.nx [some (gD { g with ld:=ld,gr:=gr },.own)])/\Up g ld gr/\Fin { g with ld:=ld,gr:=gr }/\(pA g gr\/gr=g.gr/\(dH g≠none->ld=g.ld)/\(Full g->ld=g.ld))/\(Fin g->gr=g.gr/\ld=g.ld)/\(∀p,dH g=some p->p≠1->ld=g.ld)/\(dH g=some 1->cnt g.gr+1<=cnt gr):=by
 induction n generalizing m g with
 |zero=>omega
 |succ n ih=>
  obtain⟨b,ld,gr,e,u,ht,hf,hs,C0,sL⟩:=Yg k lf;cases b with
  |false=>
   obtain⟨f1,f2,f3,f4⟩:=hf rfl;refine⟨ld,gr,Ko (PV hh e),u,f2 hh,.inr ⟨f1,f3,f4⟩,λf=>⟨f1,?_⟩,(λp e _=>f3 (by rw[e];exact λz=>by cases z)),λe=>by have:=sL e;rw[f1] at this;omega⟩;cases hb:dH g with
   |none=>exact f4 ((f.go hh).2.2 hb)
   |some p=>exact f3 (by rw[hb];exact λz=>by cases z)
  |true=>
   have nw:=ht rfl;have l1:=aai u nw;obtain⟨u2,lf2⟩:=HQ u.gd;cases m with
   |zero=>omega
   |succ m=>
    have l2:=adq (ld:=ld) u2.mo;obtain⟨V9,gr3,e3,u3,f3,_⟩:=ih m (g7 { g with ld:=ld,gr:=gr }) (adk l2 (by omega)) (by omega) u2.gd lf2 hh;have u4:=(u.trans u2).trans u3;refine⟨V9,gr3,(X3 (PV hh e) (RG u.gd)).trans e3,u4,f3,.inl ?_,(λf=>absurd (hs f hh) (by decide)),(λp e np=>absurd (C0 p e np) (by decide)),λe=>adk (sL e) (Kn (u2.pf.trans u3.pf))⟩;obtain⟨x,h1,h2⟩:=nw;exact⟨x,u3.mo x (u2.mo x h1),h2⟩
theorem aez(k:Gd g):∃ld gr,ou (gD g) []=some (.az,gD (eB { g with ld:=ld,gr:=gr }))/\Up g ld gr/\Fin { g with ld:=ld,gr:=gr }/\(g.ht=true->ld=g.ld)/\(pA g gr\/gr=g.gr/\(dH g≠none->ld=g.ld)/\(Full g->ld=g.ld))/\(Fin g->gr=g.gr/\ld=g.ld)/\(∀p,dH g=some p->p≠1->ld=g.ld)/\(dH g=some 1->g.ht=false->cnt g.gr+1<=cnt gr):=by
 obtain⟨u,lf⟩:=HQ k;have fin:∀{ld} {gr},Up g ld gr->lO cS (sZ (xO 0 "Gate" "put_out_leaning" AD aE)) 4000 [some (gD (g7 g),.own)]=some (.nx [some (gD { g with ld:=ld,gr:=gr },.own)])->ou (gD g) []=some (.az,gD (eB { g with ld:=ld,gr:=gr })):=λ{ld gr} u e=>by
  have hl:=u.gd.len;have hl:=hl;exact qv rfl (sq (gu (RG k)) (sq (gu e) (pR (eK rfl (X4 (by show g.ln.length+ld.length<=900;lia) (by show ld.length<64;lia) (by have:=k.h1;show g.h<=60;lia))) rfl rfl rfl))) rfl
 have old:(∀z,pA (g7 g) z->pA g z):=λz ⟨x,h1,h2⟩=>⟨x,h1,by
  cases q:fW g x with
  |false=>rfl
  |true=>rw[show fW (g7 g) x=true from u.mo x q] at h2;cases h2⟩
 by_cases hh:g.ht=true
 .refine⟨g.ld,(g7 g).gr,fin u (Ko (Tu hh)),u,⟨lf,λh=>by rw[show g.ht=true from hh] at h;cases h⟩,λ_=>rfl,?_,λf=>?_,λ_ _ _=>rfl,λ_ h=>by rw[hh] at h;cases h⟩
  .by_cases l:Lf g
   .exact .inr ⟨by rw[Bw k l],λ_=>rfl,λ_=>rfl⟩
   .exact .inl (QE k l)
  .rw[Bw k f.lf];exact⟨rfl,rfl⟩
 .have hh:g.ht=false:=by simpa using hh
  have nl:r8 (g7 g)<=60:=by
   have:=afO (λx=>!fW (g7 g) x) (bK 1 g.C.length);rw[jr] at this;have:=k.gc.ln;unfold r8;show((bK 1 g.C.length).filter λx=>!fW (g7 g) x).length<=60
   lia
  obtain⟨ld,gr,e,u3,f3,d,s,n1,n2⟩:=aar 60 4000 (g7 g) nl (by lia) u.gd lf hh;refine⟨ld,gr,fin (u.trans u3) e,u.trans u3,f3,(λh=>by rw[hh] at h;cases h),?_,λf=>?_,n1,λe _=>adk (Nat.add_le_add_right (Kn u.pf) 1) (n2 e)⟩
  .by_cases l:Lf g
   .rw[Bw k l] at d;exact d
   .obtain⟨x,h1,h2⟩:=QE k l;exact .inl ⟨x,u3.mo x h1,h2⟩
  .rw[Bw k f.lf] at s;exact s f
theorem Fq(h:fv ρ=some (.int j,t))(h0:ρ[0]? = some (some (gD g,.own)))(hl:(gF g).lookup f=some (.int i))(e:dY f (.int (i+j)) (gF g)=gF g'):jI (Cb 0 "Gate" f fv) ρ=some (.nx (bQ ρ 0 (gD g'))):=by
 refine gu ?_;unfold Cb;rw[h,h0];show(if("Gate":Str)="Gate"/\(gF g).length<1000 then(match(gF g).lookup f with|some (.int k)=>some (Out.nx (bQ ρ 0 (.ins "Gate" (dY f (.int (k+j)) (gF g)))))|_=>none) else none)=_;rw[if_pos ⟨rfl,by show 12<1000;decide⟩,hl];dsimp only;rw[e];rfl
theorem yw(h0:ρ[0]? = some (some (gD g,.own)))(h:F (gD g) []=some (r,gD g'))(hm:(gF g).lookup m=none:=by rfl):jI (sZ (xO 0 "Gate" m F aE)) ρ=some (.nx (bQ ρ 0 (gD g'))):=gu (by
 unfold sZ;rw[xo h0 h hm];rfl)
noncomputable def As(g:G):G:={ g with ld:=[],ht:=true,br:=g.br+1 }
theorem Xo(h:ou (gD (As g)) []=some (.az,gD g3)):P4 (gD g) []=some (.az,gD g3):=
 qv rfl (sq (pR rfl rfl rfl rfl) (sq (pR (g:={ g with ld:=[] }) rfl rfl rfl rfl)
  (sq (Fq (g:={ g with ld:=[],ht:=true }) rfl rfl rfl rfl) (yw rfl h)))) rfl
theorem ZZ(h:ou (gD { g with ht:=false }) []=some (.az,gD g3)):QK (gD g) []=some (.az,gD g3):=
 qv rfl (sq (pR rfl rfl rfl rfl) (yw rfl h)) rfl
noncomputable def uo(g:G)(c:Ch):G:={ g with C:=g.C++[c] }
theorem aaY(hl:l.length<=100)(hE:E.length<=100)(hm:sE g.C.length q l E=true)(hC:g.C.length<60)(h:ou (gD (uo g (q,l,E))) []=some (.az,gD g3)):O4 (gD g) [.int q,iL l,eL E]=some (.int (g.C.length+1),gD g3):=by
 have h1:Cc 0 "Gate" "known" "Changes" "added" tO (au (aj 1) (au (aj 2) (au (aj 3) aE))) [some (gD g,.own),some (.int q,.sh []),some (iL l,.sh []),some (eL E,.sh []),none]=some (.int (g.C.length+1),[some (gD (uo g (q,l,E)),.own),some (.int q,.sh []),some (iL l,.sh []),some (eL E,.sh []),none]):=by
  show(if("Gate":Str)="Gate"/\("Changes":Str)="Changes"/\([("entries",D.lst (g.C.map ent))]:List (Str×D)).lookup ("added":Str)=none/\apart 0 [(.int q,.sh []),(iL l,.sh []),(eL E,.sh [])]=true then(tO (obj g.C) [.int q,iL l,eL E]).map _ else none)=_;rw[if_pos ⟨rfl,rfl,rfl,rfl⟩,Mr hl hE hm hC];rfl
 refine lM rfl (sq (ρ':=[some (gD (uo g (q,l,E)),.own),some (.int q,.sh []),some (iL l,.sh []),some (eL E,.sh []),some (.int (g.C.length + 1),.own)]) (gu (by
  show(match Cc 0 "Gate" "known" "Changes" "added" tO (au (aj 1) (au (aj 2) (au (aj 3) aE))) [some (gD g,.own),some (.int q,.sh []),some (iL l,.sh []),some (eL E,.sh []),none] with|some (d,ρ')=>some (Out.nx (iH ρ' 4 d .own))|none=>none)=_;rw[h1];rfl)) (sq (yw rfl h) rfl))
def j9(g:G)(x:Int):G:={ g with ld:=if x∈g.ld then g.ld.takeWhile (λy=>!(y==x)) else g.ld,gr:=putD g.gr (Sum.inl x) (.tup [.str "withdrawn"]),br:=g.br+1 }
theorem KO:∀{l:List Int} {x},x∈l->l.findIdx? (· == x)=some (l.takeWhile λy=>!(y==x)).length
 |[],x,m=>nomatch m
 |a::l,x,m=>by
  rw[List.findIdx?_cons,List.takeWhile_cons];cases e:(a==x) with
  |true=>rfl
  |false=>
   rw[KO ((aaA.mp m).resolve_left λq=>by rw[q] at e;simp at e)];rfl
theorem AJ{x:Int}:l.takeWhile (λy=>!(y==x)) <+: l:=List.takeWhile_prefix _
theorem aam{l:List Int}:l.take (l.takeWhile λy=>!(y==x)).length=l.takeWhile λy=>!(y==x):=by
 obtain⟨r,e⟩:=AJ (l:=l) (x:=x)
 conv=>lhs;rw[<- e]
 rw[e];exact(List.prefix_iff_eq_take.mp (AJ)).symm
theorem Mj:∀{l:List Int} {x},x∉l.takeWhile (λy=>!(y==x))
 |[],x,m=>nomatch m
 |a::l,x,m=>by
  rw[List.takeWhile_cons] at m;cases e:(a==x) with
  |true=>rw[e] at m;cases m
  |false=>
   rw[e] at m;rcases aaA.mp m with q|q
   .rw[<- q] at e;simp at e
   .exact Mj q
theorem aeL(k:Gd g)(hx:1<=x/\x<=(g.C.length:Int))(nl:x∉g.ln)(no:fW g x=false)(h:ou (gD (j9 g x)) []=some (.az,gD g3)):M4 (gD g) [.int x]=some (.az,gD g3):=by
 have t1:nW (tV (bP "Changes" "has" Ej (bV "Gate" "known" (aj 0)) (au (aj 1) aE))) [some (gD g,.own),some (.int x,.sh [])]=some false:=kN (b:=true) (a_ (CO (fl rfl) rfl ((H_ g.C x).trans (by unfold inR;rw[aaq hx.1,aaq hx.2];rfl))));have t2:lT (tV (e2 (jo false) (aj 1) (bV "Gate" "on_line" (aj 0)))) (tV (e2 (kC false) (aj 1) (bV "Gate" "grounds" (aj 0)))) [some (gD g,.own),some (.int x,.sh [])]=some false:=
  (q_ ((a_ (aG rfl (fl rfl) (by unfold iL;rw[uA,if_neg abk,zP]))).trans (by rw[ab8 nl]))).trans (a_ (aG rfl (fl rfl) (by show some (D.bl (fW g x))=_;rw[no])))
 have t3:tV (e2 (jo false) (aj 1) (bV "Gate" "laid_ones" (aj 0))) [some (gD g,.own),some (.int x,.sh [])]=some (decide (x∈g.ld)):=a_ (aG rfl (fl rfl) (by unfold iL;rw[uA,if_neg abk,zP]));refine qv rfl (cK t1 (cK t2 (sq (ρ':=[some (gD { g with ld:=(j9 g x).ld },.own),some (.int x,.sh [])]) ?_ (sq (gu (B6 rfl rfl rfl rfl k.gr.im (by have:=k.gr.len;have:=k.gc.ln;show g.gr.length<=100;lia)))
  (sq (Fq rfl rfl rfl rfl) (yw rfl h)))))) rfl
 by_cases mx:x∈g.ld
 .rw[aaq mx] at t3;have e1:e2 DR (bV "Gate" "laid_ones" (aj 0)) (aj 1) [some (gD g,.own),some (.int x,.sh [])]=some (.int (g.ld.takeWhile λy=>!(y == x)).length,.own):=aG (fl rfl) rfl (by
   show(match eN (g.ld.map D.int) with|some ts=>(ts.findIdx? (· == x)).map λj:Nat=>D.int j|none=>none)=_;rw[uv];dsimp only;rw[KO mx];rfl)
  have c:pP (bV "Gate" "laid_ones" (aj 0)) (e2 DR (bV "Gate" "laid_ones" (aj 0)) (aj 1)) [some (gD g,.own),some (.int x,.sh [])]=some (iL (j9 g x).ld,.own):=by
   unfold pP;rw[fl rfl,e1];show(if aL (g.ld.map D.int)=true then some (D.lst (cutD (g.ld.map D.int) none (some ((g.ld.takeWhile λy=>!(y==x)).length:Int))),Tag.own) else none)=_;rw[if_pos (e_ _),Jk (by rw[List.length_map];exact List.IsPrefix.length_le AJ),<- List.map_take,aam];unfold j9;rw[if_pos mx];rfl
  exact f_ t3 (pR c rfl rfl rfl)
 .rw[ab8 mx] at t3;refine fL t3 ?_;unfold j9;rw[if_neg mx];rfl
abbrev hd(ta:Ta)(L:List Int):List Str:=(nA ta L).getD []
theorem aeu{L:List Int}:(aS (qg n t ta) (kL L)).getD (tob n t [])=tob n t (hd ta L):=by
 rw[N7];unfold hd;cases nA ta L<;>rfl
theorem U8{L:List Int}:putD (qg n t ta) (kL L) (tob n t h)=qg n t (gp ta L h):=A3 (λ_ _=>lU)
theorem aeH{L:List Int}(hL:L≠[])(k:Gd g)(tn:(g.ta.map (·.1)).Nodup)(tl:g.ta.length<=5000)(hw:w∈(["yes","no","unsure"]:List Str))(hm:word g.n g.t (hd g.ta L)="more"):
  uH "Gate" "tallies" "Tally" "tell" (uO "Tally" Ca (au (e2 c9 (bV "Gate" "numbers" (aj 0)) (eC (.int 2))) (au (e2 c9 (bV "Gate" "numbers" (aj 0)) (eC (.int 3))) aE))) RZ [some (gD g,.own),some (tD L,.sh []),some (.str w,.sh []),none,none] =
   some (.nx [some (gD { g with ta:=gp g.ta L (hd g.ta L++[w]) },.own),some (tD L,.sh []),some (.str w,.sh []),none,some (.str (word g.n g.t (hd g.ta L++[w])),.own)]):=by
 have e1:uO "Tally" Ca (au (e2 c9 (bV "Gate" "numbers" (aj 0)) (eC (.int 2))) (au (e2 c9 (bV "Gate" "numbers" (aj 0)) (eC (.int 3))) aE)) [some (gD g,.own),some (tD L,.sh []),some (.str w,.sh []),none,none]=some (tob g.n g.t [],.own):=by
  show(match Ca (.ins "Tally" []) [.int g.n,.int g.t] with|some (.az,d)=>some (d,Tag.own)|_=>none)=_;rw[aay k.nt]
 have n1:((qg g.n g.t g.ta).map (·.1)).Nodup:=by
  unfold qg;rw[ade,show((λkv:List Key×D=>kv.1) ∘ λp:List Int×List Str=>(kL p.1,tob g.n g.t p.2))=kL ∘ (·.1) from rfl,<- ade];unfold List.Nodup at tn ⊢;rw[agb];exact tn.imp λq e=>q (lU e)
 refine(ZT rfl rfl rfl rfl rfl (se _) e1 aeu (abA hw hm (by have:=Ke hm;have:=k.nt;lia)) ⟨rfl,by unfold kL;rw[agY];exact adt.mpr λ_ _=>rfl,λz=>hL (List.map_eq_nil_iff.mp z),n1,size_le (by unfold qg;rw[List.length_map];lia),rfl⟩).trans ?_;rw[U8];rfl
def jb(g:G)(L:List Int)(w:Str):G:={ g with ta:=gp g.ta L (hd g.ta L++[w]),an:=g.an+1,en:=if(word g.n g.t (hd g.ta L++[w]) == "more")=true then g.en else g.en++[.tup [tD L,.str (word g.n g.t (hd g.ta L++[w]))]] }
def uG(g:G)(L:List Int):G:={ g with ld:=g.ld.drop (L.length-g.ln.length),ln:=L,gw:=g.gw++[L] }
theorem Nf(L:List (List Int)):aL (dQ L)=true:=qT.mpr λd m=>by
 obtain⟨l,_,rfl⟩:=abY.mp m;exact e_ l
theorem XG{L:List Int}(h1:g.ln.length<=L.length)(h2:L.length<=g.ln.length+g.ld.length)(hg:g.gw.length<=5000):ud (gD g) [tD L]=some (.az,gD (uG g L)):=by
 have c:zW (bV "Gate" "laid_ones" (aj 0)) (e2 i9 (e1 eS (aj 1)) (e1 eS (bV "Gate" "on_line" (aj 0)))) [some (gD g,.own),some (tD L,.sh [])]=some (iL (g.ld.drop (L.length-g.ln.length)),.own):=by
  have e1:e2 i9 (e1 eS (aj 1)) (e1 eS (bV "Gate" "on_line" (aj 0))) [some (gD g,.own),some (tD L,.sh [])]=some (.int ((L.length-g.ln.length:Nat):Int),.own):=aG (bA rfl (by show some (D.int (L.map D.int).length)=_;rw[List.length_map])) (bA (fl rfl) (by show some (D.int (g.ln.map D.int).length)=_;rw[List.length_map])) (by show some (D.int (_-_))=_;rw[Int.natCast_sub h1]);unfold zW;rw[fl rfl,e1];show(if aL (g.ld.map D.int)=true then some (D.lst (cutD (g.ld.map D.int) (some ((L.length-g.ln.length:Nat):Int)) none),Tag.own) else none)=_;rw[if_pos (e_ _),OI (by rw[List.length_map];lia),<- List.map_drop];rfl
 refine qv rfl (sq (pR c rfl rfl rfl) (sq (pR (g:={ g with ld:=g.ld.drop (L.length - g.ln.length) }) (bA rfl Qn) rfl rfl rfl) (gu ((A5 (es:=gF { g with ld:=g.ld.drop (L.length - g.ln.length),ln:=L }) rfl rfl rfl ?_).trans (by
  have:gD (uG g L)=.ins "Gate" (dY "grown" (.lst (dQ g.gw++[tD L])) (gF { g with ld:=g.ld.drop (L.length-g.ln.length),ln:=L })):=by
   unfold gD gF uG dQ;rw[adp];rfl
  rw[<- this]))))) rfl
 rw[Nf,show aB (tD L)=true from e_ L,aaq (size_le (by unfold dQ;rw[List.length_map];lia))];rfl
def bZ(g:G)(L:List Int)(w:Str):G:=if(word g.n g.t (hd g.ta L++[w]) == "yes")=true then uG (jb g L w) L else jb g L w
theorem aaf{L:List Int}(hk:L∈g.lk)(hL:L≠[])(k:Gd g)(tn:(g.ta.map (·.1)).Nodup)(tl:g.ta.length<=5000)(hw:w∈(["yes","no","unsure"]:List Str))(hm:word g.n g.t (hd g.ta L)="more")(em:aL g.en=true)(el:g.en.length<=5000)(gl:g.gw.length<=5000)(h1:g.ln.length<=L.length)(h2:L.length<=g.ln.length+g.ld.length)
  (hs:ou (gD (bZ g L w)) []=some (.az,gD g3)):HB (gD g) [tD L,.str w]=some (.str (word g.n g.t (hd g.ta L++[w])),gD g3):=by
 generalize ew:word g.n g.t (hd g.ta L++[w])=u;have ft:=aeH hL k tn tl hw hm;rw[ew] at ft;have hu:∀g':G,jI (sZ (xO 0 "Gate" "grow" ud (au (aj 1) aE))) [some (gD g',.own),some (tD L,.sh []),some (.str w,.sh []),none,some (.str u,.own)]=(ud (gD g') [tD L]).map λv=>.nx [some (v.2,.own),some (tD L,.sh []),some (.str w,.sh []),none,some (.str u,.own)]:=λg'=>by
  show jI (λρ=>(xO 0 "Gate" "grow" ud (au (aj 1) aE) ρ).map λw=>.nx w.2) _=_;have:xO 0 "Gate" "grow" ud (au (aj 1) aE) [some (gD g',.own),some (tD L,.sh []),some (.str w,.sh []),none,some (.str u,.own)]=(ud (gD g') [tD L]).map λv=>(v.1,bQ [some (gD g',.own),some (tD L,.sh []),some (.str w,.sh []),none,some (.str u,.own)] 0 v.2):=by
   show(if("Gate":Str)="Gate"/\(gF g').lookup ("grow":Str)=none/\apart 0 [(tD L,.sh [])]=true then _ else none)=_;rw[if_pos ⟨rfl,rfl,rfl⟩];rfl
  unfold jI;dsimp only;rw[this];cases ud (gD g') [tD L]<;>rfl
 refine lM rfl (cK (a_ (aG rfl (fl rfl) ((QN true L g.lk).trans (by rw[aaq hk];rfl)))) (sq ft (sq (ρ':=[some (gD { g with ta:=gp g.ta L (hd g.ta L++[w]),an:=g.an+1 },.own),some (tD L,.sh []),some (.str w,.sh []),none,some (.str u,.own)]) (Fq rfl rfl rfl rfl) (sq (ρ':=[some (gD (jb g L w),.own),some (tD L,.sh []),some (.str w,.sh []),none,some (.str u,.own)]) ?_ (sq (ρ':=[some (gD (bZ g L w),.own),some (tD L,.sh []),some (.str w,.sh []),none,some (.str u,.own)]) ?_ (sq (yw rfl hs) rfl))))))
 .have ht:tV (e2 iI (aj 4) (eC (.str "more"))) [some (gD { g with ta:=gp g.ta L (hd g.ta L++[w]),an:=g.an+1 },.own),some (tD L,.sh []),some (.str w,.sh []),none,some (.str u,.own)]=some (!(u == "more")):=rfl;unfold jb;rw[ew];cases e:(u==("more":Str)) with
  |true=>rw[e] at ht;rw[jn,ht];rfl
  |false=>
   rw[e] at ht;refine f_ ht (gu ((A5 (d:=.tup [tD L,.str u]) rfl rfl rfl ?_).trans ?_))
   .have:aB (.tup [tD L,.str u])=true:=by unfold tD;simp only[aB,aL,e_,agf]
    rw[this,em,aaq (size_le (by lia))];rfl
   .rfl
 .have ht:tV (e2 oEq (aj 4) (eC (.str "yes"))) [some (gD (jb g L w),.own),some (tD L,.sh []),some (.str w,.sh []),none,some (.str u,.own)]=some (u == "yes"):=rfl;unfold bZ;rw[ew];cases e:(u==("yes":Str)) with
  |true=>
   rw[e] at ht;refine f_ ht ((hu (jb g L w)).trans ?_);rw[XG (g:=jb g L w) h1 h2 gl];rfl
  |false=>rw[e] at ht;rw[jn,ht];rfl
theorem Tf(n t:Int)(h:List Str):word n t h="yes"\/bw (word n t h)=true\/word n t h="more":=by
 unfold word
 split
 .exact .inl rfl
 .split
  .exact .inr (.inl rfl)
  .split
   .exact .inr (.inl rfl)
   .exact .inr (.inr rfl)
theorem Of(h:1<=n/\n<=t/\t<=20):word n t []="more":=by
 unfold word;rw[if_neg (by show ¬((0:Nat):Int) >= n;omega),if_neg (by show ¬((0:Nat):Int) >= n;omega),if_neg (by show ¬((0:Nat):Int) >= t;omega)]
theorem Ll(k:Gd g)(l:List Int):wd g l=word g.n g.t (hd g.ta l):=by
 unfold wd hd;cases nA g.ta l with
 |none=>exact(Of k.nt).symm
 |some h=>rfl
structure Gt(k:Nat)(g:G):Prop where
 tn:(g.ta.map (·.1)).Nodup
 tl:g.ta.length<=k
 yl:∀l,word g.n g.t (hd g.ta l)="yes"->l.length<=g.ln.length
 em:aL g.en=true
 el:g.en.length<=k
 gl:g.gw.length<=k
 lg:g.gw.getLastD []=g.ln
 st:g.ht=true->g.ld=[]
 ll:(g.lk.length:Int)<=g.h
structure Lk(g:G)(ps:List Int):Prop where
 ri:mG (eo g) ps
 ge:lim (eo g) g.h<=ps.length
 le:(ps.length:Int)<=g.h
 eq:g.lk=ps.map λp=>gG g p.toNat
structure Gi(k:Nat)(g:G):Prop where
 gd:Gd g
 gt:Gt k g
 fin:Fin g
 QT:∃ps,Lk g ps
theorem wu(h:p<=g.ld.length):(gG g p).length=g.ln.length+p:=by
 unfold gG;rw[abD,agW];lia
theorem aal(k:Gd g)(hl:(g.lk.length:Int)<=g.h):Lk (eB g) (uD g):=by
 have hk:(kZ g).length<=g.lk.length:=by
  have:=sub_len (l:=(kZ g).map λp=>gG g p.toNat) (m:=g.lk) ?_ λl m=>?_
  .rwa [List.length_map] at this
  .unfold List.Nodup;rw[agb];refine rZ.1.imp_of_mem λ{a b} ma mb lt e=>?_
   have:=congrArg List.length e;have ha:=(rZ).2.1 a ma;have hb:=(rZ).2.1 b mb;rw[wu (by lia),wu (by lia)] at this
   lia
  .obtain⟨p,mp,rfl⟩:=abY.mp m;exact aaC ((aaV _ _).mp (acO.mp mp).2).1
 have hi:(lD (eo g) (kZ g)).length<=(kZ g).length:=afO _ _;have hh:=k.h1;obtain⟨a,b⟩:=QD (bh:=g.h) 100 (lD (eo g) (kZ g)) (by lia);exact⟨(Pj (g:=g)).1,a,b (by lia),rfl⟩
theorem settled(gd:Gd g)(gt:Gt k g):∃ld gr,ou (gD g) []=some (.az,gD (eB { g with ld:=ld,gr:=gr }))/\Gi k (eB { g with ld:=ld,gr:=gr })/\Up g ld gr/\(pA g gr\/gr=g.gr/\(dH g≠none->ld=g.ld)/\(Full g->ld=g.ld))/\(Fin g->gr=g.gr/\ld=g.ld)/\(∀p,dH g=some p->p≠1->ld=g.ld)/\(dH g=some 1->g.ht=false->cnt g.gr+1<=cnt gr):=by
 obtain⟨ld,gr,e,u,f,h,d,s⟩:=aez gd;have L:=aal (g:={ g with ld:=ld,gr:=gr }) u.gd gt.ll;have v:=u.gd;refine⟨ld,gr,e,⟨⟨v.w1,v.h1,v.nt,v.gc,v.row,v.nd,v.sX,v.jc,v.gr,v.run⟩,⟨gt.tn,gt.tl,gt.yl,gt.em,gt.el,gt.gl,gt.lg,λq=>(h q).trans (gt.st q),?_⟩,⟨f.lf,f.go⟩,_,L⟩,u,d,s⟩;rw[L.eq,List.length_map];exact L.le
theorem Gi.mem(i:Gi k g)(m:l∈g.lk):∃p:Nat,1<=p/\(p:Int)<eo g/\p<=g.ld.length/\l=gG g p/\word g.n g.t (hd g.ta l)="more":=by
 obtain⟨ps,L⟩:=i.QT;rw[L.eq] at m;exists 52;have hx:=L.ri.bd x mx;have he:=Qh (g:=g);have hp:x.toNat<=g.ld.length:=by omega
 refine⟨x.toNat,by omega,by omega,hp,rfl,?_⟩;have nb:lW g x.toNat=false:=by
  cases e:dH g with
  |none=>exact afK.mp e _ (by omega) hp
  |some q=>
   refine(zf e).2.2.2 _ (by omega) ?_;unfold eo uz at hx;rw[e] at hx;have:x<(q:Int):=hx.2;omega
 unfold lW at nb;rw[Ll i.gd] at nb;rcases Tf g.n g.t (hd g.ta (gG g x.toNat)) with h|h|h
 .have:=i.gt.yl _ h;rw[wu hp] at this;omega
 .rw[h] at nb;cases nb
 .exact h
theorem Gd.re(k:Gd g)(ta:Ta)(lk:List (List Int))(ht:Bool)(gw:List (List Int))(en:List D)(an br:Int):Gd { g with ta:=ta,lk:=lk,ht:=ht,gw:=gw,en:=en,an:=an,br:=br }:=⟨k.w1,k.h1,k.nt,k.gc,k.row,k.nd,k.sX,k.jc,k.gr,k.run⟩
theorem MH{L l:List Int}:hd (gp ta L h) l=if l=L then h else hd ta l:=by
 unfold hd nA
 by_cases e:l=L
 .rw[if_pos e,e,yZ];rfl
 .rw[if_neg e,BX e]
theorem FD[DecidableEq κ]{es:List (κ×α)}:(gp es q d).length<=es.length+1:=by
 unfold gp
 split
 .rw[List.length_map];lia
 .rw[abD];exact abL _
theorem vg(v:Gd g)(t:Gt k g):∃ld gr,ou (gD g) []=some (.az,gD (eB { g with ld:=ld,gr:=gr }))/\Gi k (eB { g with ld:=ld,gr:=gr })/\Up g ld gr:=let⟨ld,gr,a,b,c,_⟩:=settled v t;⟨ld,gr,a,b,c⟩
theorem ZC(i:Gi k g):∃ld gr,P4 (gD g) []=some (.az,gD (eB { As g with ld:=ld,gr:=gr }))/\Gi k (eB { As g with ld:=ld,gr:=gr })/\Up (As g) ld gr:=by
 have v:=(i.gd.cut List.nil_prefix i.gd.gr λx m=>i.gd.jc x (abj _ (by rwa [acG] at m))).re g.ta g.lk true g.gw g.en g.an (g.br+1);have t:=i.gt;obtain⟨ld,gr,e,i',u⟩:=vg v ⟨t.tn,t.tl,t.yl,t.em,t.el,t.gl,t.lg,λ_=>rfl,t.ll⟩;exact⟨ld,gr,Xo e,i',u⟩
theorem SM(i:Gi k g):∃ld gr,QK (gD g) []=some (.az,gD (eB { g with ht:=false,ld:=ld,gr:=gr }))/\Gi k (eB { g with ht:=false,ld:=ld,gr:=gr })/\Up { g with ht:=false } ld gr:=by
 have v:=i.gd.re g.ta g.lk false g.gw g.en g.an g.br;have t:=i.gt;obtain⟨ld,gr,e,i',u⟩:=vg v ⟨t.tn,t.tl,t.yl,t.em,t.el,t.gl,t.lg,(λq=>by cases q),t.ll⟩;exact⟨ld,gr,ZZ e,i',u⟩
theorem ad8(i:Gi k g)(hx:x∈wl g\/x∈g.ld):∃ld gr,M4 (gD g) [.int x]=some (.az,gD (eB { j9 g x with ld:=ld,gr:=gr }))/\Gi k (eB { j9 g x with ld:=ld,gr:=gr })/\Up (j9 g x) ld gr:=by
 have kd:=i.gd;have jE:(1<=x/\x<=(g.C.length:Int))/\x∉g.ln/\fW g x=false:=by
  rcases hx with h|h
  .have:=gO.mp h;exact⟨this.1,this.2.1,this.2.2.2⟩
  .exact⟨kd.row x (aas _ h),λm=>(acR.mp kd.nd).2.2 x m x h rfl,kd.jc x (aas _ h)⟩
 have pre:(j9 g x).ld <+: g.ld/\x∉(j9 g x).ld:=by
  unfold j9
  by_cases m:x∈g.ld
  .dsimp only;rw[if_pos m];exact⟨AJ,Mj⟩
  .dsimp only;rw[if_neg m];exact⟨aeR _,m⟩
 have v:=(kd.cut (gr:=putD g.gr (Sum.inl x) (.tup [.str "withdrawn"])) pre.1 (kd.gr.put (eO.mpr (by lia)) rfl) λy m=>by
  have ny:y≠x:=λe=>(abl.mp m).elim (λq=>jE.2.1 (e ▸ q)) λq=>pre.2 (e ▸ q)
  rw[kT,ab8 ny,Bool.false_or];exact kd.jc y ((abl.mp m).elim (abj _) λq=>aas _ (pre.1.subset q))).re g.ta g.lk g.ht g.gw g.en g.an (g.br+1)
 have t:=i.gt;obtain⟨ld,gr,e,i',u⟩:=vg v ⟨t.tn,t.tl,t.yl,t.em,t.el,t.gl,t.lg,(λq=>by
  have:=pre.1;rw[t.st q] at this;exact List.prefix_nil.mp this),t.ll⟩
 exact⟨ld,gr,aeL kd jE.1 jE.2.1 jE.2.2 e,i',u⟩
structure Gc(n:Nat)(c:Ch):Prop where
 ee:Ee c.2.2
 bd:∀x∈c.2.1,1<=x/\x<=(n:Int)
 few:c.2.1.length<=60
 ok:sE n c.1 c.2.1 c.2.2=true
theorem NG(h1:1<=m)(h2:m<=(C.length:Int)):ch (C++[c]) m=ch C m:=by
 unfold ch;rw[ad0 (by omega)]
theorem abW(h1:1<=m)(h2:m<=(C.length:Int)):lean (sec (C++[c])) m=lean (sec C) m:=by
 rw[<- n9 h1 (by rw[abD,adR];lia),NG h1 h2,n9 h1 h2]
theorem Ee.nil:Ee []:=⟨⟨.nil,aeK _⟩,.nil,λp m=>nomatch m⟩
theorem Xs(g:GoodC C)(k:Gc C.length c)(hl:C.length<60):GoodC (C++[c]):=by
 have at_:∀(Q:Ch->Prop),Q (0,[],[])->Q c->(∀m,Q (ch C m))->∀m,Q (ch (C++[c]) m):=λQ q0 qc h m=>by
  unfold ch;rw[List.getElem?_append]
  split
  .exact h m
  .cases e:([c]:List Ch)[(m-1).toNat-C.length]? with
   |none=>exact q0
   |some x=>
    have:=adU e;rw[aaU.mp this];exact qc
 refine⟨by rw[abD,adR];lia,λm=>at_ (λc=>Ee c.2.2) Ee.nil k.ee (λm=>g.ed m) m,λm x h1 h2 mx=>?_,λm=>?_⟩
 .rw[abD,adR] at h2
  by_cases h3:m<=(C.length:Int)
  .rw[abW h1 h3] at mx;exact g.bd m x h1 h3 mx
  .have e:(ch (C++[c]) m)=c:=by
    unfold ch;rw[show(m-1).toNat=C.length by lia,aeb (abL _),Nat.sub_self];rfl
   rw[<- n9 h1 (by rw[abD,adR];lia),e] at mx;have:=k.bd x mx
   lia
 .by_cases h1:1<=m
  .by_cases h2:m<=((C++[c]).length:Int)
   .rw[<- n9 h1 h2];refine at_ (λc=>c.2.1.length<=60) (aeK _) k.few (λm=>?_) m;unfold ch;cases e:C[(m-1).toNat]? with
    |none=>exact aeK _
    |some x=>
     have cU:=(abP.mp e).1;have:=g.few (((m-1).toNat:Int)+1);rw[<- n9 (by lia) (by lia)] at this;unfold ch at this;rw[show((((m-1).toNat:Int)+1-1).toNat)=(m-1).toNat by lia,e] at this;exact this
   .unfold lean;rw[if_pos h1,List.getElem?_eq_none (by rw[List.length_map];lia)];exact aeK _
  .unfold lean;rw[if_neg h1];exact aeK _
theorem ZD(h:Row C row):dG (C++[c]) row=dG C row:=afX λx m=>by
 unfold bJ;rw[NG (h x m).1 (h x m).2]
theorem Vb(i:Gi k g)(hc:Gc g.C.length c)(hl:g.C.length<60):∃ld gr,O4 (gD g) [.int c.1,iL c.2.1,eL c.2.2]=some (.int (g.C.length+1),gD (eB { uo g c with ld:=ld,gr:=gr }))/\Gi k (eB { uo g c with ld:=ld,gr:=gr })/\Up (uo g c) ld gr:=by
 have v:=i.gd;have lc:(g.C++[c]).length=g.C.length+1:=by rw[abD];rfl
 have v':Gd (uo g c):=⟨v.w1,v.h1,v.nt,Xs v.gc hc hl,(λx m=>by have:=v.row x m;show 1<=x/\x<=(((g.C++[c]).length:Nat):Int);rw[lc];lia),v.nd,v.sX,v.jc,⟨v.gr.im,v.gr.nd,(λq m=>by
  obtain⟨x,e,mx⟩:=v.gr.ks q m;have:=eO.mp mx;exact⟨x,e,eO.mpr (show 1<=x/\x<1+(((g.C++[c]).length:Nat):Int) by rw[lc];lia)⟩),v.gr.tp⟩,by
  obtain⟨w,h⟩:=v.run;exact⟨w,(congrArg (dz []) (ZD v.row)).trans h⟩⟩
 have t:=i.gt;obtain⟨ld,gr,e,i',u⟩:=vg v' ⟨t.tn,t.tl,t.yl,t.em,t.el,t.gl,t.lg,t.st,t.ll⟩;exact⟨ld,gr,aaY (by have:=hc.few;lia) (by have:=hc.ee.ed.ln;lia) hc.ok hl e,i',u⟩
theorem aed(i:Gi k g)(hk:k<=4000){L:List Int}(hL:L∈g.lk)(hw:w∈(["yes","no","unsure"]:List Str)):∃ld gr,HB (gD g) [tD L,.str w]=some (.str (word g.n g.t (hd g.ta L++[w])),gD (eB { bZ g L w with ld:=ld,gr:=gr }))/\Gi (k+1) (eB { bZ g L w with ld:=ld,gr:=gr })/\Up (bZ g L w) ld gr:=by
 obtain⟨p,p1,p2,p3,eL,hm⟩:=i.mem hL;have Oe:L.length=g.ln.length+p:=by rw[eL,wu p3]
 have nL:L≠[]:=λe=>by rw[e] at Oe;simp at Oe;lia
 have t:=i.gt;have v:=i.gd;have fa:=λ(g3:G) (hs:ou (gD (bZ g L w)) []=some (.az,gD g3))=>aaf hL nL v t.tn (adk t.tl (by lia)) hw hm t.em (adk t.el (by lia)) (adk t.gl (by lia)) (by lia) (by lia) hs
 have CB:aL (jb g L w).en=true/\(jb g L w).en.length<=k+1:=by
  unfold jb;dsimp only
  split
  .exact⟨t.em,by have:=t.el;lia⟩
  .refine⟨qT.mpr λd m=>?_,by rw[abD];have:=t.el;simp;lia⟩;rcases abl.mp m with m|m
   .exact qT.mp t.em d m
   .rw[aaU.mp m];unfold tD;simp only[aB,aL,e_,agf]
 have Rc:(jb g L w).ta.length<=k+1:=adk FD (by have:=t.tl;lia);have RS:((jb g L w).ta.map (·.1)).Nodup:=Gm t.tn;have v1:Gd (jb g L w):=v.re _ g.lk g.ht g.gw _ _ g.br
 by_cases hy:word g.n g.t (hd g.ta L++[w])="yes"
 .have e2:bZ g L w=uG (jb g L w) L:=by unfold bZ;rw[hy];rfl
  have dp:L.length-g.ln.length=p:=by lia
  have ea:L++g.ld.drop p=g.ln++g.ld:=by rw[eL];unfold gG;rw[afB,List.take_append_drop]
  have v2:Gd (uG (jb g L w) L):=by
   refine⟨v.w1,v.h1,v.nt,v.gc,?_,?_,?_,?_,v.gr,?_⟩
   .show Row g.C (L++g.ld.drop (L.length-g.ln.length));rw[dp,ea];exact v.row
   .show(L++g.ld.drop (L.length-g.ln.length)).Nodup;rw[dp,ea];exact v.nd
   .show((g.ld.drop (L.length-g.ln.length)).length:Int)<=g.w;rw[List.length_drop];have:=v.sX;lia
   .show ∀x∈L++g.ld.drop (L.length-g.ln.length),fW g x=false;rw[dp,ea];exact v.jc
   .show ∃v,dz [] (dG g.C (L++g.ld.drop (L.length-g.ln.length)))=some v;rw[dp,ea];exact v.run
  obtain⟨ld,gr,e,i',u⟩:=vg v2 ⟨RS,Rc,(λl hl=>by
   have hl:word g.n g.t (hd (gp g.ta L (hd g.ta L++[w])) l)="yes":=hl;rw[MH] at hl;show l.length<=L.length
   split at hl
   .rename_i q;rw[q];exact abL _
   .have:=t.yl l hl;lia),CB.1,CB.2,(by show(g.gw++[L]).length<=k+1;rw[abD];have:=t.gl;simp;lia),(by show(g.gw++[L]).getLastD []=L;rw[List.getLastD_concat]),(λq=>by
   show g.ld.drop _=[];rw[t.st q,List.drop_nil]),t.ll⟩
  exact⟨ld,gr,fa _ (by rw[e2];exact e),by rw[e2];exact⟨i',u⟩⟩
 .have e2:bZ g L w=jb g L w:=by
   unfold bZ;rw[if_neg (by simpa using hy)]
  obtain⟨ld,gr,e,i',u⟩:=vg v1 ⟨RS,Rc,(λl hl=>by
   have hl:word g.n g.t (hd (gp g.ta L (hd g.ta L++[w])) l)="yes":=hl;rw[MH] at hl
   split at hl
   .exact absurd hl hy
   .exact t.yl l hl),CB.1,CB.2,(by have:=t.gl;show g.gw.length<=k+1;lia),t.lg,t.st,t.ll⟩
  exact⟨ld,gr,fa _ (by rw[e2];exact e),by rw[e2];exact⟨i',u⟩⟩
def Wq(Q:Out->Prop)(o:Option Out):Prop:=∃r,o=some r/\Q r
section
variable{sf sg:SF}
theorem jy(h:sf ρ=some (.nx ρ'))(k:Wq Q (sg ρ')):Wq Q (cu sf sg ρ):=let⟨x,e,p⟩:=k;⟨x,sq h e,p⟩
theorem wn(h:sf ρ=some (.nx ρ'))(k:Wq Q (sg ρ')):Wq Q (cu (jI sf) sg ρ):=jy (gu h) k
theorem eZ(h:f ρ=some (d,t))(k:Wq Q (sg (iH ρ i d t))):Wq Q (cu (dJ i f) sg ρ):=jy (by rw[iO,h];rfl) k
theorem vn(h:f ρ=some (d,t))(k:Wq Q (sg (iH ρ i d t))):Wq Q (cu (jI (dJ i f)) sg ρ):=wn (by rw[iO,h];rfl) k
theorem fS(ρ':aO)(k:Wq Q (sg ρ'))(e:ρ=ρ':=by rfl):Wq Q (sg ρ):=e ▸ k
theorem vD(h:tf ρ=some b)(h1:b=true->Wq Q (sf ρ))(h2:b=false->Wq Q (sg ρ)):Wq Q (fN tf sf sg ρ):=by
 rw[jn,h];cases b with
 |true=>exact h1 rfl
 |false=>exact h2 rfl
theorem Pn(I:Nat->aO->Prop)(h0:I 0 ρ)(st:∀j ρ d,ds[j]? = some d->I j ρ->∃aQ,g d t ρ=some aQ/\Wq (λr=>∃aY,r=.nx aY/\I (j+1) aY) (sf aQ)):∃ρ',cz g t sf ds ρ=some (.nx ρ')/\I ds.length ρ':=by
 obtain⟨ρ',lp,h⟩:=Mw I h0 (λj ρ d hd h=>by
  rw[agv] at h ⊢;obtain⟨aQ,e1,_,e2,aY,rfl,h2⟩:=st j ρ d hd h;exact⟨aQ,aY,e1,.inl e2,h2⟩)
 rw[agv] at h;exact⟨ρ',lp,h⟩
theorem Ru(I:Nat->aO->Prop)(hi:it ρ=some ((bK a n).map D.int,.own))(h0:I 0 ρ)(st:∀j ρ,j<n->I j ρ->∃aQ,gN x (.int (a+j)) (.sh []) ρ=some aQ/\Wq (λr=>∃aY,r=.nx aY/\I (j+1) aY) (sf aQ))(k:∀ρ',I n ρ'->Wq Q (sg ρ')):Wq Q (cu (iR it (gN x) sf) sg ρ):=by
 obtain⟨ρ',e,h⟩:=Pn (ds:=(bK a n).map D.int) I h0 (λj ρ d hd h=>by
  unfold bK at hd;rw[ade,acn] at hd;obtain⟨y,hy,rfl⟩:=ach.mp hd;obtain⟨hj,e⟩:=abP.mp hy;rw[agu] at hj;rw[List.getElem_range] at e;subst e;exact st j ρ hj h)
 rw[List.length_map,jr] at h;exact jy (uI hi e) (k ρ' h)
theorem zw{I:aO->Prop}(h:Wq (λr=>∃ρ',r=.nx ρ'/\I ρ') (sf ρ))(k:∀ρ',I ρ'->Wq Q (sg ρ')):Wq Q (cu sf sg ρ):=let⟨_,e,ρ',e2,p⟩:=h;jy (e.trans (by rw[e2])) (k ρ' p)
theorem Wn{I:aO->Prop}(h:Wq (λr=>∃ρ',r=.nx ρ'/\I ρ') (sf ρ))(k:∀ρ',I ρ'->Wq Q (sg ρ')):Wq Q (cu (jI sf) sg ρ):=let⟨_,e,ρ',e2,p⟩:=h;wn (e.trans (by rw[e2])) (k ρ' p)
theorem qf{P:D->Prop}(hl:ds.length=n)(h:Wq (λr=>∃d,r=.rt d/\P d) (B (J6 N ds))):∃d,bG n N B ds=some d/\P d:=let⟨_,e,d,h,p⟩:=h;⟨d,bY hl (e.trans (by rw[h])),p⟩
theorem HW{P:D->List D->Prop}(hl:ds.length=n)(h:Wq (λr=>(∃a es,r=.rt (.tup (a::es))/\P a es)\/∃ρ es,r=.nx ρ/\jS J ρ=some es/\P .az es) (B (nF J 0 ds++List.replicate (N-ds.length) none))):∃a es,nu J n N B ds=some (a,es)/\P a es:=by
 obtain⟨r,e,h⟩:=h;unfold nu;rw[if_pos hl,e];rcases h with⟨a,es,rfl,p⟩|⟨ρ,es,rfl,ho,p⟩
 .exact⟨a,es,rfl,p⟩
 .dsimp only;rw[ho];exact⟨.az,es,rfl,p⟩
theorem KG(hg:g ρ=some ps)(hF:F (ps.map (·.1))=some (r,es))(ha:pN js sl ps=true:=by rfl):Bu js sl F g ρ=some (.ok r (lu ρ js es)):=by
 unfold Bu xJ;rw[hg];dsimp only;rw[if_pos ha,hF];rfl
theorem ZM(hg:g ρ=some ps)(hF:F (ps.map (·.1))=some (r,es))(ha:pN js sl ps=true:=by rfl):xJ js sl F g ρ=some (r,lu ρ js es):=by
 unfold xJ;rw[hg];dsimp only;rw[if_pos ha,hF];rfl
theorem MX(h:f ρ=some (.ok d ρ')):BE i f ρ=some (.nx (iH ρ' i d .own)):=by unfold BE;rw[h]
end
theorem yW:Gj [gD g]=some (iL g.ln):=bY rfl (cC (bA (fl rfl) s_))
theorem Jp:Nz [gD g]=some (iL g.ld):=bY rfl (cC (bA (fl rfl) s_))
theorem Ry:Um [gD g]=some (.lst (dQ g.lk)):=bY rfl (cC (bA (fl (d:=.lst (dQ g.lk)) rfl) (if_pos (Nf _))))
theorem ac2:ZL [gD g]=some (.bl g.ht):=bY rfl (by rw[Bk,fl rfl];rfl)
def outD(gr:List (Key×D))(x:Int):D:=.tup [.int x,(aS gr (Sum.inl x:Key)).getD .az]
theorem EK(k:Gd g):rQ [gD g]=some (.lst ((b7 (kG g.gr)).map (outD g.gr))):=by
 have hl:=k.gr.len;have gl:=k.gc.ln;obtain⟨ek,e⟩:=qP k.gr.ks;have el:(kG g.gr).length=g.gr.length:=by have:=congrArg List.length ek;exists 64;exact this.symm
 have hs:e1 i7 (bV "Gate" "grounds" (aj 0)) [some (gD g,.sh [])]=some (iL (b7 (kG g.gr)),.own):=bA (fl rfl) (by
  show(match ig g.gr with|some ns=>if ns.length<64 then some (D.lst ((b7 ns).map D.int)) else none|none=>none)=_;rw[e];dsimp only;rw[if_pos (by lia)];rfl)
 have hc:=ji (js:=[none,some 0]) (g:=gN 0) (tt:=k7) (k:=λd=>match d with | .int x=>some (outD g.gr x) | _=>none) (fZ hs) (by rw[List.length_map,qA];exact size_le (by lia)) (λd m=>by
  exists 52;have mi:=k.gr.mem.mp (rm.mp mx);unfold aN at mi;obtain⟨v,hv⟩:=agd.mp mi;have iv:=qT.mp k.gr.im v (by
   unfold aS at hv;obtain⟨kv,h1,rfl⟩:=ach.mp hv;exact abY.mpr ⟨kv,afU h1,rfl⟩)
  have hg:e2 jL (bV "Gate" "grounds" (aj 1)) (aj 0) [some (.int x,.sh []),some (gD g,.sh [])]=some (v,.own):=aG (fl rfl) rfl (by
   show(aS g.gr (Sum.inl x:Key)).bind _=_;rw[hv,ac0,if_pos iv])
  have ho:∃t,iV (au (aj 0) (au (e2 jL (bV "Gate" "grounds" (aj 1)) (aj 0)) aE)) [some (.int x,.sh []),some (gD g,.sh [])]=some (outD g.gr x,t):=by
   rw[l7,aR,aR,hg];unfold outD;rw[hv];exact⟨_,rfl⟩
  obtain⟨t,ho⟩:=ho;exact ur rfl rfl ho (by
   unfold outD;rw[hv];simp only[agB,aB,aL,iv,agf]))
 rw[afc,show((b7 (kG g.gr)).filterMap ((λd=>match d with|D.int x=>some (outD g.gr x)|_=>none) ∘ D.int))=(b7 (kG g.gr)).map (outD g.gr) from l6 (outD g.gr) _] at hc;exact bY rfl (cC hc)
noncomputable def g0(w h n t:Int):G:=⟨w,h,n,t,[],[],[],[],[],[],false,[],[],0,0⟩
theorem Tj(hw:1<=w/\w<=16)(hh:1<=h/\h<=8)(nt:1<=n/\n<=t/\t<=20):Q5 (.ins "Gate" []) [.int w,.int h,.int n,.int t]=some (.az,gD (g0 w h n t)):=by
 have q:∀{i} {v b},aj i [some (.ins "Gate" [],.own),some (.int w,.sh []),some (.int h,.sh []),some (.int n,.sh []),some (.int t,.sh [])]=some (.int v,.sh [])->1<=v/\v<=b->tV (cP n5 (au (aj i) (au (eC (.int 1)) (au (eC (.int b)) aE)))) [some (.ins "Gate" [],.own),some (.int w,.sh []),some (.int h,.sh []),some (.int n,.sh []),some (.int t,.sh [])]=some true:=λh hb=>(xE h).trans (by unfold inR;rw[aaq hb.1,aaq hb.2];rfl)
 refine qv (ρ:=[some (gD (g0 w h n t),.own),some (.int w,.sh []),some (.int h,.sh []),some (.int n,.sh []),some (.int t,.sh [])]) rfl (cK (kN ((qN (q rfl hw)).trans ((qN (q rfl hh)).trans (a_ (cL (ps:=[(.int n,.sh []),(.int t,.sh [])]) rfl (RJ nt)))))) ?_) rfl
 kernel_rfl
theorem gi0(hw:1<=w/\w<=16)(hh:1<=h/\h<=8)(nt:1<=n/\n<=t/\t<=20):Gi 0 (g0 w h n t):=by
 refine⟨⟨hw,hh,nt,⟨aeK _,λm=>Ee.nil,λm x h1 h2=>?_,λm=>?_⟩,(λx m=>nomatch m),.nil,?_,(λx m=>nomatch m),⟨rfl,.nil,(λk m=>nomatch m),λp m=>nomatch m⟩,[],rfl⟩,⟨.nil,abL _,λl hl=>?_,rfl,abL _,abL _,rfl,λ_=>rfl,?_⟩,⟨(λx m=>nomatch m),λ_=>⟨(λe=>nomatch e),λ_=>rfl,λ_=>.inr λx m=>nomatch m⟩⟩,[],⟨.nil,λx m=>nomatch m⟩,?_,?_,rfl⟩
 .have h2:m<=((0:Nat):Int):=h2
  lia
 .unfold lean;split<;>exact aeK _
 .show((0:Nat):Int)<=w;lia
 .rw[show hd (g0 w h n t).ta l=[] from rfl,show word (g0 w h n t).n (g0 w h n t).t []="more" from Of nt] at hl;exact absurd hl (by decide +kernel)
 .show((0:Nat):Int)<=h;lia
 .show lim ((0:Nat)+1:Int) h<=((0:Nat):Int);unfold lim;split<;>lia
 .show((0:Nat):Int)<=h;lia
theorem adM(I:Nat->aO->Prop)(R:D->Prop)(h0:I 0 ρ)(st:∀j ρ d,ds[j]? = some d->I j ρ->∃aQ,g d t ρ=some aQ/\Wq (λr=>(∃aY,r=.nx aY/\I (j+1) aY)\/∃x,r=.rt x/\R x) (sf aQ)):(∃ρ',cz g t sf ds ρ=some (.nx ρ')/\I ds.length ρ')\/∃x,cz g t sf ds ρ=some (.rt x)/\R x:=by
 rcases Ku I (λ_=>R) h0 (λj ρ d hd h=>by
  rw[agv] at h ⊢;obtain⟨aQ,e1,r,e2,h⟩:=st j ρ d hd h;refine⟨aQ,e1,h.imp (λ⟨aY,e,h⟩=>⟨aY,.inl (e2.trans (by rw[e])),h⟩) λ⟨x,e,h⟩=>⟨x,e2.trans (by rw[e]),h⟩⟩) with⟨ρ',e,h⟩|⟨_,x,e,h,_⟩
 .rw[agv] at h;exact .inl ⟨ρ',e,h⟩
 .exact .inr ⟨x,e,h⟩
theorem E9(I:Nat->aO->Prop)(R:D->Prop)(hi:it ρ=some (ds,t))(ht:t=.own\/t=.sh [])(h0:I 0 ρ)(st:∀j ρ d,ds[j]? = some d->I j ρ->∃aQ,g d (.sh []) ρ=some aQ/\Wq (λr=>(∃aY,r=.nx aY/\I (j+1) aY)\/∃x,r=.rt x/\R x) (sf aQ))(k:∀ρ',I ds.length ρ'->Wq Q (sg ρ'))(q:∀x,R x->Q (.rt x)):Wq Q (cu (iR it g sf) sg ρ):=by
 rcases adM I R h0 st with⟨ρ',e,h⟩|⟨x,e,h⟩
 .refine jy ?_ (k ρ' h);rcases ht with rfl|rfl
  .exact tN hi e
  .exact tN hi e
 .refine⟨_,fG ?_,q x h⟩;rcases ht with rfl|rfl
  .exact CA hi e
  .exact CA hi e
theorem S1(k:Gd g)(hv:dz [] (dG g.C g.ln)=some v):R7 [gD g]=some (dS (nz v))/\Kb v:=by
 have h:=AW k.gc (λx m=>k.row x (abj _ m)) (by have:=k.len;lia) hv;exact⟨bY rfl (cC (cL rfl h.1)),h.2⟩
noncomputable def dI(ns:List Int):D:=.gP (ns.map D.int)
noncomputable def x9(ns:List Int)(k:Int):Int:=if 0<ns.length then ns.getD (k % ns.length).toNat 0 else 0
def jw(ns:List Int)(k p m:Int):Int:=((x9 ns k+k*k)*48271+11) % p % m
theorem oE(hm:0<m):0<=jw ns k p m/\jw ns k p m<m:=⟨Int.emod_nonneg _ (by omega),Int.emod_lt_of_pos _ hm⟩
theorem wj(h:-(2 ^ 64)<j/\j<2 ^ 64):uq i j=true:=by unfold uq;rw[aaq h.1,aaq h.2];simp
theorem F5:eS (dI ns)=some (.int ns.length):=by unfold dI;show some (D.int (ns.map D.int).length)=_;rw[List.length_map]
theorem abB(hk:0<=k/\k<=100000)(hp:0<p)(hm:0<m):tE [dI ns,.int k,.int p,.int m]=some (.int (jw ns k p m)):=by
 have e:∃d,tE [dI ns,.int k,.int p,.int m]=some d/\d=.int (jw ns k p m):=by
  refine qf rfl (eZ rfl (fS [some (dI ns,.sh []),some (.int k,.sh []),some (.int p,.sh []),some (.int m,.sh []),some (.int 0,.own)] ?_));refine zw (I:=λρ=>ρ=[some (dI ns,.sh []),some (.int k,.sh []),some (.int p,.sh []),some (.int m,.sh []),some (.int (x9 ns k),.own)]) ?_ λρ e=>?_
  .refine vD (a_ (aG (bA rfl F5) rfl rfl)) (λh=>?_) λh=>?_
   .have h:=aaC h;have h0:=Int.emod_nonneg k (show(ns.length:Int)≠0 by omega);have h1:=Int.emod_lt_of_pos k h;have hx:e2 c9 (aj 0) (e2 oMod (aj 1) (e1 eS (aj 0))) [some (dI ns,.sh []),some (.int k,.sh []),some (.int p,.sh []),some (.int m,.sh []),some (.int 0,.own)]=some (.int (x9 ns k),.own):=aG rfl (aG rfl (bA rfl F5) (ye h)) (UO (by
     unfold x9;rw[if_pos (by omega)];exact LG h0 (by omega)) rfl)
    exact⟨_,by rw[iO,hx];rfl,_,rfl,rfl⟩
   .have h:=of_decide_eq_false h;refine⟨_,rfl,_,rfl,?_⟩;unfold x9;rw[if_neg (by omega)]
  .subst e;exact⟨_,cC (aG (aG (aG (aG (aG rfl (aG rfl rfl (uK (wj (by omega)))) lJ) rfl (uK (wj (by omega)))) rfl lJ) rfl (ye hp)) rfl (ye hm)),_,rfl,rfl⟩
 obtain⟨_,e,rfl⟩:=e;exact e
theorem dr(h0:fs ρ=some (dI ns,t0))(h1:fk ρ=some (.int k,t1))(h2:fp ρ=some (.int p,t2))(h3:fm ρ=some (.int m,t3))(hk:0<=k/\k<=100000)(hp:0<p)(hm:0<m):cP tE (au fs (au fk (au fp (au fm aE)))) ρ=some (.int (jw ns k p m),.own):=
 cL (ps:=[(dI ns,t0),(.int k,t1),(.int p,t2),(.int m,t3)]) (by rw[aR,aR,aR,aR,h0,h1,h2,h3];rfl) (abB hk hp hm)
theorem Ct(h:f ρ=some (.int x,t)):e2 gI (eC (.int a)) f ρ=some (.int (a+x),.own):=aG rfl h lJ
noncomputable def dR(w h n t:Int):D:=.tup [.int w,.int h,.int n,.int t]
theorem Yh(hm:1<=m):∃d,abc [dI ns,.int m]=some d/\∃w h n t,d=dR w h n t/\(1<=w/\w<=m)/\(1<=h/\h<=8)/\1<=n/\n<=t/\t<=4:=by
 have b1:=oE (ns:=ns) (k:=51) (p:=10499) (m:=m) (by omega);have b2:=oE (ns:=ns) (k:=52) (p:=10501) (m:=8) (by omega);have b4:=oE (ns:=ns) (k:=54) (p:=10529) (m:=2) (by omega);have b5:=oE (ns:=ns) (k:=55) (p:=10531) (m:=3) (by omega);refine qf rfl (eZ (Ct (dr rfl rfl rfl rfl (by omega) (by omega) (by omega))) (eZ (Ct (dr rfl rfl rfl rfl (by omega) (by omega) (by omega))) ?_));generalize jw ns 51 10499 m=x1 at b1 ⊢;generalize jw ns 52 10501 8=x2 at b2 ⊢;refine fS [some (dI ns,.sh []),some (.int m,.sh []),some (.int (1+x1),.own),some (.int (1+x2),.own),none] ?_;refine zw (I:=λρ=>∃h,ρ=[some (dI ns,.sh []),some (.int m,.sh []),some (.int (1+x1),.own),some (.int h,.own),none]/\1<=h/\h<=8) (vD (a_ (aG (dr rfl rfl rfl rfl (by omega) (by omega) (by omega)) rfl rfl)) (λ_=>⟨_,rfl,_,rfl,1,rfl,by omega⟩) λ_=>⟨_,rfl,_,rfl,1+x2,rfl,by omega⟩) λρ ⟨h,e,hh⟩=>?_
 subst e;refine eZ (Ct (dr rfl rfl rfl rfl (by omega) (by omega) (by omega))) ?_;generalize jw ns 54 10529 2=x4 at b4 ⊢;refine fS [some (dI ns,.sh []),some (.int m,.sh []),some (.int (1+x1),.own),some (.int h,.own),some (.int (1+x4),.own)] ?_;have q:=dr (ρ:=[some (dI ns,.sh []),some (.int m,.sh []),some (.int (1+x1),.own),some (.int h,.own),some (.int (1+x4),.own)]) (fs:=aj 0) (fk:=eC (.int 55)) (fp:=eC (.int 10531)) (fm:=eC (.int 3)) rfl rfl rfl rfl (by omega) (by omega) (by omega);generalize jw ns 55 10531 3=x5 at b5 q;refine⟨.rt (dR (1+x1) h (1+x4) (1+x4+x5)),?_,_,rfl,_,_,_,_,rfl,by omega,hh,by omega⟩;have q2:e2 gI (aj 4) (cP tE (au (aj 0) (au (eC (.int 55)) (au (eC (.int 10531)) (au (eC (.int 3)) aE))))) [some (dI ns,.sh []),some (.int m,.sh []),some (.int (1+x1),.own),some (.int h,.own),some (.int (1+x4),.own)]=some (.int (1+x4+x5),.own):=aG rfl q lJ;rw[Bk,l7,aR,aR,aR,aR,q2];rfl
abbrev N3:=List (Int×Ed)
def nD(N:N3):D:=.bf (N.map λp=>((Sum.inl p.1:Key),dT p.2))
structure Eo(p:Ed):Prop where
 s:0<=p.1/\p.1<=4
 o:0<=p.2.1/\p.2.1<=4
 n:0<=p.2.2/\p.2.2<=4
 d:p.2.1≠p.2.2
structure Nk(j:Nat)(N:N3):Prop where
 nd:(N.map (·.1)).Nodup
 ok:∀q∈N,q.2.1=q.1/\Eo q.2
 ln:N.length<=j
theorem Nk.put(h:Nk j N)(e:Eo p):Nk (j+1) (gp N p.1 p):=⟨Gm h.nd,λq m=>(zZ m).elim (h.ok q) λz=>by rw[z];exact⟨rfl,e⟩,adk FD (by have:=h.ln;lia)⟩
structure Sv(es:gK):Prop where
 kb:Kb es
 bd:∀k,0<=gV es k/\gV es k<=4
structure Eg(E:List Ed):Prop where
 inc:(E.map (·.1)).Pairwise (· < ·)
 ok:∀p∈E,Eo p
 few:E.length<=3
theorem Eg.ee(g:Eg E):Ee E:=⟨⟨g.inc.imp λh=>by lia,by have:=g.few;lia⟩,g.inc.imp λh=>by lia,λp m=>eO.mpr (by have:=(g.ok p m).s;lia)⟩
theorem WX(N:N3):aL ((N.map λp=>((Sum.inl p.1:Key),dT p.2)).map (·.2))=true:=qT.mpr λd m=>by
 rw[ade] at m;obtain⟨q,_,rfl⟩:=abY.mp m;rfl
theorem Ml:∀N:N3,ig (N.map λp=>((Sum.inl p.1:Key),dT p.2))=some (N.map (·.1))
 |[]=>rfl
 |q::r=>by
  rw[aao];show(ig (r.map λp=>((Sum.inl p.1:Key),dT p.2))).map _=_;rw[Ml r];rfl
theorem WN{N:N3}(m:s∈N.map (·.1)):∃p,gv N s=some p/\(s,p)∈N:=by
 unfold gv;obtain⟨q,mq,e⟩:=abY.mp m;cases h:N.find? λkv=>decide (kv.1=s) with
 |none=>exact absurd (aaq e) (af3.mp h q mq)
 |some z=>
  have h1:=aaC (agK (p:=λkv:Int×Ed=>decide (kv.1=s)) h);exact⟨z.2,rfl,h1 ▸ afU h⟩
theorem D4(hk:0<=k/\k<=100000)(hp:0<p)(hm:0<m):∃v,(0<=v/\v<m)/\jw ns k p m=v:=⟨_,oE hm,rfl⟩
def rD(ns:List Int)(k:Int)(es:gK)(N:N3)(s4 s5 s6 s7:Slot):aO:=[some (dI ns,.sh []),some (.int k,.sh []),some (aZ es,.sh []),some (nD N,.own),s4,s5,s6,s7]
theorem ad2(hk:0<=k/\k<=100)(sv:Sv es):∃d,K9 [dI ns,.int k,aZ es]=some d/\∃E,d=eL E/\Eg E:=by
 obtain⟨c,bc,ec⟩:=D4 (k:=k) (p:=10559) (m:=4) (by lia) (by lia) (by lia);have hc:=dr (ρ:=rD ns k es [] none none none none) (fs:=aj 0) (fk:=aj 1) (fp:=eC (.int 10559)) (fm:=eC (.int 4)) rfl rfl rfl rfl (by lia) (by lia) (by lia);rw[ec] at hc;obtain⟨n,rfl⟩:∃n:Nat,c=n:=⟨c.toNat,by lia⟩
 refine qf rfl (eZ rfl (fS (rD ns k es [] none none none none) ?_));refine Ru (λj ρ=>∃N s4 s5 s6 s7,ρ=rD ns k es N s4 s5 s6 s7/\Nk j N) (ID hc (by lia)) ⟨[],_,_,_,_,rfl,.nil,(λq m=>nomatch m),abL _⟩ (λj ρ hj ⟨N,s4,s5,s6,s7,e,nk⟩=>?_) λρ ⟨N,s4,s5,s6,s7,e,nk⟩=>?_
 .subst e;rw[Int.zero_add];have hj:j<4:=by lia
  refine⟨rD ns k es N (some (.int j,.sh [])) s5 s6 s7,rfl,?_⟩;obtain⟨s,bs,e⟩:=D4 (k:=k+7*j) (p:=10567) (m:=5) (by lia) (by lia) (by lia);refine eZ (dr rfl (aG rfl (aG rfl rfl (uK (wj (by lia)))) lJ) rfl rfl (by lia) (by lia) (by lia)) ?_;rw[e];refine eZ (by rw[uX];show(lI (aZ es) (.int s) (.int 0)).map _=_;rw[Iw];rfl) (fS (rD ns k es N (some (.int j,.sh [])) (some (.int s,.own)) (some (.int (gV es s),.own)) s7) ?_);have kj:∀s6 s7,e2 gI (aj 1) (aj 4) (rD ns k es N (some (.int j,.sh [])) (some (.int s,.own)) s6 s7)=some (.int (k+j),.own):=λ_ _=>aG rfl rfl lJ
  refine zw (I:=λρ=>∃o,ρ=rD ns k es N (some (.int j,.sh [])) (some (.int s,.own)) (some (.int o,.own)) s7/\0<=o/\o<=4) (vD (a_ (aG (dr rfl (kj _ _) rfl rfl (by lia) (by lia) (by lia)) rfl rfl)) (λ_=>?_) λ_=>⟨_,rfl,_,rfl,_,rfl,sv.bd s⟩) λρ ⟨o,e,ho⟩=>?_
  .have b:=oE (ns:=ns) (k:=k+j) (p:=10597) (m:=3) (by lia);exact⟨_,by rw[iO,dr rfl (kj _ _) rfl rfl (by lia) (by lia) (by lia)];rfl,_,rfl,_,rfl,b.1,by lia⟩
  subst e;obtain⟨v,bv,e⟩:=D4 (k:=k+3*j) (p:=10601) (m:=4) (by lia) (by lia) (by lia);refine eZ (dr rfl (aG rfl (aG rfl rfl (uK (wj (by lia)))) lJ) rfl rfl (by lia) (by lia) (by lia)) ?_;rw[e];refine fS (rD ns k es N (some (.int j,.sh [])) (some (.int s,.own)) (some (.int o,.own)) (some (.int v,.own))) ?_;refine zw (I:=λρ=>∃z,ρ=rD ns k es N (some (.int j,.sh [])) (some (.int s,.own)) (some (.int o,.own)) (some (.int z,.own))/\(0<=z/\z<=4)/\o≠z) (vD rfl (λh=>⟨_,rfl,_,rfl,o+1,rfl,by have:=eq_of_beq h;lia,by lia⟩) λh=>⟨_,rfl,_,rfl,v,rfl,by lia,λq=>by rw[q] at h;simp at h⟩) λρ ⟨z,e,hz,ne⟩=>?_
  subst e;have nk':=nk.put (p:=(s,o,z)) ⟨by show 0<=s/\s<=4;lia,ho,hz,ne⟩;refine⟨.nx (rD ns k es (gp N s (s,o,z)) (some (.int j,.sh [])) (some (.int s,.own)) (some (.int o,.own)) (some (.int z,.own))),?_,_,rfl,_,_,_,_,_,rfl,nk'⟩;show(if(aB (dT (s,o,z))&&aL ((N.map λp=>((Sum.inl p.1:Key),dT p.2)).map (·.2))&&decide ((N.map λp=>((Sum.inl p.1:Key),dT p.2)).length<sizeLine))=true then some (Out.nx (bQ _ 3 (.bf (putD (N.map λp=>((Sum.inl p.1:Key),dT p.2)) (Sum.inl s:Key) (dT (s,o,z)))))) else none)=_;rw[if_pos (by rw[WX,List.length_map,aaq (size_le (by have:=nk.ln;lia))];rfl),A3 (φ:=(Sum.inl:Int->Key)) (ψ:=dT) λa b=>agx];rfl
 .subst e;have hn:=nk.ln;have hs:e1 i7 (aj 3) (rD ns k es N s4 s5 s6 s7)=some (iL (b7 (N.map (·.1))),.own):=bA rfl (by
   show(match ig (N.map λp=>((Sum.inl p.1:Key),dT p.2)) with|some ns=>if ns.length<64 then some (D.lst ((b7 ns).map D.int)) else none|none=>none)=_;rw[Ml];dsimp only;rw[if_pos (by rw[List.length_map];lia)];rfl)
  have hv:∀x∈b7 (N.map (·.1)),∃p,gv N x=some p/\p.1=x/\Eo p:=λx mx=>by
   obtain⟨p,h1,h2⟩:=WN (rm.mp mx);exact⟨p,h1,nk.ok _ h2⟩
  have hc:=ji (js:=[none,some 3]) (g:=gN 0) (tt:=k7) (te:=e2 jL (aj 1) (aj 0)) (k:=λd=>match d with | .int x=>(gv N x).map dT | _=>none) (fZ hs) (by rw[List.length_map,qA,List.length_map];exact size_le (by lia)) (λd m=>by
   exists 52;obtain⟨p,h1,_⟩:=hv x mx;show _=some ((gv N x).map dT);rw[h1];exact mX rfl rfl (aG rfl rfl (by
    show(aS (N.map λp=>((Sum.inl p.1:Key),dT p.2)) (Sum.inl x:Key)).bind _=_;rw[sQ (φ:=(Sum.inl:Int->Key)) (ψ:=dT) λa b=>agx,h1];rfl)))
  have he:((b7 (N.map (·.1))).map D.int).filterMap (λd=>match d with|.int x=>(gv N x).map dT|_=>none)=((b7 (N.map (·.1))).filterMap λx=>gv N x).map dT:=by
   rw[afc,List.map_filterMap];rfl
  rw[he] at hc;refine⟨_,cC hc,_,rfl,_,rfl,?_,λp m=>?_,?_⟩
  .have e1:((b7 (N.map (·.1))).filterMap λx=>gv N x).map (·.1)=b7 (N.map (·.1)):=by
    have:∀l:List Int,(∀x∈l,∃p,gv N x=some p/\p.1=x/\Eo p)->(l.filterMap λx=>gv N x).map (·.1)=l:=λl=>by
     induction l with
     |nil=>intro _;rfl
     |cons x r ih=>
      intro h;obtain⟨p,h1,h2,_⟩:=h x aad;rw[aeD,h1];dsimp only;rw[aao,h2,ih λy m=>h y (aab _ m)]
    exact this _ hv
   rw[e1];exact Rk nk.nd
  .obtain⟨x,mx,e⟩:=ag0.mp m;obtain⟨q,h1,_,h3⟩:=hv x mx;rw[h1] at e;cases e;exact h3
  .have:=List.length_filterMap_le (λx=>gv N x) (b7 (N.map (·.1)));rw[qA,List.length_map] at this
   lia
def rS(ns:List Int)(k:Int)(es:gK)(m:Int)(s4 s5 s6 s7 s8:Slot):aO:=[some (dI ns,.sh []),some (.int k,.sh []),some (aZ es,.own),some (.int m,.sh []),s4,s5,s6,s7,s8]
def dZ(c:Ch):D:=.tup [.int c.1,iL c.2.1,eL c.2.2]
theorem Sv.cX(s:Sv es)(g:Eg E):Sv (cX es E):=by
 refine⟨s.kb.cX g.ee,λk=>?_⟩;obtain⟨g1,g2⟩:=xV E es k g.ee.nd
 by_cases mj:k∈E.map (·.1)
 .obtain⟨p,mp,rfl⟩:=abY.mp mj;unfold gV;rw[g1 p mp rfl];exact(g.ok p mp).n
 .unfold gV;rw[g2 mj];exact s.bd k
theorem aau(h:Eo p):qx p=true:=by
 have h1:=h.s;have h2:=h.o;have h3:=h.n;unfold qx inR;rw[aaq h1.1,aaq (show p.1<=999 by lia),aaq h2.1,aaq (show p.2.1<=1000000000 by lia),aaq h3.1,aaq (show p.2.2<=1000000000 by lia),show(p.2.1==p.2.2)=false from by simpa using h.d];rfl
theorem aef{m:Nat}(hk:0<=k/\k<=100)(sv:Sv es)(hm:m<=60):∃a e,HY [dI ns,.int k,aZ es,.int m]=some (a,e)/\∃c,a=dZ c/\e=[aZ (cX es c.2.2)]/\Gc m c/\Eg c.2.2/\c.2.1.Pairwise (· < ·)/\0<=c.1/\c.1<=9:=by
 refine HW rfl (vn rfl (fS (rS ns k es m (some (iL [],.own)) none none none none) ?_));refine Wn (I:=λρ=>∃l:List Int,ρ=rS ns k es m (some (iL l,.own)) none none none none/\l.Pairwise (· < ·)/\(∀x∈l,1<=x/\x<=(m:Int))/\l.length<=60) (vD (a_ (aG (dr rfl rfl rfl rfl (by lia) (by lia) (by lia)) rfl rfl)) (λ_=>?_) λ_=>⟨_,rfl,_,rfl,[],rfl,.nil,(λx m=>nomatch m),by simp⟩) λρ ⟨l,e,l1,l2,l3⟩=>?_
 .have hi:qV (eC (.int 1)) (e2 gI (aj 3) (eC (.int 1))) (rS ns k es m (some (iL [],.own)) none none none none)=some ((bK 1 m).map D.int,.own):=by
   rw[Cu rfl rfl (oY (by lia) (by lia)) (oY (by lia) (by lia)),show((m:Int)+1-1).toNat=m by lia]
  have hc:=tR (js:=[none,some 0,some 1]) (tt:=tV (e2 oEq (cP tE (au (aj 1) (au (e2 gI (aj 2) (e2 zC (eC (.int 5)) (aj 0))) (au (eC (.int 10613)) (au (eC (.int 4)) aE))))) (eC (.int 0)))) hi (by rw[jr];lia) (λx=>rfl) (λx mx=>by
   have:=eO.mp mx;exact a_ (aG (dr rfl (aG rfl (aG rfl rfl (uK (wj (by lia)))) lJ) rfl rfl (by lia) (by lia) (by lia)) rfl rfl))
  refine⟨_,by rw[iO,hc];rfl,_,rfl,_,rfl,(x6 1 m).sublist afq,λx mx=>by have:=eO.mp (acO.mp mx).1;lia,?_⟩;have:=afO (λx=>jw ns (k+5*x) 10613 4==0) (bK 1 m);rw[jr] at this
  lia
 subst e;obtain⟨_,fE,E,rfl,gE⟩:=ad2 hk sv;have b:=oE (ns:=ns) (k:=k) (p:=10627) (m:=10) (by lia);have hd:=dr (ρ:=rS ns k es m (some (iL l,.own)) none none none none) (fs:=aj 0) (fk:=aj 1) (fp:=eC (.int 10627)) (fm:=eC (.int 10)) rfl rfl rfl rfl (by lia) (by lia) (by lia);generalize jw ns k 10627 10=r at b hd;have ht:AR (cP tE (au (aj 0) (au (aj 1) (au (eC (.int 10627)) (au (eC (.int 10)) aE))))) 4 (cP K9 (au (aj 0) (au (aj 1) (au (aj 2) aE)))) (rS ns k es m (some (iL l,.own)) none none none none)=some (.ok (dZ (r,l,E)) (rS ns k es m none none none none none)):=by
  unfold AR;rw[hd,cL rfl fE];rfl
 refine wn (MX ht) (fS (rS ns k es m none (some (dZ (r,l,E),.own)) none none none) ?_);have kl:=sv.kb.len;have el:=gE.few;obtain⟨t6,t7,t8,lp⟩:=x8 (g:=gT (cR (gN 6) (cR (gN 7) (cR (gN 8) jB)))) (f:=m7 2 (aj 6) (aj 8)) (λv x y z=>rS ns k v m none (some (dZ (r,l,E),.lk)) x y z) (λ_ _ _ _ _=>rfl) (λv p h=>Bp rfl rfl rfl h) (E:=E) (v:=es) (by lia);refine wn (tN rfl lp) (fS (rS ns k (cX es E) m none (some (dZ (r,l,E),.own)) t6 t7 t8) ?_);refine⟨_,rfl,.inl ⟨_,_,rfl,(r,l,E),rfl,rfl,⟨gE.ee,l2,l3,?_⟩,gE,l1,by show 0<=r/\r<=9;lia⟩⟩;unfold sE uQ inR;rw[aaq b.1,aaq (show r<=9 by lia),HE l1,HE gE.inc,adt.mpr (λp mp=>aau (gE.ok p mp)),aaq (show(E.length:Int)<=20 by lia),adt.mpr (λx mx=>by rw[aaq (l2 x mx).1,aaq (l2 x mx).2];rfl)];rfl
theorem ZF(ht:0<=t/\t<=100000):∃d,aee [dI ns,tD l,.int t]=some d/\∃w:Str,d=.str w/\w∈(["yes","no","unsure"]:List Str):=by
 refine qf rfl (eZ rfl ?_);obtain⟨ρ',lp,x,tg,s4,e,hx⟩:=Pn (g:=gN 4) (t:=.sh []) (ds:=l.map D.int) (sf:=dJ 3 (e2 oMod (e2 gI (e2 zC (aj 3) (eC (.int 67))) (aj 4)) (eC (.int 1000003)))) (λ_ ρ=>∃x tg s4,ρ=[some (dI ns,.sh []),some (tD l,.sh []),some (.int t,.sh []),some (.int x,tg),s4,none]/\0<=x) ⟨t,_,_,rfl,ht.1⟩ (λj ρ d hd ⟨x,tg,s4,e,hx⟩=>by
  subst e;rw[acn] at hd;obtain⟨y,hy,rfl⟩:=ach.mp hd;have hm:e2 oMod (e2 gI (e2 zC (aj 3) (eC (.int 67))) (aj 4)) (eC (.int 1000003)) [some (dI ns,.sh []),some (tD l,.sh []),some (.int t,.sh []),some (.int x,tg),some (.int y,.sh []),none]=some (.int ((x*67+y) % 1000003),.own):=aG (aG (aG rfl rfl (uK (wj (by lia)))) rfl lJ) rfl (ye (by lia));exact⟨[some (dI ns,.sh []),some (tD l,.sh []),some (.int t,.sh []),some (.int x,tg),some (.int y,.sh []),none],rfl,.nx [some (dI ns,.sh []),some (tD l,.sh []),some (.int t,.sh []),some (.int ((x*67+y) % 1000003),.own),some (.int y,.sh []),none],by rw[iO,hm];rfl,_,rfl,_,_,_,rfl,Int.emod_nonneg _ (by lia)⟩)
 subst e;refine jy (tF (abC rfl) lp) ?_;have h0:=Int.emod_nonneg x (show(4001:Int)≠0 by lia);have h1:=Int.emod_lt_of_pos x (show(0:Int)<4001 by lia);refine eZ (dr rfl (aG rfl rfl (ye (by lia))) rfl rfl (by lia) (by lia) (by lia)) ?_;generalize jw ns (x % 4001) 100057 12=v;refine fS [some (dI ns,.sh []),some (tD l,.sh []),some (.int t,.sh []),some (.int x,tg),s4,some (.int v,.own)] ?_;have q:=Ct (a:=5) (dr (ρ:=[some (dI ns,.sh []),some (tD l,.sh []),some (.int t,.sh []),some (.int x,tg),s4,some (.int v,.own)]) (fs:=aj 0) (fk:=eC (.int 56)) (fp:=eC (.int 10631)) (fm:=eC (.int 6)) rfl rfl rfl rfl (by lia) (by lia) (by lia));have q1:=a_ (aG (f:=aj 5) rfl q vN);have q2:tV (e2 oEq (aj 5) (eC (.int 11))) [some (dI ns,.sh []),some (tD l,.sh []),some (.int t,.sh []),some (.int x,tg),s4,some (.int v,.own)]=some (v==11):=rfl;have fin:∀w:Str,w∈(["yes","no","unsure"]:List Str)->∃d,Out.rt (D.str w)=.rt d/\∃w:Str,d=.str w/\w∈(["yes","no","unsure"]:List Str):=λw m=>⟨_,rfl,w,rfl,m⟩
 cases b1:decide (v<5+jw ns 56 10631 6) with
 |true=>rw[b1] at q1;exact⟨_,fG (f_ q1 rfl),fin "yes" (by decide +kernel)⟩
 |false=>
  rw[b1] at q1;cases b2:v==11 with
  |true=>rw[b2] at q2;exact⟨_,cK q1 (fG (f_ q2 rfl)),fin "unsure" (by decide +kernel)⟩
  |false=>rw[b2] at q2;exact⟨_,cK q1 (cK q2 rfl),fin "no" (by decide +kernel)⟩
theorem XD[DecidableEq κ]{es:List (κ×α)}(h:gv es k=some v):(k,v)∈es:=by
 unfold gv at h;obtain⟨kv,h1,rfl⟩:=ach.mp h;have:kv.1=k:=aaC (agK (p:=λkv:κ×α=>decide (kv.1=k)) h1);exact this ▸ afU h1
theorem BH(h:l≠[]):lE (tD l)=some (kL l):=by
 unfold lE tD;dsimp only;rw[se];dsimp only;rw[if_pos ⟨by unfold kL;rw[agY];exact adt.mpr λ_ _=>rfl,λz=>h (List.map_eq_nil_iff.mp z)⟩]
theorem Tp{L:List (List Int)}{v:Int}(h:0<=v/\v<L.length):∃l∈L,c9 (.lst (dQ L)) (.int v)=some (tD l):=by
 have cU:v.toNat<L.length:=by lia
 refine⟨L[v.toNat],List.getElem_mem cU,vH ?_ (e_ _)⟩;unfold cB kM dQ;rw[List.length_map,if_pos (by lia),if_pos (by lia),ac0,acn,aa9 cU];rfl
theorem Wz(h:0<=i/\i<l.length):∃x∈l,c9 (iL l) (.int i)=some (.int x):=by
 have cU:i.toNat<l.length:=by omega
 refine⟨l[i.toNat],List.getElem_mem cU,vH ?_ rfl⟩;unfold cB kM;rw[List.length_map,if_pos (by omega),if_pos (by omega),ac0,acn,aa9 cU];rfl
theorem BQ:eS (iL l)=some (.int l.length):=by unfold iL;rw[vo,List.length_map]
theorem Na{L:List (List Int)}:eS (.lst (dQ L))=some (.int L.length):=by show some (D.int (dQ L).length)=_;unfold dQ;rw[List.length_map]
def nU(R:Ta):List (List Key×D):=R.map λp=>(kL p.1,hs p.2)
def u_(R:Ta):D:=.cj (nU R)
theorem Zh(hm:word n t h="more"):(dX "yes" h:Int)<n/\(dX "no" h:Int)<n/\(h.length:Int)<t:=by
 unfold word at hm
 split at hm
 .exists 69
 .split at hm
  .exists 69
  .split at hm
   .exists 69
   .omega
theorem aeU(hm:word n t h="more"):ada [hs (h++[u]),dR w8 h8 n t]=some (.str (word n t (h++[u]))):=by
 obtain⟨l1,l2,l3⟩:=Zh hm;have a1:=Sx (h:=h) (w:="yes") (v:=u);have a2:=Sx (h:=h) (w:="no") (v:=u);have b1:dX "yes" (h++[u])<=dX "yes" h+1:=by rw[a1];split<;>lia
 have b2:dX "no" (h++[u])<=dX "no" h+1:=by rw[a2];split<;>lia
 have b3:(h++[u]).length=h.length+1:=by rw[abD];rfl
 generalize h++[u]=x at b1 b2 b3 a1 a2;have c1:∀(v) (s) (tg),aj 2 [some (hs x,.sh []),some (dR w8 h8 n t,.sh []),s]=some (.str v,tg)->tV (e2 oEq (e2 vV (aj 0) (aj 2)) (e2 c9 (aj 1) (eC (.int 2)))) [some (hs x,.sh []),some (dR w8 h8 n t,.sh []),s]=some ((dX v x:Int)==n):=λv s tg e=>a_ (aG (aG rfl e Rl) rfl rfl)
 have c2:∀s,tV (e2 oEq (e1 eS (aj 0)) (e2 c9 (aj 1) (eC (.int 3)))) [some (hs x,.sh []),some (dR w8 h8 n t,.sh []),s]=some ((x.length:Int)==t):=λs=>a_ (aG (bA rfl JV) rfl rfl)
 have st:∀(v) (s),gN 2 (.str v) (.sh []) [some (hs x,.sh []),some (dR w8 h8 n t,.sh []),s]=some [some (hs x,.sh []),some (dR w8 h8 n t,.sh []),some (.str v,.sh [])]:=λv s=>rfl
 refine bY rfl ?_;unfold word
 by_cases h1:(dX "yes" x:Int) >= n
 .rw[if_pos h1];exact fG (A0 (fZ rfl) (yo (st "yes" none) (f_ ((c1 "yes" _ (.sh []) rfl).trans (by rw[show((dX "yes" x:Int)==n)=true from by simpa using(show(dX "yes" x:Int)=n by lia)])) rfl)))
 .rw[if_neg h1];have k1:=kQ (ds:=[.str "no"]) (f:=fN (tV (e2 oEq (e2 vV (aj 0) (aj 2)) (e2 c9 (aj 1) (eC (.int 2))))) (pL 2) g9) (st "yes" none) (fL ((c1 "yes" _ (.sh []) rfl).trans (by rw[show((dX "yes" x:Int)==n)=false from by simpa using(show(dX "yes" x:Int)≠n by lia)])) rfl)
  by_cases h2:(dX "no" x:Int) >= n
  .rw[if_pos h2];exact fG (A0 (fZ rfl) (k1.trans (yo (st "no" _) (f_ ((c1 "no" _ (.sh []) rfl).trans (by rw[show((dX "no" x:Int)==n)=true from by simpa using(show(dX "no" x:Int)=n by lia)])) rfl))))
  .rw[if_neg h2];have k2:=k1.trans (kQ (st "no" _) (fL ((c1 "no" _ (.sh []) rfl).trans (by rw[show((dX "no" x:Int)==n)=false from by simpa using(show(dX "no" x:Int)≠n by lia)])) rfl));refine sq (uI (fZ rfl) k2) ?_
   by_cases h3:(x.length:Int) >= t
   .rw[if_pos h3];exact fG (f_ ((c2 _).trans (by rw[show((x.length:Int)==t)=true from by simpa using(show(x.length:Int)=t by lia)])) rfl)
   .rw[if_neg h3];exact cK ((c2 _).trans (by rw[show((x.length:Int)==t)=false from by simpa using(show(x.length:Int)≠t by lia)])) rfl
theorem JP{L:List Int}:(bZ g L w).ta=gp g.ta L (hd g.ta L++[w]):=by unfold bZ;split<;>rfl
theorem acK(h:a.length+b.length<=1000):gH (hs a) (hs b)=some (hs (a++b)):=by
 show(if(aL (a.map D.str)&&aL (b.map D.str)&&decide ((a.map D.str).length+(b.map D.str).length<=sizeLine))=true then some (D.lst (a.map D.str++b.map D.str)) else none)=_;rw[if_pos (by rw[Au,Au,List.length_map,List.length_map,aaq (by rw[ae6];lia)];rfl)];unfold hs;rw[adp]
theorem UI(h1:fv ρ=some (d,t))(h2:ρ[i]? = some (some (.cj es,.own)))(h3:fk ρ=some (tD l,t'))(nl:l≠[])(hi:(jV t||aB d)=true)(nd:(es.map (·.1)).Nodup)(hl:es.length<sizeLine):AK i fk fv ρ=some (.nx (bQ ρ i (.cj (putD es (kL l) d)))):=by
 unfold AK;rw[h1,h2,h3];dsimp only;rw[BH nl];dsimp only;rw[if_pos ⟨hi,nd,hl⟩]
theorem zy(h0:ρ[i]? = some (some (gD g,.own)))(ha:ga ρ=some ps)(h:F (gD g) (ps.map (·.1))=some (r,gD g'))(hp:apart i ps=true:=by rfl)(hm:(gF g).lookup m=none:=by rfl):xO i "Gate" m F ga ρ=some (r,bQ ρ i (gD g')):=by
 unfold xO;rw[h0,ha];show(if("Gate":Str)="Gate"/\(gF g).lookup m=none/\apart i ps=true then(F (gD g) (ps.map (·.1))).map _ else none)=_;rw[if_pos ⟨rfl,hm,hp⟩,h];rfl
theorem ne_self:iI (.str s) (.str s)=some (.bl false):=by
 show some (D.bl (!(s==s)))=_;rw[aen];rfl
noncomputable abbrev Ew:=List (List Int×Str)
def kX(E:Ew):List (List Key×D):=E.map λp=>(kL p.1,D.str p.2)
def gY(E:Ew):D:=.cj (kX E)
theorem T4(E:Ew):aL ((kX E).map (·.2))=true:=qT.mpr λd m=>by
 unfold kX at m;rw[ade] at m;obtain⟨q,_,rfl⟩:=abY.mp m;rfl
def nS(E:Ew)(L:List Int)(w:Str):Ew:=if w="more" then E else gp E L w
def rA(ns:List Int)(q:Int)(g:G)(T:Ta)(E:Ew)(s:D)(l:List (List Int))(s7 s8 s9 iC:Slot):aO:=[some (dI ns,.sh []),some (.int q,.sh []),some (gD g,.own),some (u_ T,.own),some (gY E,.own),some (s,.sh []),some (.lst (dQ l),.own),s7,s8,s9,iC]
theorem Zt(h:fx ρ=some (d1,ρ'))(h2:fb ρ'=some (d2,t))(h3:oEq d1 d2=some d):B7 fx fb ρ=some (d,ρ'):=by
 unfold B7;rw[h];dsimp only;rw[h2];dsimp only;rw[h3];rfl
theorem adf(h:f ρ=some (r,ρ'))(h2:jS J ρ'=some es):uE f J ρ=some (.rt (.tup (r::es))):=by
 unfold uE;rw[h];dsimp only;rw[h2];rfl
theorem Tc(hq:0<=q/\q<=100000)(i:Gi k g)(hk:k<=4000)(hl:g.lk≠[])(eE:E.length<=4000):∃a e,Vy [dI ns,.int q,gD g,u_ g.ta,gY E,dR w8 h8 g.n g.t]=some (a,e)/\∃L w ld gr,L∈g.lk/\w∈(["yes","no","unsure"]:List Str)/\a=.bl true/\e=[gD (eB { bZ g L w with ld:=ld,gr:=gr }),u_ (bZ g L w).ta,gY (nS E L (word g.n g.t (hd g.ta L++[w])))]/\Gi (k+1) (eB { bZ g L w with ld:=ld,gr:=gr })/\Up (bZ g L w) ld gr:=by
 have ll:=List.length_pos_iff.mpr hl;have b:=oE (ns:=ns) (k:=q) (p:=100103) (m:=(g.lk.length:Int)) (by lia);obtain⟨l,ml,hx⟩:=Tp b;obtain⟨p,p1,p2,p3,el,hm⟩:=i.mem ml;have nl:l≠[]:=λe=>by
  have:=wu p3;rw[<- el,e] at this;simp at this
  lia
 have cU:=Ke hm;have nt:=i.gd.nt;refine HW rfl (vn (eK rfl Ry) (fS (rA ns q g g.ta E (dR w8 h8 g.n g.t) g.lk none none none none) ?_));refine vn (aG rfl (dr rfl rfl rfl (bA rfl Na) hq (by lia) (by lia)) hx) (fS (rA ns q g g.ta E (dR w8 h8 g.n g.t) g.lk (some (tD l,.own)) none none none) ?_);refine vn (t:=.sh [3]) ?_ (fS (rA ns q g g.ta E (dR w8 h8 g.n g.t) g.lk (some (tD l,.own)) (some (hs (hd g.ta l),.sh [3])) none none) ?_)
 .show(lE (tD l)).map (λk=>((aS (nU g.ta) k).getD (.lst []),Tag.sh [3]))=_;rw[BH nl,Option.map_some,show aS (nU g.ta) (kL l)=_ from sQ (φ:=kL) (ψ:=hs) (λ_ _=>lU) _];show some (((gv g.ta l).map hs).getD (.lst []),Tag.sh [3])=some (hs ((gv g.ta l).getD []),Tag.sh [3]);cases gv g.ta l<;>rfl
 obtain⟨_,fw,w,rfl,mw⟩:=ZF (t:=((hd g.ta l).length:Int)) (by lia);refine vn (cL (ps:=[(dI ns,.sh []),(tD l,.sh [7]),(.int (hd g.ta l).length,.own)]) (by rw[aR,aR,aR,bA rfl JV];rfl) fw) (fS (rA ns q g g.ta E (dR w8 h8 g.n g.t) g.lk (some (tD l,.own)) (some (hs (hd g.ta l),.sh [3])) (some (.str w,.own)) none) ?_);have tl:=i.gt.tl;refine wn (ρ':=rA ns q g (bZ g l w).ta E (dR w8 h8 g.n g.t) g.lk (some (tD l,.own)) none (some (.str w,.own)) none) ?_ ?_
 .have nd:((nU g.ta).map (·.1)).Nodup:=by
   unfold nU;rw[ade,show((λkv:List Key×D=>kv.1) ∘ λp:List Int×List Str=>(kL p.1,hs p.2))=kL ∘ (·.1) from rfl,<- ade];have tn:=i.gt.tn;unfold List.Nodup at tn ⊢;rw[agb];exact tn.imp λq e=>q (lU e)
  rw[UI (es:=nU g.ta) (d:=hs (hd g.ta l++[w])) (t:=.own) (aG (d2:=hs [w]) rfl rfl (acK (by show _+1<=_;lia))) rfl rfl nl rfl nd (size_le (by unfold nU;rw[List.length_map];lia)),show putD (nU g.ta) (kL l) (hs (hd g.ta l++[w]))=nU (gp g.ta l (hd g.ta l++[w])) from A3 (φ:=kL) (ψ:=hs) λ_ _=>lU,<- JP];rfl
 have hi:uW (aj 3) (aj 7) (rA ns q g (bZ g l w).ta E (dR w8 h8 g.n g.t) g.lk (some (tD l,.own)) none (some (.str w,.own)) none)=some (hs (hd g.ta l++[w]),.sh [3]):=by
  show(iy (l.map D.int)).bind _=_;rw[se,ac0,show aS (nU (bZ g l w).ta) (kL l)=_ from sQ (φ:=kL) (ψ:=hs) (λ_ _=>lU) _,JP,yZ];rfl
 refine vn (cL (ps:=[(hs (hd g.ta l++[w]),.sh [3]),(dR w8 h8 g.n g.t,.sh [])]) (by rw[aR,aR,hi];rfl) (aeU hm)) (fS (rA ns q g (bZ g l w).ta E (dR w8 h8 g.n g.t) g.lk (some (tD l,.own)) none (some (.str w,.own)) (some (.str (word g.n g.t (hd g.ta l++[w])),.own))) ?_);obtain⟨ld,gr,fa,i',u⟩:=aed i hk ml mw;generalize eW:word g.n g.t (hd g.ta l++[w])=W at fa ⊢;refine wn (ρ':=rA ns q g (bZ g l w).ta (nS E l W) (dR w8 h8 g.n g.t) g.lk (some (tD l,.own)) none (some (.str w,.own)) (some (.str W,.own))) ?_ ?_
 .by_cases hw:W="more"
  .unfold nS;rw[if_pos hw];exact fL (a_ (aG rfl rfl (show iI _ _=some (.bl false) by show some (D.bl (!(_==_)))=_;rw[hw];rfl))) rfl
  .unfold nS;rw[if_neg hw];refine f_ (a_ (aG rfl rfl (show iI _ _=some (.bl true) by show some (D.bl (!(_==_)))=_;rw[show(W==("more":Str))=false from adz.mpr hw];rfl))) ?_;show(match lE (tD l) with|some (k:List Key)=>if(aB (.str W)&&aL ((kX E).map λq:List Key×D=>q.2)&&decide ((kX E).length<sizeLine))=true then some (Out.nx (bQ _ 4 (.cj (putD (kX E) k (.str W))))) else none|none=>none)=_;rw[BH nl];dsimp only;rw[if_pos (by rw[T4,aaq (size_le (by unfold kX;rw[List.length_map];lia))];rfl),show putD (kX E) (kL l) (.str W)=kX (gp E l W) from A3 (φ:=kL) (ψ:=D.str) λ_ _=>lU];rfl
 have hx:=Zt (fb:=aj 10) (t:=.sh [10]) (d2:=.str W) (zy (m:="answer") (F:=HB) (ρ:=rA ns q g (bZ g l w).ta (nS E l W) (dR w8 h8 g.n g.t) g.lk (some (tD l,.own)) none (some (.str w,.own)) (some (.str W,.own))) (i:=2) (ga:=au (aj 7) (au (aj 9) aE)) (ps:=[(tD l,.sh [7]),(.str w,.sh [9])]) rfl rfl fa) rfl (show oEq (.str W) (.str W)=some (.bl true) by show some (D.bl (W==W))=_;rw[aen]);refine⟨.rt (.tup [.bl true,gD (eB { bZ g l w with ld:=ld,gr:=gr }),u_ (bZ g l w).ta,gY (nS E l W)]),?_,.inl ⟨_,_,rfl,l,w,ld,gr,ml,mw,rfl,by rw[eW],i',u⟩⟩;exact adf hx rfl
def rY(ns:List Int)(q:Int)(b:Bool)(L:List (List Int))(O:List Int)(v:Int):aO:=[some (dI ns,.sh []),some (.int q,.sh []),some (.bl b,.sh []),some (.lst (dQ L),.sh []),some (iL O,.sh []),some (.int v,.own)]
theorem Zb{L:List (List Int)}(hq:0<=q/\q<=100000):∃d,WA [dI ns,.int q,.bl b,.lst (dQ L),iL O]=some d/\∃s:Str,d=.str s/\(s="answer"->L≠[])/\(s="withdraw"->O≠[])/\(s="go"\/s="ask"\/s="answer"\/s="withdraw"\/s="stop"):=by
 refine qf rfl (eZ (dr rfl rfl rfl rfl hq (by lia) (by lia)) ?_);generalize jw ns q 100069 10=v;refine fS (rY ns q b L O v) ?_;have fin:∀s:Str,(s="answer"->L≠[])->(s="withdraw"->O≠[])->(s="go"\/s="ask"\/s="answer"\/s="withdraw"\/s="stop")->∃d,Out.rt (D.str s)=.rt d/\∃s:Str,d=.str s/\(s="answer"->L≠[])/\(s="withdraw"->O≠[])/\(s="go"\/s="ask"\/s="answer"\/s="withdraw"\/s="stop"):=λs h1 h2 h3=>⟨_,rfl,s,rfl,h1,h2,h3⟩
 have t1:iK (tV (aj 2)) (tV (e2 qt (aj 5) (eC (.int 2)))) (rY ns q b L O v)=some (b&&decide (2<v)):=sD rfl (a_ (aG rfl rfl XY));cases c1:b&&decide (2<v) with
 |true=>rw[c1] at t1;exact⟨_,fG (f_ t1 rfl),fin "go" (λh=>absurd h (by decide +kernel)) (λh=>absurd h (by decide +kernel)) (.inl rfl)⟩
 |false=>
  rw[c1] at t1;have t2:lT (iK (tV (e2 oLt (aj 5) (eC (.int 4)))) (tV (e2 oLt (aj 1) (eC (.int 40))))) (lT (iK (tV (e2 oLt (aj 5) (eC (.int 8)))) (tV (e2 oEq (e1 eS (aj 3)) (eC (.int 0))))) (iK (tV (e2 oEq (aj 5) (eC (.int 8)))) (tV (e2 oEq (e1 eS (aj 4)) (eC (.int 0)))))) (rY ns q b L O v)=some (decide (v<4)&&decide (q<40)||(decide (v<8)&&((L.length:Int)==0)||(v==8)&&((O.length:Int)==0))):=
   BN (sD (a_ (aG rfl rfl vN)) (a_ (aG rfl rfl vN))) (BN (sD (a_ (aG rfl rfl vN)) (a_ (aG (bA rfl Na) rfl rfl))) (sD rfl (a_ (aG (bA rfl BQ) rfl rfl))))
  cases c2:(decide (v<4)&&decide (q<40)||(decide (v<8)&&((L.length:Int)==0)||(v==8)&&((O.length:Int)==0))) with
  |true=>rw[c2] at t2;exact⟨_,cK t1 (fG (f_ t2 rfl)),fin "ask" (λh=>absurd h (by decide +kernel)) (λh=>absurd h (by decide +kernel)) (.inr (.inl rfl))⟩
  |false=>
   rw[c2] at t2;obtain⟨_,c2⟩:=(Bool.or_eq_false_iff).mp c2;obtain⟨c3,c4⟩:=(Bool.or_eq_false_iff).mp c2;have t3:tV (e2 oLt (aj 5) (eC (.int 8))) (rY ns q b L O v)=some (decide (v<8)):=a_ (aG rfl rfl vN);cases c5:decide (v<8) with
   |true=>
    rw[c5] at t3 c3;exact⟨_,cK t1 (cK t2 (fG (f_ t3 rfl))),fin "answer" (λ_ e=>by rw[e] at c3;cases c3) (λh=>absurd h (by decide +kernel)) (.inr (.inr (.inl rfl)))⟩
   |false=>
    rw[c5] at t3;have t4:tV (e2 oEq (aj 5) (eC (.int 8))) (rY ns q b L O v)=some (v==8):=rfl;cases c6:v==8 with
    |true=>
     rw[c6] at t4 c4;exact⟨_,cK t1 (cK t2 (cK t3 (fG (f_ t4 rfl)))),fin "withdraw" (λh=>absurd h (by decide +kernel)) (λ_ e=>by rw[e] at c4;cases c4) (.inr (.inr (.inr (.inl rfl))))⟩
    |false=>
     rw[c6] at t4;exact⟨_,cK t1 (cK t2 (cK t3 (cK t4 rfl))),fin "stop" (λh=>absurd h (by decide +kernel)) (λh=>absurd h (by decide +kernel)) (.inr (.inr (.inr (.inr rfl))))⟩
def cI(C:List Ch):D:=.lst (C.map dZ)
structure Cs(c:Ch):Prop where
 rk:0<=c.1/\c.1<=9
 inc:c.2.1.Pairwise (· < ·)
 bd:∀x∈c.2.1,1<=x/\x<=60
 ed:Eg c.2.2
theorem Nw.re{g1 g2:G}(h:Nw g1 gr p)(a:g2.ln=g1.ln)(b:g2.C=g1.C)(c:∀l,wd g2 l=wd g1 l)(d:∀z,aN g2.gr z=true->aN g1.gr z=true):Nw g2 gr p:=by
 cases h with
 |look x h=>rw[<- a,<- c] at h ⊢;exact .look x h
 |qL x y r u h1 h2 e=>exact .qL x y r u (λz q=>h1 z (d z q)) h2 (by rw[b];exact e)
 |qF x v h1 h2 h3=>
  rw[<- b] at h1 h2 h3 ⊢;rw[<- a] at h1 h3;exact .qF x v h1 h2 h3
structure De(g g':G)(tk:Int):Prop where
 w:g'.w=g.w
 h:g'.h=g.h
 n:g'.n=g.n
 t:g'.t=g.t
 lp:g.ln <+: g'.ln
 pf:g.gr <+: g'.gr
 nw:∀p∈g'.gr,p∈g.gr\/tk≠0/\p=(Sum.inl tk,.tup [.str "withdrawn"])\/Nw { g' with gr:=g.gr } g'.gr p
 tk:tk=0\/aN g'.gr tk=true/\aN g.gr tk=false/\(Sum.inl tk,D.tup [.str "withdrawn"])∈g'.gr
def Dz(k:Nat)(g:G)(a:D)(e:List D):Prop:=∃(g':G) (gA:gK) (tk:Int),a=.int tk/\e=[gD g',aZ gA,cI g'.C]/\Gi k g'/\Sv gA/\De g g' tk/\g'.ta=g.ta/\g'.ln=g.ln/\(g'.C=g.C\/∃c,g'.C=g.C++[c]/\Cs c)
def rN(ns:List Int)(q:Int)(s:Str)(g:G)(es:gK)(C:List Ch)(s6 s7:Slot):aO:=[some (dI ns,.sh []),some (.int q,.sh []),some (.str s,.sh []),some (gD g,.own),some (aZ es,.own),some (cI C,.own),s6,s7]
theorem De.of{g g1:G}{ld:List Int}{gr:List (Key×D)}(u:Up g1 ld gr)(hw:g1.w=g.w/\g1.h=g.h/\g1.n=g.n/\g1.t=g.t)(hl:g.ln <+: g1.ln)(hg:g1.gr=g.gr):De g (eB { g1 with ld:=ld,gr:=gr }) 0:=by
 refine⟨hw.1,hw.2.1,hw.2.2.1,hw.2.2.2,hl,hg ▸ u.pf,λp m=>?_,.inl rfl⟩;rcases u.nw p m with q|q
 .rw[hg] at q;exact .inl q
 .exact .inr (.inr (q.re rfl rfl (λ_=>rfl) λz h=>by rw[hg];exact h))
theorem Vj{C:List Ch}:cB ((C++[c]).map dZ) (-1)=some (dZ c):=by
 unfold cB kM;rw[List.length_map,abD,adR,if_neg (by lia),if_pos (by lia)];show((C++[c]).map dZ)[((-1:Int)+((C.length+1:Nat):Int)).toNat]? = _;rw[show((-1:Int)+((C.length+1:Nat):Int)).toNat=C.length by lia,adp,aeb (by rw[List.length_map];exact abL _),List.length_map,Nat.sub_self];rfl
theorem WH{s:Str}(hq:0<=q/\q<=100)(i:Gi k g)(sv:Sv es)(Cr:g.C.length<60)(ho:s="withdraw"->wl g++g.ld≠[])(hs:s="go"\/s="ask"\/s="withdraw"\/s="stop"):∃a e,aaF [dI ns,.int q,.str s,gD g,aZ es,cI g.C]=some (a,e)/\Dz k g a e:=by
 have gl:=i.gd.gc.ln;have ll:=i.gd.len;have wl':=xK (g:=g);refine HW rfl (fS (rN ns q s g es g.C none none) ?_);have t (v:Str):tV (e2 oEq (aj 2) (eC (.str v))) (rN ns q s g es g.C none none)=some (s==v):=rfl;have sz:∀{x}{ρ ρ':aO} {d},x ρ=some (d,ρ')->sZ x ρ=some (.nx ρ'):=λh=>by unfold sZ;rw[h];rfl
 have r0:∀{ρ:aO} {es},jS [3,4,5] ρ=some es->qD (eC (.int 0)) [3,4,5] ρ=some (.rt (.tup (.int 0::es))):=λh=>by unfold qD;rw[h];rfl
 rcases hs with rfl|rfl|rfl|rfl
 .obtain⟨ld,gr,fa,i',u⟩:=SM i;refine jy (fL ((t "ask").trans (by decide +kernel)) (fL ((t "withdraw").trans (by decide +kernel)) (gu (fL ((t "stop").trans (by decide +kernel)) (sz (zy (m:="go") (i:=3) (ga:=aE) (ps:=[]) rfl rfl fa)))))) ⟨_,r0 rfl,.inl ⟨_,_,rfl,_,es,0,rfl,rfl,i',sv,De.of u ⟨rfl,rfl,rfl,rfl⟩ (aeR _) rfl,rfl,rfl,.inl rfl⟩⟩
 .obtain⟨a,e,SH,ch,rfl,rfl,gc,eg,c1,c2⟩:=aef (ns:=ns) (k:=q) (m:=g.C.length) (by lia) sv (by lia);obtain⟨ld,gr,fa,i',u⟩:=Vb i gc (by lia);have st:Ab 5 (Bu [4] [none,none,some 4,none] HY (au (aj 0) (au (aj 1) (G0 4 (au (e1 eS (aj 5)) aE))))) (rN ns q "ask" g es g.C none none)=some (.nx (rN ns q "ask" g (cX es ch.2.2) (g.C++[ch]) none none)):=by
   unfold Ab;rw[KG (ps:=[(dI ns,.sh []),(.int q,.sh []),(aZ es,.sh [4]),(.int (g.C.map dZ).length,.own)]) rfl (by show HY [dI ns,.int q,aZ es,.int (g.C.map dZ).length]=_;rw[List.length_map];exact SH)];show(if decide ((g.C.map dZ).length<sizeLine)=true then some (Out.nx (bQ (lu (rN ns q "ask" g es g.C none none) [4] [aZ (cX es ch.2.2)]) 5 (.lst (g.C.map dZ++[dZ ch])))) else none)=_;rw[if_pos (aaq (size_le (by rw[List.length_map];lia)))];show _=some (Out.nx [some (dI ns,.sh []),some (.int q,.sh []),some (.str "ask",.sh []),some (gD g,.own),some (aZ (cX es ch.2.2),.own),some (.lst ((g.C++[ch]).map dZ),.own),none,none]);rw[adp];rfl
  have hx:∀{j:Int} {d},cB [.int ch.1,iL ch.2.1,eL ch.2.2] j=some d->kY (jA (aj 5) (e1 pY (eC (.int 1)))) (eC (.int j)) (rN ns q "ask" g (cX es ch.2.2) (g.C++[ch]) none none)=some (d,.sh [5]):=λ{j d} h=>by
   have e1:jA (aj 5) (e1 pY (eC (.int 1))) (rN ns q "ask" g (cX es ch.2.2) (g.C++[ch]) none none)=some (dZ ch,.sh [5]):=by
    show(cB ((g.C++[ch]).map dZ) (-1)).map _=_;rw[Vj];rfl
   unfold kY;rw[e1];show(cB [.int ch.1,iL ch.2.1,eL ch.2.2] j).map _=_;rw[h];rfl
  have hg:au (kY (jA (aj 5) (e1 pY (eC (.int 1)))) (eC (.int 0))) (au (e1 pZ (kY (jA (aj 5) (e1 pY (eC (.int 1)))) (eC (.int 1)))) (au (e1 pZ (kY (jA (aj 5) (e1 pY (eC (.int 1)))) (eC (.int 2)))) aE)) (rN ns q "ask" g (cX es ch.2.2) (g.C++[ch]) none none)=some [(.int ch.1,.sh [5]),(iL ch.2.1,.own),(eL ch.2.2,.own)]:=by
   rw[aR,aR,aR,hx rfl,bA (hx rfl) s_,bA (hx rfl) afl];rfl
  refine jy (f_ ((t "ask").trans (by decide +kernel)) (sq (gu st) (gu (sz (zy (m:="ask") (ρ:=rN ns q "ask" g (cX es ch.2.2) (g.C++[ch]) none none) (i:=3) rfl hg fa))))) ⟨_,r0 rfl,.inl ⟨_,_,rfl,_,cX es ch.2.2,0,rfl,rfl,i',sv.cX eg,De.of u ⟨rfl,rfl,rfl,rfl⟩ (aeR _) rfl,rfl,rfl,.inr ⟨ch,rfl,c2,c1,λx m=>?_,eg⟩⟩⟩;have:=gc.bd x m
  lia
 .have h:(0:Int)<(wl g++g.ld).length:=by
   have:=List.length_pos_iff.mpr (ho rfl)
   lia
  have e0:dJ 6 (e2 gH (bP "Gate" "waiting" rV (aj 3) aE) (bP "Gate" "laid" Nz (aj 3) aE)) (rN ns q "withdraw" g es g.C none none)=some (.nx (rN ns q "withdraw" g es g.C (some (iL (wl g++g.ld),.own)) none)):=by
   rw[iO,aG (eK rfl (qy (by lia))) (eK rfl Jp) (qe (by rw[ae6];lia))];rfl
  obtain⟨x,mx,hx⟩:=Wz (oE h);obtain⟨ld,gr,fa,i',u⟩:=ad8 i (abl.mp mx);have e1:dJ 7 (e2 c9 (aj 6) (cP tE (au (aj 0) (au (aj 1) (au (eC (.int 100109)) (au (e1 eS (aj 6)) aE)))))) (rN ns q "withdraw" g es g.C (some (iL (wl g++g.ld),.own)) none)=some (.nx (rN ns q "withdraw" g es g.C (some (iL (wl g++g.ld),.own)) (some (.int x,.own)))):=by
   rw[iO,aG rfl (dr rfl rfl rfl (bA rfl BQ) (by lia) (by lia) h) hx];rfl
  have no:aN g.gr x=false:=by
   rcases abl.mp mx with m|m
   .exact(gO.mp m).2.2.2
   .exact i.gd.jc x (aas _ m)
  have x1:1<=x:=by
   rcases abl.mp mx with m|m
   .exact(oX x m).1
   .exact(i.gd.row x (aas _ m)).1
  have EH:(j9 g x).gr=g.gr++[(Sum.inl x,.tup [.str "withdrawn"])]:=ze no;have mw:(Sum.inl x,D.tup [.str "withdrawn"])∈gr:=u.pf.subset (by rw[EH];exact aas _ (aaU.mpr rfl));refine⟨_,fG (fL ((t "ask").trans (by decide +kernel)) (f_ ((t "withdraw").trans (by decide +kernel)) (sq (gu e0) (sq (gu e1) (sq (gu (sz (zy (m:="withdraw") (ρ:=rN ns q "withdraw" g es g.C (some (iL (wl g++g.ld),.own)) (some (.int x,.own))) (i:=3) (ga:=au (aj 7) aE) (ps:=[(.int x,.sh [7])]) rfl rfl fa))) rfl))))),.inl ⟨_,_,rfl,_,es,x,rfl,rfl,i',sv,⟨rfl,rfl,rfl,rfl,aeR _,(EH ▸ ags _ _:g.gr <+: (j9 g x).gr).trans u.pf,λp m=>?_,.inr ⟨u.mo x (by show aN (putD g.gr (Sum.inl x) (.tup [.str "withdrawn"])) x=true;rw[kT,aaq rfl];rfl),no,mw⟩⟩,rfl,rfl,.inl rfl⟩⟩
  .rcases u.nw p m with z|z
   .rw[EH] at z;rcases abl.mp z with z|z
    .exact .inl z
    .exact .inr (.inl ⟨by lia,aaU.mp z⟩)
   .exact .inr (.inr (z.re rfl rfl (λ_=>rfl) λy h=>by
     rw[show(j9 g x).gr=putD g.gr (Sum.inl x) (.tup [.str "withdrawn"]) from rfl,kT,show aN g.gr y=true from h,Bool.or_true]))
 .obtain⟨ld,gr,fa,i',u⟩:=ZC i;refine jy (fL ((t "ask").trans (by decide +kernel)) (fL ((t "withdraw").trans (by decide +kernel)) (gu (f_ ((t "stop").trans (by decide +kernel)) (sz (zy (m:="stop") (i:=3) (ga:=aE) (ps:=[]) rfl rfl fa)))))) ⟨_,r0 rfl,.inl ⟨_,_,rfl,_,es,0,rfl,rfl,i',sv,De.of u ⟨rfl,rfl,rfl,rfl⟩ (aeR _) rfl,rfl,rfl,.inl rfl⟩⟩
structure Sh(w k:Nat)(d:D):Prop where
 ok:fV d=true
 sh:(py d).showable=true
 dp:(py d).depth<=k
 lv:(py d).leavesShort 13=true
 wt:(py d).weight<=w
theorem Sh.all(h:∀d∈ds,Sh w k d):mJ ds=true/\PyData.showableAll (d9 ds)=true/\PyData.depthAll (d9 ds)<=k/\PyData.leavesShortAll 13 (d9 ds)=true/\PyData.weightAll (d9 ds)<=(w+1)*ds.length:=by
 induction ds with
 |nil=>exact⟨rfl,rfl,aeK _,rfl,aeK _⟩
 |cons d ds ih=>
  have a:=h d aad;obtain⟨i1,i2,i3,i4,i5⟩:=ih λe m=>h e (aab _ m)
  unfold mJ d9;simp only[PyData.showableAll,PyData.depthAll,PyData.leavesShortAll,PyData.weightAll,a.ok,a.sh,a.lv,i1,i2,i4,agf,acj,true_and];have h1:=a.dp;have h2:=a.wt;rw[Nat.mul_succ];omega
theorem Sh.lst(h:∀d∈ds,Sh w k d)(hl:ds.length<=n):Sh ((w+1)*n) (k+1) (.lst ds):=by
 obtain⟨i1,i2,i3,i4,i5⟩:=Sh.all h;have:=Nat.mul_le_mul_left (w+1) hl;refine⟨by unfold fV;exact i1,?_,?_,?_,?_⟩<;>unfold py
 .simp only[PyData.showable];exact i2
 .simp only[PyData.depth];omega
 .simp only[PyData.leavesShort];exact i4
 .simp only[PyData.weight];omega
theorem Sh.tup(h:∀d∈ds,Sh w k d)(hl:ds.length<=n):Sh ((w+1)*n) (k+1) (.tup ds):=by
 obtain⟨i1,i2,i3,i4,i5⟩:=Sh.lst h hl;unfold fV py at *;simp only[PyData.showable,PyData.depth,PyData.leavesShort,PyData.weight] at *;exact⟨by unfold fV;exact i1,by unfold py;exact i2,by unfold py;exact i3,by unfold py;exact i4,by unfold py;exact i5⟩
theorem Sh.repr(h:Sh w k d)(hw:w<=1048576)(hk:k<=40)(hd:dep d≠0:=by unfold dep;omega):∃s,mU d=some (.str s):=by
 refine⟨_,abz ?_ hd⟩;unfold vC;rw[h.ok,h.sh,aaq (adk h.dp hk),aaq (PyData.shown_fits (B:=13) (by decide) (by decide) h.lv (adk h.wt hw))];rfl
theorem Sh.int{i:Int}(h:0<=i/\i<=100):Sh 50 0 (.int i):=by
 have s:∀j∈[i],wM j:=λj m=>by rw[aaU.mp m];unfold wM;omega
 have a:=Oz [i] s;have b:=KD [i] s;have c:=Rb [i] s;simp only[aao,agX,PyData.showableAll,PyData.weightAll,PyData.leavesShortAll,Bool.and_true,adR] at a b c;exact⟨rfl,a,abL _,c,by show(PyData.int i).weight<=50;omega⟩
theorem Sh.wd{s:Str}(h:s="yes"\/s="no"\/s="unsure"\/s="more"):Sh 10 0 (.str s):=by
 rcases h with rfl|rfl|rfl|rfl<;>exact⟨rfl,rfl,abL _,by decide +kernel,by decide +kernel⟩
def Lo(l:List Int):Prop:=l.length<=60/\∀x∈l,0<=x/\x<=100
theorem Lo.is{l:List Int}(h:Lo l):∀d∈l.map D.int,Sh 50 0 d:=λd m=>by
 exists 52;exact .int (h.2 x mx)
theorem Lo.tD{l:List Int}(h:Lo l):Sh 3060 1 (tD l):=Sh.tup h.is (by rw[List.length_map];exact h.1)
theorem Gd.lo{g:G}(k:Gd g){l:List Int}(h:l <+: g.ln++g.ld):Lo l:=by
 have a:=k.len;have b:=h.length_le;rw[abD] at b;refine⟨by omega,λx m=>?_⟩;have:=k.row x (h.subset m);have:=k.gc.ln;omega
theorem A7{C:List Ch}{o:List Nat}{x j:Int}(h:f ρ=some (cI C,.sh o))(hx:fx ρ=some (.int x,t))(h1:1<=x)(h2:x<=(C.length:Int))(hj:cB [.int (ch C x).1,iL (ch C x).2.1,eL (ch C x).2.2] j=some d):kY (jA f (e2 i9 fx (eC (.int 1)))) (eC (.int j)) ρ=some (d,.sh o):=by
 have e1:jA f (e2 i9 fx (eC (.int 1))) ρ=some (dZ (ch C x),.sh o):=by
  unfold jA;rw[h,aG hx rfl rfl];show(cB (C.map dZ) (x-1)).map _=_;rw[RX h1 h2 (A1 h1 h2)];rfl
 unfold kY;rw[e1];show(cB [.int (ch C x).1,iL (ch C x).2.1,eL (ch C x).2.2] j).map _=_;rw[hj];rfl
theorem RB{C:List Ch}(gc:GoodC C):∀{l:List Int} {u v} {s3 s4 s5 s6},Row C l->Kb u->dz u (dG C l)=some v->∃t3 t4 t5 t6,cz (gN 3) (.sh []) (iR (d7 (kY (jA (aj 0) (e2 i9 (aj 3) (eC (.int 1)))) (eC (.int 2)))) (gT (cR (gN 4) (cR (gN 5) (cR (gN 6) jB)))) (m7 2 (aj 4) (aj 6))) (l.map D.int) [some (cI C,.sh []),some (X,.sh []),some (aZ u,.own),s3,s4,s5,s6]=some (.nx [some (cI C,.sh []),some (X,.sh []),some (aZ v,.own),t3,t4,t5,t6])
 |[],u,v,s3,s4,s5,s6,_,_,h=>by cases h;exact⟨s3,s4,s5,s6,rfl⟩
 |x::l,u,v,s3,s4,s5,s6,hr,ku,h=>by
  have h:(if bad u (bJ C x)=[] then dz (cX u (bJ C x)) (dG C l) else none)=some v:=h
  by_cases hb:bad u (bJ C x)=[]
  .rw[if_pos hb] at h;obtain⟨h1,h2⟩:=hr x aad;have hE:=(gc.ed x).ed.ln;have hi:d7 (kY (jA (aj 0) (e2 i9 (aj 3) (eC (.int 1)))) (eC (.int 2))) [some (cI C,.sh []),some (X,.sh []),some (aZ u,.own),some (.int x,.sh []),s4,s5,s6]=some ((bJ C x).map dT,.sh []):=by
    unfold d7;rw[A7 (x:=x) (t:=.sh []) (d:=eL (bJ C x)) rfl rfl h1 h2 rfl];rfl
   obtain⟨t4,t5,t6,lp⟩:=x8 (t:=.sh []) (g:=gT (cR (gN 4) (cR (gN 5) (cR (gN 6) jB)))) (f:=m7 2 (aj 4) (aj 6)) (λv x' y z=>[some (cI C,.sh []),some (X,.sh []),some (aZ v,.own),some (.int x,.sh []),x',y,z]) (λ_ _ _ _ _=>rfl) (λv p h=>Bp rfl rfl rfl h) (E:=bJ C x) (v:=u) (x:=s4) (y:=s5) (z:=s6) (by have:=ku.len;lia);obtain⟨a,b,c,d,ih⟩:=RB gc (s3:=some (.int x,.sh [])) (s4:=t4) (s5:=t5) (s6:=t6) (λy m=>hr y (aab _ m)) (ku.cX (gc.ed x)) h;exact⟨a,b,c,d,(kQ rfl (tF hi lp)).trans ih⟩
  .rw[if_neg hb] at h;cases h
theorem LS{C:List Ch}(gc:GoodC C)(hr:Row C l)(h:dz [] (dG C l)=some v):M7 [cI C,iL l]=some (aZ v):=by
 obtain⟨t3,t4,t5,t6,lp⟩:=RB gc (X:=iL l) (s3:=none) (s4:=none) (s5:=none) (s6:=none) hr Kb.nil h;exact bY rfl (sq (ρ':=[some (cI C,.sh []),some (iL l,.sh []),some (aZ [],.own),none,none,none,none]) rfl (sq (tF (fZ rfl) lp) rfl))
theorem K_{v:gK}{S X:D}:∀{E:List Ed} {s3 s4 s5},∃r,cz (gT (cR (gN 3) (cR (gN 4) (cR (gN 5) jB)))) (.sh []) (fN (tV (e2 iI (e3 lI (aj 2) (aj 3) (eC (.int 0))) (aj 4))) (pL 3) g9) (E.map dT) [some (S,.sh []),some (X,.sh []),some (aZ v,.sh []),s3,s4,s5]=some r/\match bad v E with
  |[]=>∃t3 t4 t5,r=.nx [some (S,.sh []),some (X,.sh []),some (aZ v,.sh []),t3,t4,t5]
  |y::_=>r=.rt (.int y)
 |[],s3,s4,s5=>⟨_,rfl,s3,s4,s5,rfl⟩
 |p::E,s3,s4,s5=>by
  have q:tV (e2 iI (e3 lI (aj 2) (aj 3) (eC (.int 0))) (aj 4)) [some (S,.sh []),some (X,.sh []),some (aZ v,.sh []),some (.int p.1,.own),some (.int p.2.1,.own),some (.int p.2.2,.own)]=some (oi v p):=a_ (aG (d1:=.int (gV v p.1)) (t1:=.own) (by rw[uX];show(lI (aZ v) (.int p.1) (.int 0)).map _=_;rw[Iw];rfl) rfl rfl);cases e:oi v p with
  |true=>
   rw[e] at q;refine⟨_,yo rfl (f_ q rfl),?_⟩;unfold bad;rw[List.filter_cons_of_pos e];rfl
  |false=>
   rw[e] at q;obtain⟨r,ih,h⟩:=K_ (E:=E) (v:=v) (S:=S) (X:=X) (s3:=some (.int p.1,.own)) (s4:=some (.int p.2.1,.own)) (s5:=some (.int p.2.2,.own));refine⟨r,(kQ rfl (fL q rfl)).trans ih,?_⟩;unfold bad;rw[List.filter_cons_of_neg (by rw[e];exact abk)];exact h
theorem abm{C:List Ch}(h1:1<=x)(h2:x<=(C.length:Int)):GS [cI C,.int x,aZ v]=some (mW (bad v (bJ C x))):=by
 obtain⟨r,lp,h⟩:=K_ (v:=v) (S:=cI C) (X:=.int x) (E:=bJ C x) (s3:=none) (s4:=none) (s5:=none);have hi:d7 (kY (jA (aj 0) (e2 i9 (aj 1) (eC (.int 1)))) (eC (.int 2))) [some (cI C,.sh []),some (.int x,.sh []),some (aZ v,.sh []),none,none,none]=some ((bJ C x).map dT,.sh []):=by
  unfold d7;rw[A7 (x:=x) (t:=.sh []) (d:=eL (bJ C x)) rfl rfl h1 h2 rfl];rfl
 refine bY rfl ?_;cases e:bad v (bJ C x) with
 |nil=>
  rw[e] at h;obtain⟨t3,t4,t5,rfl⟩:=h;exact sq (tF hi lp) rfl
 |cons y t=>
  rw[e] at h;cases h;exact fG (Ss hi lp)
theorem YE{ls:List Int}{M O:List (Key×D)}(hl:ls.length<=1000)(h1:y∈ls)(h2:aN M y=true)(h3:∀z∈ls,aN O z=true->¬z<y):JE [iL ls,.tup [.str "leans",.int y],.bf M,.bf O]=some (.bl true):=by
 have t1:lT (tV (e2 iI (e1 eS (aj 1)) (eC (.int 2)))) (lT (tV (e2 (jo true) (e2 c9 (aj 1) (eC (.int 1))) (aj 0))) (tV (e2 (kC true) (e2 c9 (aj 1) (eC (.int 1))) (aj 2)))) [some (iL ls,.sh []),some (.tup [.str "leans",.int y],.sh []),some (.bf M,.sh []),some (.bf O,.sh [])]=some false:=
  (q_ rfl).trans ((q_ ((a_ (aG (aG rfl rfl (nH rfl rfl)) rfl (by unfold iL;rw[uA,if_pos rfl,zP]))).trans (by rw[aaq h1];rfl))).trans ((a_ (aG (aG rfl rfl (nH rfl rfl)) rfl (show kC true (.int y) (.bf M)=some (.bl (!aN M y)) from rfl))).trans (by rw[h2];rfl)))
 have hc:=tR (js:=[none,some 3,some 1]) (it:=d7 (aj 0)) (p:=λz=>aN O z&&decide (z<y)) (tt:=iK (tV (e2 (kC false) (aj 0) (aj 1))) (tV (e2 oLt (aj 0) (e2 c9 (aj 2) (eC (.int 1)))))) (ρ:=[some (iL ls,.sh []),some (.tup [.str "leans",.int y],.sh []),some (.bf M,.sh []),some (.bf O,.sh [])]) (l:=ls) (fZ rfl) (by lia) (λx=>rfl) (λz mz=>sD (a_ (aG rfl rfl rfl)) (a_ (aG rfl (aG rfl rfl (nH rfl rfl)) rfl)));have e:ls.filter (λz=>aN O z&&decide (z<y))=[]:=agj.mpr λz mz q=>by
  obtain⟨q1,q2⟩:=(aaV _ _).mp q;exact h3 z mz q1 (aaC q2)
 rw[e] at hc;exact bY rfl (cK t1 (cC (aG (bA hc rfl) rfl rfl)))
theorem VU(l:List Int):aB (tD l)=true:=by
 unfold tD;simp only[aB,e_]
def Gs(d:D):Prop:=∃s,mU d=some (.str s)
theorem F9(a:Str)(h:Sh 50 0 (.str a))(hy:0<=y/\y<=100):Gs (.tup [.str a,.int y]):=(Sh.tup (w:=50) (k:=0) (n:=2) (λd m=>by
 rcases aaA.mp m with rfl|m
 .exact h
 .rw[aaU.mp m];exact .int hy) (abL _)).repr (by decide) (by decide)
theorem NP:Sh 50 0 (.str "unfit"):=⟨rfl,rfl,abL _,by decide +kernel,by decide +kernel⟩
theorem YG:Sh 50 0 (.str "leans"):=⟨rfl,rfl,abL _,by decide +kernel,by decide +kernel⟩
theorem ady:Gs (.tup [.str "withdrawn"]):=(Sh.tup (w:=50) (k:=0) (n:=1) (λd m=>by rw[aaU.mp m];exact⟨rfl,rfl,abL _,by decide +kernel,by decide +kernel⟩) (abL _)).repr (by decide) (by decide)
theorem LB{w:Str}(h1:Lo l)(h2:Lo l2)(hw:w="yes"\/w="no"\/w="unsure"\/w="more"):Gs (.tup [.str "look",tD l,tD l2,.str w]):=by
 have up:∀{d},Sh 50 0 d->Sh 3060 1 d:=λh=>⟨h.ok,h.sh,adk h.dp (by decide),h.lv,adk h.wt (by decide)⟩
 have sw:∀{d},Sh 10 0 d->Sh 3060 1 d:=λh=>⟨h.ok,h.sh,adk h.dp (by decide),h.lv,adk h.wt (by decide)⟩
 refine(Sh.tup (w:=3060) (k:=1) (n:=4) (λd m=>?_) (abL _)).repr (by decide) (by decide);rcases aaA.mp m with rfl|m
 .exact up ⟨rfl,rfl,abL _,by decide +kernel,by decide +kernel⟩
 .rcases aaA.mp m with rfl|m
  .exact h1.tD
  .rcases aaA.mp m with rfl|m
   .exact h2.tD
   .rw[aaU.mp m];exact sw (Sh.wd hw)
theorem F_(h:Gs d)(h1:f ρ=some (d,t))(h2:f2 ρ=some (d,t2)):e2 oEq (e1 mU f) (e1 mU f2) ρ=some (.bl true,.own):=by
 obtain⟨s,h⟩:=h;exact(aG (bA h1 h) (bA h2 h) rfl).trans (by rw[aen])
theorem xY(h:Gs d)(h1:f ρ=some (d,t))(h2:f2 ρ=some (d,t2)):tV (e2 iI (e1 mU f) (e1 mU f2)) ρ=some false:=by
 obtain⟨s,h⟩:=h;exact a_ (aG (bA h1 h) (bA h2 h) ne_self)
def rG(x:Int)(d:D)(C:List Ch)(ln:List Int)(E:Ew)(s5 s6 s7 s8:Slot):aO:=[some (.int x,.sh []),some (d,.sh []),some (cI C,.sh []),some (iL ln,.sh []),some (gY E,.sh []),s5,s6,s7,s8]
theorem RA:Dv "tuple" (.tup ds)=some (.bl true):=by
 show some (D.bl ("tuple" == "tuple"))=_;rw[aen]
theorem adW{C:List Ch}(gc:GoodC C)(hr:Row C ln)(hv:dz [] (dG C ln)=some v)(h1:1<=x)(h2:x<=(C.length:Int))(hb:bad v (bJ C x)≠[])(hs:∀p∈bJ C x,0<=p.1/\p.1<=100)(hf:lQ C ln x=true):Cv [.int x,.tup [.str "unfit",mW (bad v (bJ C x))],cI C,iL ln,gY E]=some (.bl true):=by
 obtain⟨y,r,ey⟩:=af7 hb;have E6:0<=y/\y<=100:=by
  have my:y∈bad v (bJ C x):=ey ▸ aad;unfold bad at my;obtain⟨p,mp,rfl⟩:=abY.mp my;exact hs p (acO.mp mp).1
 have fu:=abm (v:=v) h1 h2;rw[ey] at fu ⊢;have hl:=gc.few x;rw[<- n9 h1 h2] at hl;have hc:=tR (js:=[none,some 3]) (it:=d7 (kY (jA (aj 2) (e2 i9 (aj 0) (eC (.int 1)))) (eC (.int 1)))) (p:=λz=>!decide (z∈ln)) (tt:=tV (e2 (jo true) (aj 0) (aj 1))) (ρ:=rG x (.tup [.str "unfit",.int y]) C ln E (some (.int y,.own)) none none none) (l:=(ch C x).2.1) (t:=.sh []) (by
  unfold d7;rw[A7 (x:=x) (t:=.sh []) (d:=iL (ch C x).2.1) rfl rfl h1 h2 rfl];rfl) (by lia) (λz=>rfl) (λz mz=>a_ (aG rfl rfl (by unfold iL;rw[uA,if_pos rfl,zP])))
 have e0:(ch C x).2.1.filter (λz=>!decide (z∈ln))=[]:=agj.mpr λz mz q=>by
  rw[n9 h1 h2] at mz;have:=adt.mp hf z mz;rw[this] at q;cases q
 rw[e0] at hc;refine bY rfl (cK ((q_ (kN (b:=true) (a_ (bA rfl RA)))).trans rfl) (fG (f_ ((a_ (aG (aG rfl rfl (nH rfl rfl)) rfl rfl)).trans (by decide +kernel)) (sq (ρ':=rG x (.tup [.str "unfit",.int y]) C ln E (some (.int y,.own)) none none none) ?_ (sq (ρ':=rG x (.tup [.str "unfit",.int y]) C ln E (some (.int y,.own)) (some (iL [],.own)) none none) (by rw[iO,hc];rfl) (cC (qX (b:=true) (t:=.own) rfl (qX (b:=true) (t:=.own) (aG (d2:=iL []) rfl rfl ((eqI [] []).trans (by rw[aaq rfl]))) (F_ (d:=.tup [.str "unfit",.int y]) (t:=.sh []) (F9 _ NP E6) rfl rfl)))))))));have e:=cL (F:=GS) (g:=au (aj 2) (au (aj 0) (au (cP M7 (au (aj 2) (au (aj 3) aE))) aE))) (ρ:=rG x (.tup [.str "unfit",.int y]) C ln E none none none none) (ps:=[(cI C,.sh []),(.int x,.sh []),(aZ v,.own)]) (by rw[aR,aR,aR,cL rfl (LS gc hr hv)];rfl) fu;show dJ 5 (cP GS _) _=_;rw[iO]
 erw [e];rfl
theorem QA{w:Str}(hl:l≠[])(h:gv E l=some w):uc (gY E) (tD l) .az=some (.str w):=by
 have v:aS (kX E) (kL l)=some (.str w):=(sQ (φ:=kL) (ψ:=D.str) (λ_ _=>lU) E).trans (by rw[h];rfl);unfold uc;rw[BH hl];show(if aB ((aS (kX E) (kL l)).getD .az)=true then some ((aS (kX E) (kL l)).getD .az) else none)=_;rw[v];rfl
theorem SO{u:Str}(hw:u="no"\/u="unsure")(ho:Lo ln)(YU:Lo (ln++[x]))(hg:gv E (ln++[x])=some u)(hl:ln=[]\/gv E ln=some ("yes":Str)):Cv [.int x,.tup [.str "look",tD ln,tD (ln++[x]),.str u],cI C,iL ln,gY E]=some (.bl true):=by
 have nl:ln++[x]≠[]:=by simp
 have hW:u="yes"\/u="no"\/u="unsure"\/u="more":=hw.elim (λh=>.inr (.inl h)) λh=>.inr (.inr (.inl h))
 have c8:e2 z5 (e1 uL (aj 3)) (iV (au (aj 0) aE)) (rG x (.tup [.str "look",tD ln,tD (ln++[x]),.str u]) C ln E none none (some (tD ln,.own)) none)=some (tD (ln++[x]),.own):=aG (d2:=.tup [.int x]) (t2:=.sh []) (bA rfl xy) rfl (by
  show(if(aL (ln.map D.int)&&aL [D.int x]&&(!([D.int x]:List D).isEmpty&&decide ((ln.map D.int).length+[D.int x].length<=sizeLine)))=true then some (D.tup (ln.map D.int++[D.int x])) else none)=_;rw[e_,aaq (by rw[List.length_map,ae6];have:=ho.1;show ln.length+1<=_;lia),if_pos (by rfl)];unfold tD;rw[adp];rfl)
 have q8:uW (aj 4) (aj 8) (rG x (.tup [.str "look",tD ln,tD (ln++[x]),.str u]) C ln E none none (some (tD ln,.own)) (some (tD (ln++[x]),.own)))=some (.str u,.sh []):=by
  show(iy ((ln++[x]).map D.int)).bind _=_;rw[se,ac0,show aS (kX E) (kL (ln++[x]))=_ from sQ (φ:=kL) (ψ:=D.str) (λ_ _=>lU) E,hg];rfl
 have Zq:pB false (.str u) (.tup [.str "no",.str "unsure"])=some (.bl true):=by
  rcases hw with rfl|rfl<;>kernel_rfl
 have q9:=F_ (d:=.tup [.str "look",tD ln,tD (ln++[x]),.str u]) (t:=.sh []) (f:=aj 1) (ρ:=rG x (.tup [.str "look",tD ln,tD (ln++[x]),.str u]) C ln E none none (some (tD ln,.own)) (some (tD (ln++[x]),.own))) (f2:=iV (au (eC (.str "look")) (au (aj 7) (au (aj 8) (au (uW (aj 4) (aj 8)) aE))))) (LB ho YU hW) rfl (by rw[l7,aR,aR,aR,aR,q8];rfl);have ZK:e2 (pB false) (e3 uc (aj 4) (aj 8) (eC .az)) (iV (au (eC (.str "no")) (au (eC (.str "unsure")) aE))) (rG x (.tup [.str "look",tD ln,tD (ln++[x]),.str u]) C ln E none none (some (tD ln,.own)) (some (tD (ln++[x]),.own)))=some (.bl true,.own):=aG (d1:=.str u) (t1:=.own) (by rw[uX];show(uc (gY E) (tD (ln++[x])) .az).map _=_;rw[QA nl hg];rfl) rfl Zq;have q11:=xY (d:=tD ln) (t:=.sh [7]) (t2:=.own) (f:=aj 7) (f2:=e1 uL (aj 3)) (ρ:=rG x (.tup [.str "look",tD ln,tD (ln++[x]),.str u]) C ln E none none (some (tD ln,.own)) (some (tD (ln++[x]),.own))) (ho.tD.repr (by decide) (by decide) (by unfold tD dep;omega)) rfl (bA rfl xy);refine bY rfl (cK ((q_ (kN (b:=true) (a_ (bA rfl RA)))).trans rfl) (cK ((a_ (aG (aG rfl rfl (nH rfl rfl)) rfl rfl)).trans (by decide +kernel)) (cK rfl (sq (ρ':=rG x (.tup [.str "look",tD ln,tD (ln++[x]),.str u]) C ln E none none (some (tD ln,.own)) none) (by rw[iO,aG rfl rfl (nH rfl (VU _))];rfl) (sq (ρ':=rG x (.tup [.str "look",tD ln,tD (ln++[x]),.str u]) C ln E none none (some (tD ln,.own)) (some (tD (ln++[x]),.own))) (by rw[iO,c8];rfl) (cK ((q_ q11).trans ?_) (cC (qX ZK q9))))))));have t1:tV (e2 qt (e1 eS (aj 3)) (eC (.int 0))) (rG x (.tup [.str "look",tD ln,tD (ln++[x]),.str u]) C ln E none none (some (tD ln,.own)) (some (tD (ln++[x]),.own)))=some (decide ((0:Int)<ln.length)):=a_ (aG (bA rfl BQ) rfl rfl)
 by_cases z:ln=[]
 .subst z;exact A6 t1
 .have:0<ln.length:=List.length_pos_iff.mpr z;rw[aaq (by lia)] at t1;refine(qN t1).trans (a_ (aG (d1:=.str "yes") (t1:=.own) (by rw[uX];show(uc (gY E) (tD ln) .az).map _=_;rw[QA z (hl.resolve_left z)];rfl) rfl (by kernel_rfl)))
def gk(gr:List (Key×D))(x:Int):D:=(aS gr (Sum.inl x:Key)).getD .az
def sk(gr:List (Key×D)):List Int:=b7 (kG gr)
def od(gr:List (Key×D)):List (Key×D):=(sk gr).map λx=>(Sum.inl x,gk gr x)
theorem Nn(f:Int->D)(x:Int):∀l:List Int,aS (l.map λx=>((Sum.inl x:Key),f x)) (Sum.inl x)=if x∈l then some (f x) else none
 |[]=>rfl
 |a::l=>by
  have ih:=Nn f x l;unfold aS at ih ⊢;rw[aao,adA]
  by_cases h:a=x
  .subst h;rw[show decide (((Sum.inl a:Key),f a).1=Sum.inl a)=true from aaq rfl,if_pos aad];rfl
  .rw[show decide (((Sum.inl a:Key),f a).1=Sum.inl x)=false from ab8 λe=>h (agx e)];dsimp only;rw[ih]
   by_cases m:x∈l
   .rw[if_pos m,if_pos (aab _ m)]
   .rw[if_neg m,if_neg λq=>(aaA.mp q).elim (λe=>h e.symm) m]
theorem Gr.rJ{gr:List (Key×D)}(k:Gr n gr):x∈sk gr↔aN gr x=true:=rm.trans k.mem
theorem Gr.QL{gr:List (Key×D)}(k:Gr n gr):(sk gr).Nodup:=(qI _).nodup_iff.mpr k.nK
theorem Gr.at_{gr:List (Key×D)}(k:Gr n gr)(h:aN gr x=true):aS gr (Sum.inl x)=some (gk gr x)/\aB (gk gr x)=true/\(Sum.inl x,gk gr x)∈gr:=by
 unfold aN at h;obtain⟨v,hv⟩:=agd.mp h;have e:gk gr x=v:=by unfold gk;rw[hv];rfl
 rw[e];have m:(Sum.inl x,v)∈gr:=XD hv;exact⟨hv,qT.mp k.im v (abY.mpr ⟨_,m,rfl⟩),m⟩
theorem Gr.D6{gr:List (Key×D)}(k:Gr n gr)(x:Int):aS (od gr) (Sum.inl x)=aS gr (Sum.inl x):=by
 unfold od;rw[Nn]
 by_cases h:aN gr x=true
 .rw[if_pos (k.rJ.mpr h),(k.at_ h).1]
 .rw[if_neg λq=>h (k.rJ.mp q)];unfold aN at h;cases e:aS gr (Sum.inl x:Key) with
  |none=>rfl
  |some v=>rw[e] at h;exact absurd rfl h
theorem Gr.Ak{gr:List (Key×D)}(k:Gr n gr)(x:Int):aN (od gr) x=aN gr x:=by unfold aN;rw[k.D6]
theorem La{gr:List (Key×D)}(k:Gr n gr):∀l:List Int,(∀x∈l,aN gr x=true)->iU (l.map (outD gr))=some (l.map λx=>((Sum.inl x:Key),gk gr x))
 |[],_=>rfl
 |x::l,h=>by
  rw[aao];show(match iu (.int x),iU (l.map (outD gr)) with|some k,some ps=>if aB (gk gr x)=true then some ((k,gk gr x)::ps) else none|_,_=>none)=_;rw[La k l λy m=>h y (aab _ m)];show(if aB (gk gr x)=true then some (((Sum.inl x:Key),gk gr x)::_) else none)=_;rw[if_pos (k.at_ (h x aad)).2.1];rfl
theorem Nl:∀(l:List Int) (f:Int->D) (m:List (Key×D)),l.Nodup->(∀x∈l,aN m x=false)->(l.map λx=>((Sum.inl x:Key),f x)).foldl (λm p=>putD m p.1 p.2) m=m++l.map λx=>((Sum.inl x:Key),f x)
 |[],f,m,_,_=>(acG m).symm
 |x::l,f,m,nd,h=>by
  obtain⟨n1,n2⟩:=ab4.mp nd;rw[aao,afa];show(l.map λx=>((Sum.inl x:Key),f x)).foldl (λm p=>putD m p.1 p.2) (putD m (Sum.inl x) (f x))=_;rw[Nl l f _ n2 λy my=>by rw[kT,h y (aab _ my),ab8 (show ¬y=x from λe=>n1 (e ▸ my))];rfl,ze (h x aad),afB];rfl
theorem KP{gr:List (Key×D)}(k:Gr n gr):xq (.lst ((b7 (kG gr)).map (outD gr)))=some (.bf (od gr)):=by
 show(iU ((sk gr).map (outD gr))).map _=_;rw[La k (sk gr) λx m=>k.rJ.mp m];show some (D.bf (((sk gr).map λx=>((Sum.inl x:Key),gk gr x)).foldl (λm p=>putD m p.1 p.2) []))=_;rw[Nl _ _ _ k.QL λx m=>rfl];rfl
theorem SR{a b:List (Key×D)}(h:a <+: b)(e:aS a k=some d):aS b k=some d:=by
 obtain⟨r,rfl⟩:=h;unfold aS at e ⊢;rw[ag6];obtain⟨p,hp,rfl⟩:=ach.mp e;rw[hp];rfl
theorem abE(gr:List (Key×D)):ig (od gr)=some (sk gr):=by
 unfold od;generalize sk gr=l
 induction l with
 |nil=>rfl
 |cons x l ih=>
  rw[aao];show(ig _).map _=_;rw[ih];rfl
theorem QF:∀{gr:List (Key×D)} {k a b},(gr.map (·.1)).Nodup->(k,a)∈gr->(k,b)∈gr->a=b
 |[],_,_,_,_,h,_=>nomatch h
 |p::r,k,a,b,nd,h1,h2=>by
  obtain⟨n1,n2⟩:=ab4.mp nd;have no:∀c,p=(k,a)\/p=(k,b)->(k,c)∈r->False:=λc e m=>n1 (by
   rcases e with rfl|rfl<;>exact abY.mpr ⟨_,m,rfl⟩)
  rcases aaA.mp h1 with e1|m1
  .rcases aaA.mp h2 with e2|m2
   .exact(agZ .. ▸ (e1.trans e2.symm)).2
   .exact(no b (.inl e1.symm) m2).elim
  .rcases aaA.mp h2 with e2|m2
   .exact(no a (.inr e2.symm) m1).elim
   .exact QF n2 m1 m2
theorem Gr.one{gr:List (Key×D)}(k:Gr n gr)(h:(Sum.inl x,d)∈gr):aN gr x=true/\gk gr x=d:=by
 have i:aN gr x=true:=k.mem.mp (by
  have m:(Sum.inl x:Key)∈gr.map (·.1):=abY.mpr ⟨_,h,rfl⟩;rw[(qP k.ks).1] at m;obtain⟨y,my,q⟩:=abY.mp m;exact agx q ▸ my)
 refine⟨i,?_⟩;exact QF k.nd (k.at_ i).2.2 h
structure yt(g:G)(E:Ew):Prop where
 at_:∀l,l≠[]->gv E l=if wd g l="more" then none else some (wd g l)
 ly:g.ln=[]\/wd g g.ln="yes"
def rO(g:G)(O:List (Key×D))(E:Ew)(tk:Int)(s7 s8:Slot):aO:=[some (gD g,.sh []),some (cI g.C,.sh []),some (.bf O,.sh []),some (gY E,.sh []),some (.int tk,.sh []),some (iL g.ln,.own),some (.bf (od g.gr),.own),s7,s8]
theorem JG{C:List Ch}(h1:1<=x)(h2:x<=(C.length:Int)):ch C x∈C:=adU (A1 h1 h2)
theorem Y3{g g':G}(i:Gi k g')(en:yt g' E)(sc:∀c∈g'.C,Cs c)(kg:Gr g'.C.length g.gr)(hx:aN g'.gr x=true)(h:Nw { g' with gr:=g.gr } g'.gr (Sum.inl x,d)):Gs d/\((∃y,d=.tup [.str "leans",.int y])/\JE [iL (ch g'.C x).2.1,d,.bf (od g'.gr),.bf (od g.gr)]=some (.bl true)\/(c9 d (.int 0)=some (.str "unfit")\/c9 d (.int 0)=some (.str "look"))/\Cv [.int x,d,cI g'.C,iL g'.ln,gY E]=some (.bl true)):=by
 have v:=i.gd;have gl:=v.gc.ln;have xr:=eO.mp (v.gr.bd hx);have h1:1<=x:=xr.1;have h2:x<=(g'.C.length:Int):=by lia
 have c:=sc _ (JG h1 h2);have el:=n9 h1 h2;cases h with
 |look _ b=>
  have b:bw (wd g' (g'.ln++[x]))=true:=b;have hw:wd g' (g'.ln++[x])="no"\/wd g' (g'.ln++[x])="unsure":=by
   unfold bw at b;simp only[afV,List.any_nil,Bool.or_false,ag4,agF] at b;exact b.imp Eq.symm Eq.symm
  have lo:=v.lo (ags g'.ln g'.ld);have nx:x∉g'.ln:=λm=>by
   have:=v.jc x (abj _ m);rw[show fW g' x=true from hx] at this;cases this
  have N5:Lo (g'.ln++[x]):=by
   refine⟨?_,λy m=>?_⟩
   .have:=sub_len (l:=g'.ln++[x]) (m:=bK 1 g'.C.length) (acR.mpr ⟨(acR.mp v.nd).1,by simp,λa ma b mb e=>nx (by rw[<- aaU.mp mb,<- e];exact ma)⟩) λy m=>by
     rcases abl.mp m with m|m
     .have:=v.row y (abj _ m);exact eO.mpr (by lia)
     .rw[aaU.mp m];exact eO.mpr xr
    rw[jr] at this
    lia
   .rcases abl.mp m with m|m
    .exact lo.2 y m
    .rw[aaU.mp m];lia
  have ne:g'.ln++[x]≠[]:=by simp
  have hg:gv E (g'.ln++[x])=some (wd g' (g'.ln++[x])):=(en.at_ _ ne).trans (if_neg λe=>by rcases hw with q|q<;>rw[q] at e<;>exact absurd e (by decide +kernel));refine⟨LB lo N5 (hw.elim (λq=>.inr (.inl q)) λq=>.inr (.inr (.inl q))),.inr ⟨.inr (nH rfl rfl),SO hw lo N5 hg ?_⟩⟩
  by_cases z:g'.ln=[]
  .exact .inl z
  .exact .inr ((en.at_ _ z).trans (by rw[en.ly.resolve_left z];exact if_neg (by decide +kernel)))
 |qL _ y r u a b e=>
  have e:(lean (sec g'.C) x).filter (aN u)=y::r:=e;have my:=acO.mp (e ▸ aad:y∈(lean (sec g'.C) x).filter (aN u));have yb:=v.gc.bd x y h1 h2 my.1;refine⟨F9 _ YG (by lia),.inl ⟨⟨y,rfl⟩,YE (by rw[el];have:=v.gc.few x;lia) (el ▸ my.1) ((v.gr.Ak y).trans (b y my.2)) λz mz iz lt=>?_⟩⟩;have OG:z∈(lean (sec g'.C) x).filter (aN u):=acO.mpr ⟨el ▸ mz,a z ((kg.Ak z).symm.trans iz)⟩;have so:((lean (sec g'.C) x).filter (aN u)).Pairwise (· < ·):=(el ▸ c.inc).sublist afq;rw[e] at OG so;rcases aaA.mp OG with q|q
  .lia
  .have:=(adS.mp so).1 z q;lia
 |qF _ w hr hb hf=>
  have sl:∀p∈bJ g'.C x,0<=p.1/\p.1<=100:=λp m=>by have:=(c.ed.ok p m).s;lia
  obtain⟨y,r,ey⟩:=af7 hb;have E6:0<=y/\y<=100:=by
   have my:y∈bad w (bJ g'.C x):=ey ▸ aad;unfold bad at my;obtain⟨p,mp,rfl⟩:=abY.mp my;exact sl p (acO.mp mp).1
  refine⟨?_,.inr ⟨.inl (nH rfl rfl),adW v.gc (λz m=>v.row z (abj _ m)) hr h1 h2 hb sl hf⟩⟩;show Gs (.tup [.str "unfit",mW (bad w (bJ g'.C x))]);rw[ey];exact F9 _ NP E6
theorem Yy{g g':G}{tk:Int}(i:Gi k g')(en:yt g' E)(sc:∀c∈g'.C,Cs c)(kg:Gr g'.C.length g.gr)(de:De g g' tk)(gs:∀p∈g.gr,Gs p.2):N9 [gD g',cI g'.C,.bf (od g.gr),gY E,.int tk]=some (.bl true)/\∀p∈g'.gr,Gs p.2:=by
 have v:=i.gd;have lK:=v.gr;have gl:=v.gc.ln;have og:∀s5 s6 s7 s8,bP "Gate" "outs" rQ (aj 0) aE [some (gD g',.sh []),some (cI g'.C,.sh []),some (.bf (od g.gr),.sh []),some (gY E,.sh []),some (.int tk,.sh []),s5,s6,s7,s8]=some (.lst ((sk g'.gr).map (outD g'.gr)),.own):=λ_ _ _ _=>eK rfl (EK v)
 have each:∀x,aN g'.gr x=true->aN g.gr x=false->Gs (gk g'.gr x)/\(x=tk/\gk g'.gr x=.tup [.str "withdrawn"]\/x≠tk/\((∃y,gk g'.gr x=.tup [.str "leans",.int y])/\JE [iL (ch g'.C x).2.1,gk g'.gr x,.bf (od g'.gr),.bf (od g.gr)]=some (.bl true)\/(c9 (gk g'.gr x) (.int 0)=some (.str "unfit")\/c9 (gk g'.gr x) (.int 0)=some (.str "look"))/\Cv [.int x,gk g'.gr x,cI g'.C,iL g'.ln,gY E]=some (.bl true))):=λx hx no=>by
  have m:=(lK.at_ hx).2.2;have x1:=(eO.mp (lK.bd hx)).1
  by_cases e:x=tk
  .subst e;have mw:=(de.tk.resolve_left (by lia)).2.2;have q:=(lK.one mw).2;exact⟨q ▸ ady,.inl ⟨rfl,q⟩⟩
  .rcases de.nw _ m with q|q|q
   .have:=(kg.one q).1;rw[no] at this;cases this
   .exact absurd (agx (Prod.mk.inj q.2).1) e
   .obtain⟨a,b⟩:=Y3 i en sc kg hx q;exact⟨a,.inr ⟨e,b⟩⟩
 have old:∀x,aN g.gr x=true->aN g'.gr x=true/\gk g'.gr x=gk g.gr x:=λx hx=>by
  have q:=SR de.pf (kg.at_ hx).1;refine⟨by unfold aN;rw[q];rfl,?_⟩;unfold gk at q ⊢;rw[q];rfl
 have Yq:∀x,aN g'.gr x=true->Gs (gk g'.gr x):=λx hx=>by
  cases h:aN g.gr x with
  |false=>exact(each x hx h).1
  |true=>rw[(old x h).2];exact gs _ (kg.at_ h).2.2
 refine⟨?_,λp m=>?_⟩
 .have e:∃d,N9 [gD g',cI g'.C,.bf (od g.gr),gY E,.int tk]=some d/\d=.bl true:=by
   refine qf rfl (eZ (eK rfl yW) (eZ (bA (og _ _ _ _) (KP lK)) (fS (rO g' (od g.gr) E tk none none) ?_)));have l0:=kg.len;have l1:(sk g.gr).length<=60:=by
    have:=congrArg List.length (qP kg.ks).1;exists 64;unfold sk;rw[qA,<- this];lia
   have hi:d7 (e1 i7 (aj 2)) (rO g' (od g.gr) E tk none none)=some ((b7 (sk g.gr)).map D.int,.own):=fZ (bA (t:=.sh []) rfl (by
    show(match ig (od g.gr) with|some ns=>if ns.length<64 then some (D.lst ((b7 ns).map D.int)) else none|none=>none)=_;rw[abE];dsimp only;rw[if_pos (by lia)]))
   refine E9 (λ_ ρ=>∃s7,ρ=rO g' (od g.gr) E tk s7 none) (λ_=>False) hi (.inl rfl) ⟨_,rfl⟩ (λj ρ d hd ⟨s7,e⟩=>?_) (λρ ⟨s7,e⟩=>?_) λx q=>q.elim
   .subst e;rw[acn] at hd;obtain⟨x,hx,rfl⟩:=ach.mp hd;have ix:=kg.rJ.mp (rm.mp (adU hx));obtain⟨ix',eg⟩:=old x ix;refine⟨rO g' (od g.gr) E tk (some (.int x,.sh [])) none,rfl,.nx (rO g' (od g.gr) E tk (some (.int x,.sh [])) none),fL (xY (d:=gk g.gr x) (t:=.own) (t2:=.own) (gs _ (kg.at_ ix).2.2) ?_ (aG rfl rfl ?_)) rfl,.inl ⟨_,rfl,_,rfl⟩⟩
    .rw[uX];show(match aS (od g'.gr) (Sum.inl x:Key) with|some d=>if aB d=true then some d else none|none=>if aB .az=true then some .az else none).map _=_;rw[lK.D6,(lK.at_ ix').1,eg];show(if aB (gk g.gr x)=true then some (gk g.gr x) else none).map _=_;rw[if_pos (kg.at_ ix).2.1];rfl
    .show(aS (od g.gr) (Sum.inl x:Key)).bind _=_;rw[kg.D6,(kg.at_ ix).1,ac0,if_pos (kg.at_ ix).2.1]
   subst e;refine E9 (λ_ ρ=>∃s7 s8,ρ=rO g' (od g.gr) E tk s7 s8) (λ_=>False) (fZ (og _ _ _ _)) (.inl rfl) ⟨_,_,rfl⟩ (λj ρ d hd ⟨s7,s8,e⟩=>?_) (λρ ⟨s7,s8,e⟩=>?_) λx q=>q.elim
   .subst e;rw[acn] at hd;obtain⟨x,hx,rfl⟩:=ach.mp hd;have ix:=lK.rJ.mp (adU hx);have x1:=eO.mp (lK.bd ix);have h1:1<=x:=x1.1;have h2:x<=(g'.C.length:Int):=by lia
    refine⟨rO g' (od g.gr) E tk (some (.int x,.own)) (some (gk g'.gr x,.own)),?_,?_⟩
    .show(if aB (.int x)=true then(gN 7 (.int x) .own (rO g' (od g.gr) E tk s7 s8)).bind λρ'=>cR (gN 8) jB [gk g'.gr x] ρ' else none)=_;refine(if_pos (show aB (.int x)=true from rfl)).trans ?_;show(if aB (gk g'.gr x)=true then(gN 8 (gk g'.gr x) .own (rO g' (od g.gr) E tk (some (.int x,.own)) s8)).bind λρ'=>jB [] ρ' else none)=_;exact(if_pos (lK.at_ ix).2.1).trans rfl
    have cn:tV (e2 (kC true) (aj 7) (aj 2)) (rO g' (od g.gr) E tk (some (.int x,.own)) (some (gk g'.gr x,.own)))=some (!aN g.gr x):=a_ (aG rfl rfl (by show some (D.bl (!aN (od g.gr) x))=_;rw[kg.Ak]));have fin:∀{f:SF},f (rO g' (od g.gr) E tk (some (.int x,.own)) (some (gk g'.gr x,.own)))=some (.nx (rO g' (od g.gr) E tk (some (.int x,.own)) (some (gk g'.gr x,.own))))->Wq (λr=>(∃aY,r=.nx aY/\∃s7 s8,aY=rO g' (od g.gr) E tk s7 s8)\/∃x,r=.rt x/\False) (f (rO g' (od g.gr) E tk (some (.int x,.own)) (some (gk g'.gr x,.own)))):=λh=>⟨_,h,.inl ⟨_,rfl,_,_,rfl⟩⟩
    refine fin ?_;cases no:aN g.gr x with
    |true=>
     rw[no] at cn;exact fL (A6 cn) (fL (A6 cn) (fL (A6 cn) rfl))
    |false=>
     rw[no] at cn;obtain⟨gx,h|⟨ne,h⟩⟩:=each x ix no
     .refine f_ ((qN cn).trans (a_ (aG (d:=.bl (x==tk)) rfl rfl rfl) |>.trans (by rw[h.1,aen]))) (fL (xY (d:=gk g'.gr x) (t:=.sh [8]) gx rfl (by rw[h.2];rfl)) rfl)
     .have c1:=(qN (tg:=tV (e2 oEq (aj 7) (aj 4))) cn).trans (a_ (aG (d:=.bl (x==tk)) rfl rfl rfl) |>.trans (by rw[show(x==tk)=false from adz.mpr ne]));refine fL c1 ?_;rcases h with⟨⟨y,ey⟩,hl⟩|⟨hu,hg⟩
      .refine f_ ((qN cn).trans ((a_ (aG (aG rfl rfl (by rw[ey];exact nH rfl rfl)) rfl rfl)).trans (by decide +kernel))) (fL (kN (b:=true) (a_ (cL (ps:=[(iL (ch g'.C x).2.1,.sh []),(gk g'.gr x,.sh [8]),(.bf (od g'.gr),.sh [6]),(.bf (od g.gr),.sh [])]) (by
        rw[aR,aR,aR,aR,A7 (x:=x) (t:=.sh [7]) (d:=iL (ch g'.C x).2.1) rfl rfl h1 h2 rfl];rfl) hl))) rfl)
      .refine fL ((qN cn).trans ?_) (fL ((qN cn).trans (kN (b:=true) (a_ (cL (ps:=[(.int x,.sh [7]),(gk g'.gr x,.sh [8]),(cI g'.C,.sh []),(iL g'.ln,.sh [5]),(gY E,.sh [])]) rfl hg)))) rfl);rcases hu with q|q
       .exact(a_ (aG (aG rfl rfl q) rfl rfl)).trans (by decide +kernel)
       .exact(a_ (aG (aG rfl rfl q) rfl rfl)).trans (by decide +kernel)
   subst e;refine⟨.rt (.bl true),cC ?_,_,rfl,rfl⟩;unfold GZ
   by_cases z:tk=0
   .rw[show e2 oEq (aj 4) (eC (.int 0)) (rO g' (od g.gr) E tk s7 s8)=some (.bl true,.own) from aG (d:=.bl (tk==0)) rfl rfl rfl |>.trans (by rw[z];rfl)]
   .rw[show e2 oEq (aj 4) (eC (.int 0)) (rO g' (od g.gr) E tk s7 s8)=some (.bl false,.own) from aG (d:=.bl (tk==0)) rfl rfl rfl |>.trans (by rw[show(tk==0)=false from adz.mpr z])];exact aG rfl rfl (by show some (D.bl (aN (od g'.gr) tk))=_;rw[lK.Ak,(de.tk.resolve_left z).1])
  obtain⟨_,e,rfl⟩:=e;exact e
 .obtain⟨y,e,_⟩:=lK.ks p.1 (abY.mpr ⟨p,m,rfl⟩);have m':(Sum.inl y,p.2)∈g'.gr:=by rw[<- e];exact m
  obtain⟨a,b⟩:=lK.one m';exact b ▸ Yq y a
theorem Yb(h:l.Perm (bK 1 n)):b7 l=bK 1 n:=(IV h.symm ((x6 1 n).imp λh=>by lia)).symm
theorem O9{l:List Int}(h:l.Pairwise (· < ·)):b7 l=l:=(IV (List.Perm.refl l) (h.imp λh=>by lia)).symm
theorem ZE(i:Gi k g):(g.ln++g.ld++wl g++sk g.gr).Perm (bK 1 g.C.length):=by
 have v:=i.gd;have nd:(g.ln++g.ld++wl g++sk g.gr).Nodup:=by
  refine acR.mpr ⟨acR.mpr ⟨v.nd,AL,λa ma b mb e=>?_⟩,v.gr.QL,λa ma b mb e=>?_⟩
  .have:=gO.mp mb;exact(abl.mp ma).elim (λm=>this.2.1 (e ▸ m)) λm=>this.2.2.1 (e ▸ m)
  .have h:=v.gr.rJ.mp mb;rcases abl.mp ma with m|m
   .have:=v.jc a m;rw[e,show fW g b=true from h] at this;cases this
   .have:=(gO.mp m).2.2.2;rw[e,show fW g b=true from h] at this;cases this
 refine(List.perm_ext_iff_of_nodup nd HX).mpr λx=>?_
 simp only[abl];constructor
 .rintro(((m|m)|m)|m)
  .have:=v.row x (abj _ m);exact eO.mpr (by lia)
  .have:=v.row x (aas _ m);exact eO.mpr (by lia)
  .exact IJ m
  .exact v.gr.bd (v.gr.rJ.mp m)
 .intro m;have r:=eO.mp m
  by_cases h1:x∈g.ln
  .exact .inl (.inl (.inl h1))
  .by_cases h2:x∈g.ld
   .exact .inl (.inl (.inr h2))
   .cases h3:fW g x with
    |true=>exact .inr (v.gr.rJ.mpr h3)
    |false=>exact .inl (.inr (gO.mpr ⟨by lia,h1,h2,h3⟩))
theorem acs{l:List Int}(h:∀x∈l,0<=x/\x<=100)(hl:l.length<=100):Gs (iL l):=(Sh.lst (w:=50) (k:=0) (n:=100) (λd m=>by
 exists 52;exact .int (h x mx)) (by rw[List.length_map];exact hl)).repr (by decide) (by decide)
theorem Gp{l:List Int}(hl:l.length<64):i7 (iL l)=some (iL (b7 l)):=by
 show(match eN (l.map D.int) with|some ns=>if ns.length<64 then some (D.lst ((b7 ns).map D.int)) else none|none=>none)=_;rw[uv];dsimp only;rw[if_pos hl];rfl
theorem abi{es:gK}{o:List Nat}(hl:es.length<64)(hs:it ρ=some ((b7 (es.map (·.1))).map D.int,.own))(hj:∀i,gN 0 (.int i) (.sh []) (ja js ρ)=some [some (.int i,.sh []),some (aZ es,.sh o)])(ht:∀i w,bN es i=some w->tt [some (.int i,.sh []),some (aZ es,.sh o)]=some (!(w==0))):gR js it (gN 0) tt (iV (au (aj 0) (au (e2 jL (aj 1) (aj 0)) aE))) ρ=some (dS (nz es),.own):=by
 have hc:=ji (js:=js) (g:=gN 0) (tt:=tt) (te:=iV (au (aj 0) (au (e2 jL (aj 1) (aj 0)) aE))) (k:=kS es) (ρ:=ρ) hs (by rw[List.length_map,qA,List.length_map];exact A2 (by omega)) (λd m=>by
  obtain⟨i,mi,rfl⟩:=abY.mp m;obtain⟨w,hw⟩:=qG.mpr (rm.mp mi);have hg:=JR hw;show _=some (if(!((bN es i).getD 0==0))=true then some (dP (i,(bN es i).getD 0)) else none);have ht:=ht i w hw
  by_cases h:(!((bN es i).getD 0==0))=true
  .rw[if_pos h];refine ur (tg:=.sh []) (hj i) (by rw[ht];rw[hw] at h;exact congrArg some h) ?_ rfl;rw[l7,aR,aR,jN];show Option.map _ (ko _ (ko ((jL (aZ es) (.int i)).map _) _))=_;rw[hg,hw];rfl
  .rw[if_neg h];exact wC (hj i) (by rw[ht];rw[hw] at h;exact congrArg some (af9.mpr h)))
 refine hc.trans ?_;unfold dS nz o7
 congr 3
 generalize b7 (es.map (·.1))=l;clear hs hc
 induction l with
 |nil=>rfl
 |cons x r ih=>
  rw[aao,aeD,agA]
  by_cases h:(!((bN es x).getD 0==0))=true
  .rw[if_pos h,show kS es (.int x)=some (dP (x,(bN es x).getD 0)) from if_pos h];dsimp only;rw[ih];rfl
  .rw[if_neg h,show kS es (.int x)=none from if_neg h];exact ih
theorem O6{C:List Ch}(gc:GoodC C)(sc:∀c∈C,Cs c):∀{l:List Int}{u v:gK},Row C l->(∀k,0<=gV u k/\gV u k<=4)->dz u (dG C l)=some v->∀k,0<=gV v k/\gV v k<=4
 |[],u,v,_,h,e=>by cases e;exact h
 |x::l,u,v,hr,h,e=>by
  have e:(if bad u (bJ C x)=[] then dz (cX u (bJ C x)) (dG C l) else none)=some v:=e
  by_cases hb:bad u (bJ C x)=[]
  .rw[if_pos hb] at e;obtain⟨h1,h2⟩:=hr x aad;have eg:=(sc _ (JG h1 h2)).ed;refine O6 gc sc (λy m=>hr y (aab _ m)) (λk=>?_) e;obtain⟨g1,g2⟩:=xV (bJ C x) u k (gc.ed x).nd;unfold gV
   by_cases mj:k∈(bJ C x).map (·.1)
   .obtain⟨p,mp,rfl⟩:=abY.mp mj;rw[g1 p mp rfl];exact(eg.ok p mp).n
   .rw[g2 mj];exact h k
  .rw[if_neg hb] at e;cases e
def rT(g:G)(l:D)(s3:Slot):aO:=[some (gD g,.sh []),some (cI g.C,.sh []),some (l,.own),s3]
theorem WQ(i:Gi k g)(sc:∀c∈g.C,Cs c):Ny [gD g,cI g.C]=some (.bl true):=by
 have v:=i.gd;have gl:=v.gc.ln;have ll:=v.len;have wn:=xK (g:=g);have pm:=ZE i;have pl:=pm.length_eq;rw[jr] at pl;have ol:(sk g.gr).length<=60:=by
  have:=pl;rw[abD] at this
  lia
 have Il:∀{ρ:aO},bP "Gate" "outs" rQ (aj 0) aE ρ=some (.lst ((sk g.gr).map (outD g.gr)),.own)->gR [none] (d7 (bP "Gate" "outs" rQ (aj 0) aE)) (gN 0) k7 (e2 c9 (aj 0) (eC (.int 0))) ρ=some (iL (sk g.gr),.own):=λ{ρ} h=>by
  have hc:=ji (js:=[none]) (g:=gN 0) (tt:=k7) (te:=e2 c9 (aj 0) (eC (.int 0))) (ρ:=ρ) (k:=λd=>match d with | .tup (.int x::_)=>some (.int x) | _=>none) (fZ h) (by rw[List.length_map];exact size_le (by lia)) (λd m=>by
   exists 52;exact mX rfl rfl (aG rfl rfl (nH rfl rfl)))
  rw[afc,show((sk g.gr).filterMap ((λd=>match d with|D.tup (D.int x::_)=>some (D.int x)|_=>none) ∘ outD g.gr))=(sk g.gr).map D.int from l6 D.int _] at hc;exact hc
 have og:∀s2 s3,bP "Gate" "outs" rQ (aj 0) aE [some (gD g,.sh []),some (cI g.C,.sh []),s2,s3]=some (.lst ((sk g.gr).map (outD g.gr)),.own):=λ_ _=>eK rfl (EK v)
 have e:∃d,Ny [gD g,cI g.C]=some d/\d=.bl true:=by
  refine qf rfl (eZ (aG (aG (aG (eK rfl yW) (eK rfl Jp) (qe (by rw[ae6];lia))) (eK rfl (qy (by lia))) (qe (by rw[ae6,abD];lia))) (Il (og _ _)) (qe (by rw[ae6,abD,abD];lia))) (fS (rT g (iL (g.ln++g.ld++wl g++sk g.gr)) none) ?_));have hr:gR [none] (wg (e1 eS (aj 1))) (gN 0) k7 (e2 gI (aj 0) (eC (.int 1))) (rT g (iL (g.ln++g.ld++wl g++sk g.gr)) none)=some (iL (bK 1 g.C.length),.own):=by
   have hc:=ji (js:=[none]) (g:=gN 0) (tt:=k7) (te:=e2 gI (aj 0) (eC (.int 1))) (k:=λd=>match d with | .int x=>some (.int (x + 1)) | _=>none) (ID (e:=e1 eS (aj 1)) (ρ:=rT g (iL (g.ln++g.ld++wl g++sk g.gr)) none) (n:=g.C.length) (bA rfl (by unfold cI;rw[vo,List.length_map])) (by lia)) (by rw[List.length_map,jr];exact size_le (by lia)) (λd m=>by
    exists 52;exact mX rfl rfl (aG rfl rfl lJ))
   rw[afc,show(bK 0 g.C.length).filterMap ((λd=>match d with|D.int x=>some (D.int (x+1))|_=>none) ∘ D.int)=(bK 0 g.C.length).map (λx=>D.int (x+1)) from l6 (λx=>D.int (x+1)) _] at hc;have el:(bK 0 g.C.length).map (λx=>D.int (x+1))=(bK 1 g.C.length).map D.int:=by
    unfold bK;rw[ade,ade];exact afX λj _=>congrArg D.int (by show(0:Int)+(j:Int)+1=1+(j:Int);lia)
   rw[el] at hc;exact hc
  have q1:=xY (d:=iL (bK 1 g.C.length)) (t:=.own) (t2:=.own) (f:=e1 i7 (aj 2)) (acs (λx m=>by have:=eO.mp m;lia) (by rw[jr];lia)) (bA rfl ((Gp (by rw[pl];lia)).trans (by rw[Yb pm]))) hr;have q2:tV (e2 lB (bP "Gate" "waiting" rV (aj 0) aE) (e1 i7 (bP "Gate" "waiting" rV (aj 0) aE))) (rT g (iL (g.ln++g.ld++wl g++sk g.gr)) none)=some false:=a_ (aG (d2:=iL (wl g)) (eK rfl (qy (by lia))) (bA (eK rfl (qy (by lia))) ((Gp (by lia)).trans (by rw[O9 wB]))) ((AH _ _).trans (by rw[aaq rfl];rfl)));have q3:tV (e2 lB (gR [none] (d7 (bP "Gate" "outs" rQ (aj 0) aE)) (gN 0) k7 (e2 c9 (aj 0) (eC (.int 0)))) (e1 i7 (gR [none] (d7 (bP "Gate" "outs" rQ (aj 0) aE)) (gN 0) k7 (e2 c9 (aj 0) (eC (.int 0)))))) (rT g (iL (g.ln++g.ld++wl g++sk g.gr)) none)=some false:=a_ (aG (d2:=iL (sk g.gr)) (Il (og _ _)) (bA (Il (og _ _)) ((Gp (by lia)).trans (by show some (iL (b7 (sk g.gr)))=_;rw[O9 (l:=sk g.gr) (Rk v.gr.nK)]))) ((AH _ _).trans (by rw[aaq rfl];rfl)));refine jy (fL ((q_ q1).trans q2) rfl) (jy (fL q3 rfl) ?_);obtain⟨u,hu⟩:=Ei v.run;obtain⟨fs,kb⟩:=S1 v hu;refine eZ (cL (ps:=[(cI g.C,.sh []),(iL g.ln,.own)]) (by rw[aR,aR,eK rfl yW];rfl) (LS v.gc (λx m=>v.row x (abj _ m)) hu)) (fS (rT g (iL (g.ln++g.ld++wl g++sk g.gr)) (some (aZ u,.own))) ?_);have ul:=kb.len;have up:∀k,0<=gV u k/\gV u k<=4:=O6 v.gc sc (λx m=>v.row x (abj _ m)) (λk=>by show(0:Int)<=0/\(0:Int)<=4;lia) hu;have hc:=abi (js:=[none,some 3]) (es:=u) (o:=[]) (it:=d7 (e1 i7 (aj 3))) (tt:=tV (e2 qt (e2 jL (aj 1) (aj 0)) (eC (.int 0)))) (ρ:=rT g (iL (g.ln++g.ld++wl g++sk g.gr)) (some (aZ u,.own))) (by lia) (fZ (bA rfl (RW (by lia)))) (λi=>rfl) (λi w hw=>a_ (aG (aG rfl rfl (JR hw)) rfl (by
   have:=(up i).1;unfold gV at this;rw[hw] at this;have this:0<=w:=this;show some (D.bl (decide (w > 0)))=some (D.bl (!(w==0)));refine congrArg (λb=>some (D.bl b)) ?_
   by_cases z:w=0
   .subst z;rfl
   .rw[aaq (show w > 0 by lia),show(w==0)=false from adz.mpr z];rfl)))
  have Td:Gs (dS (nz u)):=by
   refine(Sh.lst (w:=102) (k:=1) (n:=60) (λd m=>?_) (by rw[List.length_map];exact adk (Uz u) ul)).repr (by decide) (by decide);obtain⟨p,mp,rfl⟩:=abY.mp m;unfold nz at mp;obtain⟨s,ms,rfl⟩:=abY.mp mp;have mk:s∈u.map (·.1):=rm.mp (acO.mp ms).1;have sr:=eO.mp (kb.ks s mk);have vr:=up s;refine Sh.tup (w:=50) (k:=0) (n:=2) (λd m=>?_) (abL _);rcases aaA.mp m with rfl|m
   .exact .int (by lia)
   .rw[aaU.mp m];exact .int (show 0<=gV u s/\gV u s<=100 by lia)
  exact⟨_,cC (F_ Td (eK rfl fs) hc),_,rfl,rfl⟩
 obtain⟨_,e,rfl⟩:=e;exact e
theorem adC(hl:C.length<=60):UE [obj C]=some (obj C):=by
 refine bY rfl (sq (ρ':=[some (obj C,.sh []),some (obj [],.own)]) rfl (sq (ρ':=[some (obj C,.sh []),some (obj C,.own)]) ?_ rfl));show(if("Changes":Str)="Changes" then(if(aL (C.map ent)&&aL ([]:List D)&&decide (([]:List D).length+(C.map ent).length<=sizeLine))=true then some (Out.nx (bQ [some (obj C,.sh []),some (obj [],.own)] 1 (.ins "Changes" (dY "entries" (.lst ([]++C.map ent)) [("entries",.lst [])])))) else none) else none)=_;rw[if_pos rfl,if_pos (by rw[C_,aaq (by rw[List.length_map,ae6];show 0+_<=_;lia)];rfl)];rfl
theorem N2(hl:g.C.length<=60):XW [gD g]=some (obj g.C):=bY rfl (cC (lA (ρ:=[some (gD g,.sh [])]) (ps:=[]) (fl (g:=g) (f:="known") (d:=obj g.C) (t:=.sh []) rfl rfl) rfl rfl (adC hl)))
theorem TQ{a:Ch}(c:Cs a):Gs (dZ a):=by
 have up:∀{w k d},Sh w k d->w<=3060->k<=2->Sh 3060 2 d:=λh p q=>⟨h.ok,h.sh,adk h.dp q,h.lv,adk h.wt p⟩
 refine(Sh.tup (w:=3060) (k:=2) (n:=3) (λd m=>?_) (abL _)).repr (by decide) (by decide);have lb:a.2.1.length<=60:=by
  have:=sub_len (l:=a.2.1) (m:=bK 1 60) (c.inc.imp λh=>by lia) λx m=>eO.mpr (by have:=c.bd x m;lia)
  rwa [jr] at this
 rcases aaA.mp m with rfl|m
 .exact up (Sh.int (by have:=c.rk;lia)) (by decide) (by decide)
 .rcases aaA.mp m with rfl|m
  .exact up (Sh.lst (w:=50) (k:=0) (n:=60) (λd m=>by
    exists 52;exact .int (by have:=c.bd x mx;lia)) (by rw[List.length_map];exact lb)) (by decide) (by decide)
  .rw[aaU.mp m];refine up (Sh.lst (w:=153) (k:=1) (n:=3) (λd m=>?_) (by rw[List.length_map];exact c.ed.few)) (by decide) (by decide);obtain⟨p,mp,rfl⟩:=abY.mp m;have e:=c.ed.ok p mp;have e1:=e.s;have e2:=e.o;have e3:=e.n;refine Sh.tup (w:=50) (k:=0) (n:=3) (λd m=>?_) (abL _);rcases aaA.mp m with rfl|m
   .exact .int (by lia)
   .rcases aaA.mp m with rfl|m
    .exact .int (by lia)
    .rw[aaU.mp m];exact .int (by lia)
def rX(g:G)(F:List Ch)(s3 s4 s5:Slot):aO:=[some (gD g,.sh []),some (cI g.C,.sh []),some (obj F,.own),s3,s4,s5]
theorem Vw(v:Gd g)(hl:g.C.length<60)(sc:∀c∈g.C,Cs c):Q_ [gD g,cI g.C]=some (.bl true):=by
 have ol:eS (cI g.C)=some (.int g.C.length):=by unfold cI;rw[vo,List.length_map]
 have e:∃d,Q_ [gD g,cI g.C]=some d/\d=.bl true:=by
  refine qf rfl (eZ (eK rfl (N2 (by lia))) (fS (rX g g.C none none none) ?_));have q:∀{F:List Ch} {s3 s4 s5},bP "Changes" "many" BG (aj 2) aE (rX g F s3 s4 s5)=some (.int F.length,.own):=lA (ps:=[]) rfl rfl rfl (Bt _);refine jy (fL (a_ (aG q (bA rfl ol) (show iI _ _=some (.bl false) by show some (D.bl (!(_==_)))=_;rw[aen];rfl))) rfl) ?_;have hi:Gb (aj 1) (rX g g.C none none none)=some ((List.range g.C.length).map (λi:Nat=>D.tup [.int i,(g.C.map dZ).getD i .az]),.sh []):=by
   show some ((List.range (g.C.map dZ).length).map (λi:Nat=>D.tup [.int i,(g.C.map dZ).getD i .az]),Tag.sh [])=_;rw[List.length_map]
  refine E9 (λ_ ρ=>∃s3 s4 s5,ρ=rX g g.C s3 s4 s5) (λ_=>False) hi (.inr rfl) ⟨_,_,_,rfl⟩ (λj ρ d hd ⟨s3,s4,s5,e⟩=>?_) (λρ ⟨s3,s4,s5,e⟩=>?_) λx q=>q.elim
  .subst e;rw[acn] at hd;obtain⟨i,hi,rfl⟩:=ach.mp hd;have il:i<g.C.length:=agS.mp (adU hi);have h1:(1:Int)<=(i:Int)+1:=by lia
   have h2:(i:Int)+1<=(g.C.length:Int):=by lia
   have ei:(g.C.map dZ).getD i .az=dZ (ch g.C ((i:Int)+1)):=by
    have:=A1 h1 h2;rw[show((i:Int)+1-1).toNat=i by lia] at this;rw[adb,acn,this];rfl
   rw[ei];refine⟨rX g g.C (some (.int i,.sh [])) (some (dZ (ch g.C ((i:Int)+1)),.sh [])) s5,rfl,?_⟩;have ha:e2 gI (aj 3) (eC (.int 1)) (rX g g.C (some (.int i,.sh [])) (some (dZ (ch g.C ((i:Int)+1)),.sh [])) s5)=some (.int ((i:Int)+1),.own):=aG rfl rfl rfl;have ht:iV (au (bP "Changes" "rank_of" xu (aj 2) (au (e2 gI (aj 3) (eC (.int 1))) aE)) (au (bP "Changes" "leans_of" BU (aj 2) (au (e2 gI (aj 3) (eC (.int 1))) aE)) (au (bP "Changes" "edits_of" zR (aj 2) (au (e2 gI (aj 3) (eC (.int 1))) aE)) aE))) (rX g g.C (some (.int i,.sh [])) (some (dZ (ch g.C ((i:Int)+1)),.sh [])) s5)=some (dZ (ch g.C ((i:Int)+1)),.own):=by
    rw[l7,aR,aR,aR,ki rfl ha (Sb h1 h2),ki rfl ha (D7 h1 h2),ki rfl ha (wD h1 h2),<- n9 h1 h2];rfl
   refine eZ ht ⟨.nx (rX g g.C (some (.int i,.sh [])) (some (dZ (ch g.C ((i:Int)+1)),.sh [])) (some (dZ (ch g.C ((i:Int)+1)),.own))),fL (xY (TQ (sc _ (JG h1 h2))) rfl rfl) rfl,.inl ⟨_,rfl,_,_,_,rfl⟩⟩
  subst e;refine jy (ρ':=rX g (g.C++[(0,[],[])]) (v_ 2 s3) (v_ 2 s4) (v_ 2 s5)) (f_ ((a_ (aG (bA rfl ol) rfl rfl)).trans (congrArg some (aaq (show(g.C.length:Int)<60 by lia)))) ?_) ⟨_,cC (aG (d1:=.int g.C.length) (t1:=.own) (lA (ps:=[]) (eK rfl (N2 (by lia))) rfl rfl (Bt _)) (bA rfl ol) (show oEq _ _=some (.bl true) by show some (D.bl (_==_))=_;rw[aen])),_,rfl,rfl⟩;show(xO 2 "Changes" "added" tO (au (eC (.int 0)) (au (iG aE) (au (iG aE) aE))) (rX g g.C s3 s4 s5)).map (λw=>Out.nx w.2)=_;have:xO 2 "Changes" "added" tO (au (eC (.int 0)) (au (iG aE) (au (iG aE) aE))) (rX g g.C s3 s4 s5)=some (.int (g.C.length+1),bQ (rX g g.C s3 s4 s5) 2 (obj (g.C++[(0,[],[])]))):=by
   show(if("Changes":Str)="Changes"/\([("entries",D.lst (g.C.map ent))]:List (Str×D)).lookup ("added":Str)=none/\apart 2 [(.int 0,.own),(.lst [],.own),(.lst [],.own)]=true then(tO (obj g.C) [.int 0,iL [],eL []]).map _ else none)=_;rw[if_pos ⟨rfl,rfl,rfl⟩,Mr (by simp) (by simp) (by simp[sE,inR,p_,uQ]) (by lia)];rfl
  rw[this];rfl
 obtain⟨_,e,rfl⟩:=e;exact e
theorem Gi.up(i:Gi k g):Gi (k+1) g:=⟨i.gd,⟨i.gt.tn,by have:=i.gt.tl;lia,i.gt.yl,i.gt.em,by have:=i.gt.el;lia,by have:=i.gt.gl;lia,i.gt.lg,i.gt.st,i.gt.ll⟩,i.fin,i.QT⟩
theorem min2{a n:Nat}:xj (.int a) (.int n)=some (.int (min a n:Nat)):=by
 show some (D.int (if(n:Int)<a then(n:Int) else a))=_;rw[show(if(n:Int)<a then(n:Int) else a)=((min a n:Nat):Int) by split<;>lia]
theorem UU(h:f ρ=some (d,ρ'))(hi:aB d=true):xI f ρ=some (d,ρ'):=by
 unfold xI;rw[h];dsimp only;rw[if_pos hi]
def rL(ns:List Int)(st:D)(g:G)(es:gK)(E:Ew)(O:List (Key×D))(ln:List Int)(s9 iC jd:Slot):aO:=[some (dI ns,.sh []),some (st,.own),some (gD g,.own),some (cI g.C,.own),some (aZ es,.own),some (u_ g.ta,.own),some (gY E,.own),some (.bf O,.own),some (iL ln,.own),s9,iC,jd]
structure Iv(j:Nat)(g:G)(es:gK)(E:Ew):Prop where
 i:Gi j g
 sv:Sv es
 sc:∀c∈g.C,Cs c
 cl:g.C.length<=j
 en:yt g E
 el:E.length<=j
theorem abx{L ld:List Int}(i:Gi k g)(en:yt g E)(ml:L∈g.lk):yt (eB { bZ g L w with ld:=ld,gr:=gr }) (nS E L (word g.n g.t (hd g.ta L++[w]))):=by
 obtain⟨p,p1,p2,p3,eL,hm⟩:=i.mem ml;have lL:=wu p3;have nt:(bZ g L w).n=g.n/\(bZ g L w).t=g.t/\(bZ g L w).ln=if(word g.n g.t (hd g.ta L++[w]) == "yes")=true then L else g.ln:=by
  unfold bZ
  split<;>exact⟨rfl,rfl,rfl⟩
 have hw:∀l,wd (eB { bZ g L w with ld:=ld,gr:=gr }) l=if l=L then word g.n g.t (hd g.ta L++[w]) else wd g l:=λl=>by
  show(match nA (bZ g L w).ta l with|none=>("more":Str)|some h=>word (bZ g L w).n (bZ g L w).t h)=_;rw[nt.1,nt.2.1,JP];unfold nA
  by_cases e:l=L
  .rw[e,yZ,if_pos rfl]
  .rw[BX e,if_neg e];rfl
 have old:=en.at_;generalize word g.n g.t (hd g.ta L++[w])=W at hw nt ⊢;refine⟨λl nl=>?_,?_⟩
 .rw[hw];unfold nS
  by_cases e:l=L
  .subst e;rw[if_pos rfl]
   by_cases z:W="more"
   .rw[if_pos z,if_pos z,old l nl,Ll i.gd,hm];exact if_pos rfl
   .rw[if_neg z,if_neg z,yZ]
  .rw[if_neg e]
   by_cases z:W="more"
   .rw[if_pos z];exact old l nl
   .rw[if_neg z,BX e];exact old l nl
 .show(bZ g L w).ln=[]\/wd (eB { bZ g L w with ld:=ld,gr:=gr }) (bZ g L w).ln="yes";rw[hw,nt.2.2]
  by_cases y:(W==("yes":Str))=true
  .rw[if_pos y,if_pos rfl];exact .inr (eq_of_beq y)
  .rw[if_neg y];refine en.ly.imp id λh=>?_
   rw[if_neg λe=>?_]
   .exact h
   .rw[eL] at e;have:=congrArg List.length e;omega
theorem Gr.up{gr:List (Key×D)}(k:Gr n gr)(h:n<=m):Gr m gr:=⟨k.im,k.nd,λq mq=>let⟨x,e,r⟩:=k.ks q mq;⟨x,e,by have:=eO.mp r;exact eO.mpr (by lia)⟩,k.tp⟩
theorem afo(hl:ns.length<=63):zS [dI ns]=some (.bl true):=by
 have e:∃d,zS [dI ns]=some d/\d=.bl true:=by
  obtain⟨_,fs,w,h,n,t,rfl,hw,hh,h1,h2,h3⟩:=Yh (ns:=ns) (m:=16) (by omega);refine qf rfl (eZ (cL rfl fs) ?_);have fg:=Tj (n:=n) (t:=t) (w:=w) (h:=h) (by omega) (by omega) (by omega);have i0:=gi0 (n:=n) (t:=t) (w:=w) (h:=h) (by omega) (by omega) (by omega);refine eZ (by
   show(match Q5 (.ins "Gate" []) [.int w,.int h,.int n,.int t] with|some (.az,d)=>some (d,Tag.own)|_=>none)=_;rw[fg]) (eZ rfl (eZ rfl (eZ rfl (eZ rfl (eZ rfl (eZ rfl (fS (rL ns (dR w h n t) (g0 w h n t) [] [] [] [] none none none) ?_)))))))
  refine Ru (λj ρ=>∃g es E s9 iC jd,ρ=rL ns (dR w h n t) g es E (od g.gr) g.ln s9 iC jd/\Iv j g es E/\(∀p∈g.gr,Gs p.2)/\g.w=w/\g.h=h/\g.n=n/\g.t=t) (ID (aG (d1:=.int ((48:Nat):Int)) rfl (bA rfl F5) min2) (by omega)) ⟨g0 w h n t,[],[],none,none,none,rfl,⟨i0,⟨Kb.nil,λk=>by show(0:Int)<=0/\(0:Int)<=4;omega⟩,(λc m=>nomatch m),abL _,⟨λl _=>rfl,.inl rfl⟩,abL _⟩,(λp m=>nomatch m),rfl,rfl,rfl,rfl⟩ (λj ρ hj hI=>?_) λρ hI=>?_
  .obtain⟨g,es,E,s9,iC,jd,e,I,gs,ew,eh,Xe,et⟩:=hI;subst e;rw[Int.zero_add];subst ew eh Xe et;have v:=I.i.gd;have gl:=v.gc.ln;have ll:=v.len;have UR:=xK (g:=g);have cl:=I.cl;refine⟨rL ns (dR g.w g.h g.n g.t) g es E (od g.gr) g.ln (some (.int j,.sh [])) iC jd,rfl,?_⟩;obtain⟨_,fw,s,rfl,wa,ww,wc⟩:=Zb (ns:=ns) (b:=g.ht) (L:=g.lk) (O:=wl g++g.ld) (q:=(j:Int)) (by omega);refine eZ (cL (ps:=[(dI ns,.sh []),(.int j,.sh []),(.bl g.ht,.own),(.lst (dQ g.lk),.own),(iL (wl g++g.ld),.own)]) (by
    rw[aR,aR,aR,aR,aR,eK rfl ac2,eK rfl Ry,aG (eK rfl (qy (by omega))) (eK rfl Jp) (qe (by rw[ae6];omega))];rfl) fw) (fS (rL ns (dR g.w g.h g.n g.t) g es E (od g.gr) g.ln (some (.int j,.sh [])) (some (.str s,.own)) jd) ?_)
   refine eZ rfl (fS (rL ns (dR g.w g.h g.n g.t) g es E (od g.gr) g.ln (some (.int j,.sh [])) (some (.str s,.own)) (some (.int 0,.own))) ?_);refine zw (I:=λρ=>∃g' gA E' tk,ρ=rL ns (dR g.w g.h g.n g.t) g' gA E' (od g.gr) g.ln (some (.int j,.sh [])) (some (.str s,.own)) (some (.int tk,.own))/\Iv (j+1) g' gA E'/\De g g' tk/\g.C.length<=g'.C.length) (vD rfl (λhA=>?_) λhA=>?_) λρ hI=>?_
   .have hs:=eq_of_beq hA;subst hs;obtain⟨_,_,fa,L,u,ld,gr,ml,mu,rfl,rfl,i',up⟩:=Tc (ns:=ns) (w8:=g.w) (h8:=g.h) (E:=E) (q:=(j:Int)) (by omega) I.i (by omega) (wa rfl) (by have:=I.el;omega);have k5:(bZ g L u).C=g.C/\((bZ g L u).w=g.w/\(bZ g L u).h=g.h/\(bZ g L u).n=g.n/\(bZ g L u).t=g.t)/\(bZ g L u).gr=g.gr/\g.ln <+: (bZ g L u).ln:=by
     obtain⟨p,_,_,_,eL,_⟩:=I.i.mem ml;unfold bZ
     split
     .exact⟨rfl,⟨rfl,rfl,rfl,rfl⟩,rfl,by show g.ln <+: L;rw[eL];exact ags _ _⟩
     .exact⟨rfl,⟨rfl,rfl,rfl,rfl⟩,rfl,aeR _⟩
    have hC:(eB { bZ g L u with ld:=ld,gr:=gr }).C=g.C:=k5.1;refine⟨.nx (rL ns (dR g.w g.h g.n g.t) (eB { bZ g L u with ld:=ld,gr:=gr }) es (nS E L (word g.n g.t (hd g.ta L++[u]))) (od g.gr) g.ln (some (.int j,.sh [])) (some (.str "answer",.own)) (some (.int 0,.own))),?_,_,rfl,_,es,_,0,rfl,⟨i',I.sv,λc m=>I.sc c (hC ▸ m),by rw[hC];omega,abx I.i I.en ml,?_⟩,De.of up k5.2.1 k5.2.2.2 k5.2.2.1,by rw[hC];exact abL _⟩
    .unfold JD Ho;rw[UU (ZM (ps:=[(dI ns,.sh []),(.int j,.sh []),(gD g,.sh [2]),(u_ g.ta,.sh [5]),(gY E,.sh [6]),(dR g.w g.h g.n g.t,.sh [1])]) rfl fa) rfl];unfold rL;rw[hC];rfl
    .have:=I.el;unfold nS
     split
     .omega
     .exact adk FD (by omega)
   .obtain⟨_,_,fd,g',gA,tk,rfl,rfl,i',sv',de,P5,TY,hC⟩:=WH (ns:=ns) (q:=(j:Int)) (s:=s) (es:=es) (by omega) I.i I.sv (by omega) ww (by
     rcases wc with h|h|h|h|h
     .exact .inl h
     .exact .inr (.inl h)
     .rw[h] at hA;exact absurd hA (by decide +kernel)
     .exact .inr (.inr (.inl h))
     .exact .inr (.inr (.inr h)))
    have wq:∀l,wd g' l=wd g l:=λl=>by unfold wd;rw[P5,de.n,de.t]
    have lC:g.C.length<=g'.C.length/\g'.C.length<=g.C.length+1:=by
     rcases hC with h|⟨c,h,_⟩
     .rw[h];omega
     .rw[h,abD,adR];omega
    refine⟨.nx (rL ns (dR g.w g.h g.n g.t) g' gA E (od g.gr) g.ln (some (.int j,.sh [])) (some (.str s,.own)) (some (.int tk,.own))),(MX (KG (ps:=[(dI ns,.sh []),(.int j,.sh []),(.str s,.sh [10]),(gD g,.sh [2]),(aZ es,.sh [4]),(cI g.C,.sh [3])]) rfl fd)).trans ?_,_,rfl,g',gA,E,tk,rfl,⟨i'.up,sv',λc m=>?_,by omega,⟨λl nl=>by rw[wq];exact I.en.at_ l nl,by rw[TY,wq];exact I.en.ly⟩,by have:=I.el;omega⟩,de,lC.1⟩
    .unfold rL;rw[P5];rfl
    .rcases hC with h|⟨a,h,ca⟩
     .exact I.sc c (h ▸ m)
     .rw[h] at m;exact(abl.mp m).elim (I.sc c) λm=>(aaU.mp m) ▸ ca
   .obtain⟨g',gA,E',tk,e,I',de,lC⟩:=hI;subst e;have v':=I'.i.gd;have l':=v'.len;have t1:tV (e2 lB (pP (bP "Gate" "line" Gj (aj 2) aE) (e1 eS (aj 8))) (aj 8)) (rL ns (dR g.w g.h g.n g.t) g' gA E' (od g.gr) g.ln (some (.int j,.sh [])) (some (.str s,.own)) (some (.int tk,.own)))=some false:=by
     have hc:pP (bP "Gate" "line" Gj (aj 2) aE) (e1 eS (aj 8)) (rL ns (dR g.w g.h g.n g.t) g' gA E' (od g.gr) g.ln (some (.int j,.sh [])) (some (.str s,.own)) (some (.int tk,.own)))=some (iL g.ln,.own):=by
      unfold pP;rw[eK (g:=g') (t:=.sh [2]) rfl yW,bA (t:=.sh [8]) rfl (BQ (l:=g.ln))];show(if aL (g'.ln.map D.int)=true then some (D.lst (cutD (g'.ln.map D.int) none (some (g.ln.length:Int))),Tag.own) else none)=_;rw[if_pos (e_ _),Jk (by rw[List.length_map];exact de.lp.length_le),<- List.map_take,<- List.prefix_iff_eq_take.mp de.lp];rfl
     exact a_ (aG (d2:=iL g.ln) hc rfl ((AH _ _).trans (by rw[aaq rfl];rfl)))
    obtain⟨fo,SN⟩:=Yy (tk:=tk) I'.i I'.en I'.sc (v.gr.up lC) de gs;refine jy (fL ((q_ t1).trans (kN (b:=true) (a_ (cL (ps:=[(gD g',.sh [2]),(cI g'.C,.sh [3])]) rfl (WQ I'.i I'.sc))))) rfl) (jy (fL (kN (b:=true) (a_ (cL (ps:=[(gD g',.sh [2]),(cI g'.C,.sh [3]),(.bf (od g.gr),.sh [7]),(gY E',.sh [6]),(.int tk,.sh [11])]) rfl fo))) rfl) ?_);refine eZ (eK rfl yW) (fS (rL ns (dR g.w g.h g.n g.t) g' gA E' (od g.gr) g'.ln (some (.int j,.sh [])) (some (.str s,.own)) (some (.int tk,.own))) ?_);refine⟨.nx (rL ns (dR g.w g.h g.n g.t) g' gA E' (od g'.gr) g'.ln (some (.int j,.sh [])) (some (.str s,.own)) (some (.int tk,.own))),?_,_,rfl,g',gA,E',_,_,_,rfl,I',SN,de.w,de.h,de.n,de.t⟩;rw[iO,bA (eK (g:=g') (t:=.sh [2]) rfl (EK v')) (KP v'.gr)];rfl
  .obtain⟨g,es,E,s9,iC,jd,e,I,gs,_⟩:=hI;subst e;have cl:=I.cl;exact⟨_,cC (cL (ps:=[(gD g,.sh [2]),(cI g.C,.sh [3])]) rfl (Vw I.i.gd (by omega) I.sc)),_,rfl,rfl⟩
 obtain⟨_,e,rfl⟩:=e;exact e
end K91
namespace HT
open PySem PySem.W PyProof.Rows
section
variable{K:Params->Frag}
end
end HT
namespace K91
open PySem L2 L2.Ev
local macro_rules | `(tactic| walk_at "ba")=>`(tactic| first | exact ba_n 1 rfl fun _ _ _ _ _ _ _=>rfl | exact ba_n 2 rfl fun _ _ _ _ _ _ _=>rfl | exact ba_n 3 rfl fun _ _ _ _ _ _ _=>rfl | exact ba_n 4 rfl fun _ _ _ _ _ _ _=>rfl | exact ba_n 5 rfl fun _ _ _ _ _ _ _=>rfl | exact ba_n 6 rfl fun _ _ _ _ _ _ _=>rfl)
set_option maxHeartbeats 0 in
theorem all_mk{l:PySem.W.OpenLaw}{w:World}{K:PySem.W.Frag}{h:Heap}{mg:Str->Option Value}{fa:Addr}(X:K.In h)(G:h.Ns mainGlobals mg)(Gh:mg "law"=some (.ref fa))(q:ug L K=true)(t:tab.map (look K)=tab.map want):
  ∃fd:FuncData,(∀(s:Shared) (v:Value),BindsTo s fd ⟨[v],[]⟩ [("_law_script",v)])/\∀base:Heap,K.In base->base.Ns mainGlobals mg->cE l.prog w K mg base dF 15 fa fd ["_law_script"] (bq K zS):=by
 refine adl (sp:=λ_=>bq K zS) X G Gh (Qv (s:=top 64) 33 t rfl) (λ_ _ _ _ _ _ _ _=>.of_eq rfl) λbase _ _ _ _ F=>?_
 have E:En L ⟨l.prog,w,K,mg,base⟩:=abq X G q;have W0:=dN X G t 0 (GQ _ E);have W1:=dN X G t 1 (Ea _ ⟨E,W0⟩);have W2:=dN X G t 2 (Hr _ E);have W3:=dN X G t 3 (D_ _ ⟨E,W2⟩);have QG:=JW t q 34 (Rr _ E);have XH:=JW t q 44 (Jy _ ⟨E,W3,W2,QG⟩);have W4:=dN X G t 4 (JX _ ⟨E,W0⟩);have BV:=cY t 35 (Ek _ E);have W45:=cY t 45 (JJ _ E);have vQ:=cY t 46 (G6 _ ⟨E,BV,W45⟩);have G_:=cY t 47 (D8 _ E);have Ks:=cY t 48 (Gx _ E);have XU:=cY t 49 (JI _ E);have W5:=dN X G t 5 (F4 _ ⟨E,W0⟩);have W6:=dN X G t 6 (DY _ E);have Mz:=cY t 70 (Dk _ E);have Zk:=cY t 71 (Gu _ ⟨E,Mz⟩);have W72:=JW t q 72 (CT _ ⟨E,W3⟩);have Z9:=cY t 50 (JM _ E);have IE:=cY t 36 (GH _ ⟨E,W2,BV⟩);have HM:=cY t 37 (DQ _ ⟨E,IE⟩);have Jl:=cY t 38 (G5 _ ⟨E,HM⟩);have W51:=cY t 51 (Fp _ ⟨E,vQ,Jl⟩);have Jt:=cY t 52 (DU _ ⟨E,Mz⟩);have HJ:=cY t 53 (EM _ E);have IS:=cY t 54 (GW _ ⟨E,Jt,HJ⟩);have W7:=dN X G t 7 (Ey _ E);have W8:=dN X G t 8 (Gq _ E);have W9:=dN X G t 9 (PJ _ ⟨E,W7,W8⟩);have xF:=cY t 39 (EN _ ⟨E,HM⟩);have Nj:=dN X G t 10 (EJ _ ⟨E,W9,xF⟩);have Yn:=dN X G t 11 (Dj _ ⟨E,Nj⟩);have L_:=cY t 40 (Jg _ ⟨E,HM⟩);have YZ:=dN X G t 12 (DW _ ⟨E,L_⟩);have W13:=dN X G t 13 (Ef _ ⟨E,W7,xF⟩);have W14:=dN X G t 14 (DM _ ⟨E,YZ,W13⟩);have QJ:=dN X G t 15 (Dq _ ⟨E,Jl⟩);have W16:=dN X G t 16 (IY _ ⟨E,Yn,W14,QJ,xF⟩);have W55:=cY t 55 (EY _ ⟨E,IS,HJ,Jt⟩);have O1:=cY t 56 (Ik _ ⟨E,Nj⟩);have W17:=dN X G t 17 (JQ _ ⟨E,W7⟩);have WC:=cY t 57 (GO _ ⟨E,QJ,vQ,O1,W17,xF⟩);have Zo:=cY t 58 (Je _ ⟨E,IS,W16,vQ,W55,WC⟩);have W59:=cY t 59 (IW _ ⟨E,Jt⟩);have W18:=dN X G t 18 (Jh _ E);have Wp:=dN X G t 19 (DK _ ⟨E,W18⟩);have W60:=cY t 60 (Fk _ ⟨E,W59,HJ,Wp,IS⟩);have yy:=cY t 61 (CM _ ⟨E,W51,Zo,W60⟩);have W62:=cY t 62 (Df _ ⟨E,Zk,W72,Z9,yy⟩);have Uo:=dN X G t 20 (Ic _ ⟨E,Ks,W0,W5,W6,W62⟩);have XQ:=dN X G t 21 (GV _ ⟨E,W0⟩);have Ye:=dN X G t 22 (EO _ ⟨E,W0,XQ⟩);have Me:=dN X G t 23 (D9 _ E);have Xq:=dN X G t 24 (HK _ ⟨E,W2,Me⟩);have W41:=cY t 41 (G3 _ ⟨E,W2,Me,IE,Xq⟩);have Pp:=cY t 42 (C8 _ ⟨E,W41,BV⟩);have VI:=cY t 63 (G8 _ ⟨E,Pp,yy⟩);have W64:=cY t 64 (DX _ ⟨E,IE,yy⟩);have Y4:=cY t 65 (DB _ ⟨E,yy⟩);have W66:=cY t 66 (JL _ ⟨E,yy⟩);have SK:=dN X G t 25 (IX _ ⟨E,Ye,VI,vQ,G_,W0,W64,Y4,W66⟩);have HU:=cY t 67 (El _ E);have C4:=cY t 68 (Gg _ E);have Np:=dN X G t 26 (EI _ E);have Wc:=dN X G t 27 (EA _ ⟨E,HU,G_,vQ,C4,Np,O1⟩);have W28:=dN X G t 28 (DC _ E);have YA:=dN X G t 29 (EZ _ E);have WE:=dN X G t 30 (E2 _ ⟨E,YA,Np⟩);have Zg:=dN X G t 31 (HL _ ⟨E,HU,C4,W28,WE⟩);have Zm:=cY t 43 (HG _ ⟨E,QG⟩);have W69:=cY t 69 (J_ _ ⟨E,Zm⟩);have Yv:=dN X G t 32 (DT _ ⟨E,W69,BV,xF,Jl,L_,Pp⟩);exact o_law _ ⟨E,W1,XH,W4,vQ,G_,Ks,XU,Uo,SK,Wc,HU,Zg,C4,Yv⟩ _ _ F
theorem wk:Wk:=λhY hT hL hq ht yP WM=>
 L2.acT (n:=63) (k:=15) (x:="_law_script") (CX:=λ_=>dF) (sp:=λw=>bq (_:PySem.W.Frag) zS) rfl (by decide) yP ⟨λ_=>rfl,by decide,by decide,rfl⟩ hY hT hL (λw mg fa h KX G zg=>all_mk KX G (WM ▸ zg) (hq w) (ht w)) (λw H a ns hl hz=>by
  refine⟨[dI ns],[]++[],.bl true,.cons (.BI hz (yY ns)) .nil,afo hl,λH' v jH _ r _ _=>?_⟩;cases r;rfl) λ_ _ _ _ _ z=>z
open PySem PySem.W PyProof.Rows L2 L2.Ev
end K91
theorem PySem.Challenge.cw_linegate_k91_whole_nobody_lost_holds : PySem.Challenge.rw_linegate_k91_whole_nobody_lost.Holds := by
 exact K91.early K91.wk
