import PyProof.Rows.All
import Wide.All
import OpenK.AllK
import Wide.FinOn
import PyProof.EqAt
import PyProof.EqKinds
import PyProof.TupleCall
import PyProof.NeKinds
import PyProof.FactsAll.tuple_2
import PyProof.FactsAll.tuple_3
import PyProof.ListRange
import KE.KSortTup
import PyProof.EnumMake
import PyProof.AutoSeq1
import PyProof.Rows.SeqMore
import KE.KIsAll
import PyProof.ExcArgsOwn
import PyProof.ExcBaseAll.ValueError
import PyProof.ExcAttrAll.ValueError
import OpenK.KOwn
import PyProof.RulesAs
import PyProof.AutoRange
import PyProof.SeqRoads2
import PyProof.ZipIter
import PyProof.StrCalls2
import KE.KDictSum
import PyProof.SumAny
import KE.KRevIter
import PyProof.Rows.FStr
import PyProof.Rows.FStrParts
import KE.KRevSl
import Lean
import PySem.Challenge.RW_rookborders_k15_whole_ties_stay
set_option bootstrap.genMatcherCode false
set_option Elab.async false
set_option linter.all false
set_option maxRecDepth 100000
set_option maxHeartbeats 1000000
set_option linter.defProp false
open PySem renaming Value→KU,wpAny_bind→KY,Shared→KZ,mainGlobals→K8,wpAny_pure→Lc,starEach→Le,sizeLine→Lm,wpAny→Lq,wpAny_mono→Lv,foldedSetIterable→Lz,Program→LB,Around→LC,mem_of_lookup→LZ,World→L1,wpAny_standAt→Mc,codeAny→Mg,compareOp→Mp,wpAny_field→Mx,assignEach→MA,Scope→MI,wpAny_newObj_type→ML,cellsFrom→MN,letOwnedTupleGo→MO,swapsWith→MS,wpAny_comprehension_free→MT,wpAny_truthy_bool→MZ,sysModules→M1,backTo→M2,cLine→M4,FuncData→M5,NameKind→M6,Spec→Nd,wpAny_passesOwn→Nj,wpAny_loadPart'→Nk,bootBuiltins→Nm,assign→Nq,wpAny_callSpecial?_slot→Nv,wpAny_setField_rec→NB,wpAny_holding→ND,standAt→NJ,wpAny_setField→NM,noteFrame→NQ,rawInt→NR,behindInMarks→NT,wpAny_execs_nil→NX,theTreesLotGoes→NZ,wpAny_pyIter_tuple→N1,wpAny_Call_Name_kw→N2,sliceBounds→N7,holding→N8,binaryOp→N9,Result→Oa,codeAny_mono→Oc,relabel→Od,newFunctionEnv→Of,codeAny_compStart_list→Og,wpAny_pyIter_enum→Oh,wpAny_rule→Op,wpAny_call_entry→Os,swapsWithSole→Ox,swappedStores→Oy,compTurn→OE,IsEnum→OI,codeAny_loop→OK,pyNext→OO,pyIter→OP,wpAny_letOwnedTupleGo_enum→OT,wpAny_assign_Name→O1,wpAny_pyIter_list→O2,wpAny_noted→O3,compEnvC→Pe,setFlight→Pj,callerA→Pp,exec_Assign_Name_used→PJ,subscripted→PV,tupleKind→Qa,valueAt→Qe,wpAny_Tuple_spliced→Qf,assignInOrder→Qp,again→Qq,attributeBase→Qs,comprehension→Qt,builtinsNs→QB,call_meets→QD,isExcClass→QG,tupleKind_room_in1→QH,BindsTo→QO,getItem→QR,seqIndex_neg→QT,slot_list_getitem→QU,Keyword→QV,compPost→QX,wpAny_execs_cons→Ra,PassesOwn→Rb,lastMarks→Rc,compStart→Rh,wpAny_askSetting→Ri,seqItems?→Rj,Model→Ro,CmpOp→Rp,sizeLine_eq→Rq,seqIndex_of→Rr,keywordEach→Rs,wpAny_of_eq→Rt,atKey→Rv,pushCells_keeps→Rx,codeAny_of_tree→Rz,theWindowsPlace→RB,notedBy→RF,wpAny_Name→RI,bindName→RJ,wpAny_bindName→RL,recursionLimit→RO,bindL→RP,bindC→RQ,fitsIndex_both→RU,call→RV,field→R0,wpAny_seqItems→R1,firstArgMember→R3,wpAny_loadPart→R8,excMatches→Sa,evalPart_none→Sv,call_list_seq→Sx,eval_ListComp→Sy,wpAny_notedAt→SE,wpAny_attempt→SF,Comprehension→SH,seqIndex?→SO,IsEnumOut→S0,isSubtype→S4,setItem→S8,leaving→Th,newList→To,SetTable→Ux,Operator→UD,backToKw→UF,setField→U7,Params→Wc
open List renaming range→KW,getElem?_eq_getElem→K0,replicate→K1,getD_eq_getElem?_getD→K2,length_map→K5,getElem?_set_ne→K9,mem_range→La,mem_cons_of_mem→Lb,map_cons→Lf,getElem?_set_self→Lg,mem_cons→Ll,getElem?_map→Ln,getElem?_eq_some_iff→Lp,size_toArray→Lr,mem_cons_self→Lu,mem_append_right→Lx,map_map→LA,getElem?_append_left→LG,length_append→LJ,length_cons→LM,getElem?_eq_none→LP,getElem?_append_right→LQ,getElem?_range→LU,getElem?_replicate→LV,mem_map→LX,mem_singleton→L3,map_append→L5,mem_filter→L8,nodup_cons→Ma,map_congr_left→Md,append_nil→Me,length_range→Mh,mem_append_left→Mi,range'→Mj,any_cons→Ml,length_singleton→Mn,perm_ext_iff_of_nodup→Ms,find?_cons→Mz,getD→MB,getElem?_cons_succ→MC,getElem?_cons_zero→MD,nodup_range→ME,filter_cons_of_neg→MF,filter_cons_of_pos→MG,filterMap_cons→MM,sum_cons→MW,range_eq_range'→MX,filter_eq_self→M7,drop_eq_nil_of_le→M8,lookup_cons→Nc,drop_eq_getElem_cons→Ni,range_succ→Nl,length_take→Nt,all_eq_true→Nu,getElem_mem→Nw,not_mem_nil→Nx,mem_flatMap→Ny,take_of_length_le→NC,length_filter_le→NH,flatMap_cons→NL,getElem?_take_of_lt→NU,mem_append→NW,append_assoc→Oe,pairwise_lt_range→Oj,contains_iff_mem→On,ext_getElem→Ot,length→OC,mem_of_getElem?→OD,length_nil→OJ,lookup_append→OR,filter_append→OV,perm_append_singleton→OW,getLast?_eq_getElem?→OZ,pairwise_map→O4,range'_eq_map_range→Pc,length_drop→Pd,range'_succ→Ph,perm_middle→Pl,map_flatMap→Pm,range_succ_eq_map→Pq,any_map→Pt,of_mem_zip→Py,length_set→Pz,forIn_cons→PB,foldl_cons→PC,sum_append→PD,length_replicate→PH,take_append_drop→PR,mem_iff_getElem→P2,getElem_toArray→P3,getElem_of_mem→Qn,Pairwise→Qw,mem_filterMap→QC,length_range'→QJ,map_nil→QQ,getElem?_set→Q0,any_nil→Q2,nodup_append→Q3,ext_getElem?→Q5,mem_range'_1→Q7,getElem_inj→Q9,any_eq_true→Rl,mapM_cons→Sb,map→Sc,all_cons→Sz,map_take→SI,map_drop→SJ,map_set→TH
open PySem.Heap renaming get?_push_of_some→K3,lt_size→Lh,get?_push_size→Lj,get?_update_other→LR,size_push→Mr,get?_update_self→My,SameBut→MK,get?_none_of_le→PU,get?_push_ne→QZ,ExtBut→Ru
open Nat renaming le_of_ble_eq_true→K4,le_refl→Ld,lt_of_lt_of_le→Li,ne_of_lt→LF,le_trans→LW,lt_succ_self→LY,not_lt→M3,zero_le→Na,zero_add→No,lt_irrefl→Np,le_succ→Nz,ne_of_gt→NA,le_of_succ_le→NK,le_of_lt→NP,lt_of_le_of_lt→N3,not_lt_zero→OG,le_max_right→Pf,lt_trans→Px,min_eq_left→PF,min_eq_right→Rm,mod_lt→R4,sub_self→TR,log2_lt→U6
open Option renaming bind_some→K6,bind_eq_some_iff→Lo,map_eq_some_iff→Mu,map_some→MP,bind→Nn,isSome_some→QE,getD_none→Rg,none→UI
open PySem.W renaming Frag→K7,keepIn→Ly,codeIn→LD,nsIn→LN,mg_of→LO,fnOf→L4,mg_none_of→M9,findIn→NN,hideAll→Oo,mroIn→OA,excIn→Qc,Looks→Qd,hideAll_get→Qo,of_hideAll→QL,clsIn→Q1,cellsFrom_some→Re,methodObj→Rn,hideAll_none→RH,typeIn→R7,InstAt→R9,looks_mroIn→SG,OpenLaw→SQ,callWith_K→Tg,specialIn→Va
open Bool renaming and_eq_true→Lk,eq_iff_iff→LI,not_eq_true'→M0,or_eq_true→NY,false_ne_true→N0,false_eq_true→N4,or_false→Oz,true_and→O7,false_or→Qv,not_eq_true→Rk
open Ne renaming symm→Lw
open Option.some renaming inj→LH
open PySem.PassesOwn renaming never→L6
open Int renaming toNat_natCast→Mb,mul_le_mul_of_nonneg_left→MY,emod_eq_of_lt→Ol,mul_sub→OF,mul_neg→P7,sub_eq_add_neg→QI,sub_emod→Q4,ediv_nonneg→RC,sub_eq_zero→RD,mul_assoc→SK,mul_comm→TQ,mul_zero→TU,add_zero→TV,sub_mul→Ve,not_le→WE
open PySem.Value renaming ref→Mf,none→Mq,int→P8,isStrOf→Sr,str→SL,isInt→Uy,bool→VX,type→VY
open Or renaming inr→Mk,inl→MQ
open List.Mem renaming tail→Mm,head→Mt
open PySem.Builtin.SmallTypes renaming nextOf→Mw,ownedTupleHandOut→NS,ownedTupleIsFree→NV
open PyProof.Rows renaming callWith_type1→MH,envOfC→NF,AllBare→NI,assignInOrder_cons→ON,subscriptTail_builtinR→Pn,IntsAre→Qb,subscriptTail→Qr,assignInOrder_nil→QM,callWith_builtin1→Rf,Subscript_→RT
open PySem.NameKind renaming free→MJ,cell→NE
open PySem.Obj renaming isFreed_of_fields→MR,mapFields→Nb,data_mapFields→N5,mapSeq→Po
open PySem.F renaming slot_list_append→MU,type_list_append→MV,slot_tuple_iterator_next→Ng,slot_enumerate_next→NG,args_tuple_iterator_next_1→OH,entry_tuple_iterator_next→OL,slot_tuple_index→O6,slot_list_insert→O8,type_list_insert→O9,args_enumerate_next_1→Pi,entry_enumerate_next→Pv,typeCall_enumerate_1→Pw,newCall_enumerate_1→PP,entry_enumerate_new→PQ,args_object_init_2→P4,excBase_ValueError→P5,called_enumerate→QF
open PySem.SeqAt renaming EqAt→Nf,RcNeAt→QY,RcAt→RW
open Array renaming getElem?_eq_some_iff→Nh,length_toList→Nr,append_assoc→Qz,toList→S7
open PySem.Builtin.Range renaming rangeSize→N6
open Nat.succ renaming inj→Oi
open List.Perm renaming refl→Om
open And renaming intro→Oq
open PySem.SetTable renaming leap→Ou,runEnd→Rw,bits→So
open Sum renaming inl→Ov,inr→P9
open PySem.Value.ref renaming inj→OB
open PySem.Calls renaming Name_function_global→OM,spliced_cons→OQ,evalArgs_plain→PX,spliced_nil→QN
open PySem.SeqAt.EqAt renaming of_refs→OS,tuple_list→PK,none_list→PY,bool_list→PZ,int_list→Qg,str_list→Qh,int_str→Qx,str_int→Qy,same→Ry,none_tuple→T3,bool_tuple→T4,tuple_none→T5,tuple_bool→T6,list_tuple→T7,none_bool→UJ,bool_none→UK,bool_bool→UL,int_tuple→UM,str_tuple→UN,tuple_int→UO,tuple_str→UP,list_none→UQ,list_bool→UR,none_int→Vr,none_str→Vs,bool_int→Vt,bool_str→Vu,int_none→Vv,int_bool→Vw,str_none→Vx,str_bool→Vy,list_int→Vz,list_str→VA,int_int→Wi,str_str→Wj,of_in1→WV
open PySem.Challenge renaming pw_rookborders_k15_whole_ties_stay→OU,rw_rookborders_k15_whole_ties_stay→OY
open PySem.Paired renaming length→O5,snoc→Vb
open List.Pairwise renaming imp_of_mem→Pa,filter→P6,nil→QW,and_mem→Uw,imp→W8,map→Xa
open PySem.SeqAt.RcNeAt renaming tuple_list→Pg,none_list→Pr,bool_list→Ps,int_list→PM,str_list→PN,lists_lengths→RX,none_tuple→SV,bool_tuple→SW,tuple_none→SX,tuple_bool→SY,list_tuple→SZ,none_none→Tq,none_bool→Tr,bool_none→Ts,bool_bool→Tt,int_tuple→Tu,str_tuple→Tv,tuple_int→Tw,tuple_str→Tx,list_none→Tz,list_bool→TC,none_int→Ud,none_str→Ue,bool_int→Uf,bool_str→Ug,int_none→Uh,int_bool→Ui,str_none→Uj,str_bool→Uk,list_int→Ul,list_str→Um,int_int→U2,int_str→U3,str_int→U4,str_str→U5,tuples→Vq,lists→Wh
open Classical renaming propDecidable→Pk
open PySem.Str renaming ofString→Pu
open PySem.SeqAt.RcAt renaming tuple_list→PL,none_list→P0,bool_list→P1,int_list→Qi,str_list→Qj,lists_lengths→SA,none_tuple→T8,bool_tuple→T9,tuple_none→Ua,tuple_bool→Ub,list_tuple→Uc,none_none→US,none_bool→UT,bool_none→UU,bool_bool→UV,int_tuple→UW,str_tuple→UX,tuple_int→UY,tuple_str→UZ,list_none→U0,list_bool→U1,none_int→VB,none_str→VC,bool_int→VD,bool_str→VE,int_none→VF,int_bool→VG,str_none→VH,str_bool→VI,list_int→VJ,list_str→VL,int_int→Wk,int_str→Wm,str_int→Wn,str_str→Wo,tuples→WT,lists→Xt
open PySem.Builtin.Int renaming intBits→Qk
open PySem.Heap.SameBut renaming update→Ql
open PySem.EntryCells renaming newEntry→Qm
open PySem.Builtin.List renaming listFitsIndex→R6
open PySem.Builtin.Tuple renaming tupleHashOf→Sd
open PySem.Heap.UpToSlots renaming of_keeps→S5
open PySem.Heap.IsSliceOf renaming new→V9
open PySem.W.WShape renaming has→We
open PySem.Walks renaming list→Wq
open PySem.W.Looks renaming ld→Ww
open PySem.Flow renaming next→Xh
open PyProof.Rows.IsTup renaming new→Xi
open PySem.W.WData renaming int→Xq
open PySem.Heap.DictOf renaming new→X9
namespace L2
open PySem
abbrev Pb:=SetTable.Probe
def KG(mask:Nat)(p:Pb):Pb:=
 if p.more>0 then {p with j:=p.j+1,more:=p.more-1} else
 {p with j:=(Ou mask p.i p.perturb).1,more:=Rw mask (Ou mask p.i p.perturb).1- (Ou mask p.i p.perturb).1,i:=(Ou mask p.i p.perturb).1,perturb:=(Ou mask p.i p.perturb).2}
def HQ(mask i perturb:Nat)(d:Option Nat):Pb:={j:=i,more:=Rw mask i-i,i:=i,perturb:=perturb,dummy:=d}
def Ih(mask:Nat):Nat->Pb->Pb
 |0,p=>p
 |n+1,p=>Ih mask n (KG mask p)
def KD(mask:Nat)(h:Int)(d:Option Nat):Pb:=HQ mask (So h % (mask+1)) (So h) d
def Jx(mask:Nat)(h:Int)(m:Nat):Nat:=(Ih mask m (KD mask h none)).j
def Kn(xs:Array Nat):Prop:=xs.toList.Pairwise (·< ·)
structure TOk(t:Ux)(hs:List Int):Prop where
 pw: ∃k,3<=k/\k<=12/\t.mask+1=2^k
 sz:t.place.size=hs.length
 sp:Kn t.place
 sd:Kn t.dummies
 lp: ∀j∈t.place.toList,j<=t.mask
 ld: ∀j∈t.dummies.toList,j<=t.mask
 dj: ∀j∈t.dummies.toList,j∉t.place.toList
 fl:t.fill<=t.mask
 rc: ∀x∈hs.zip t.place.toList,∃m,Jx t.mask x.1 m=x.2/\ ∀m',m'<m->Jx t.mask x.1 m'∈t.place.toList\/Jx t.mask x.1 m'∈t.dummies.toList
open PySem PySem.Spec PyProof.Rows
def th(ks:List Int):Int:=reduceHash (Sd (ks.map hashInt))
def KJ(x:List Int×Addr):Int×Value:=(th x.1,.ref x.2)
abbrev J9:=List (List Int×Addr)
def KK(xs:J9):List Int:=xs.map λx=>th x.1
structure SetAt(w:L1)(o:Obj)(es:Array (Int×KU))(ep:Nat)(t:Ux)(xs:J9):Prop where
 ex:o.ExactSet
 hd:o.data=.set es ep t
 he:es.toList=xs.map KJ
 T:TOk t (KK xs)
 led:t.led= !w.params.followText "set-order"
 pl:t.plain=true
 nd:(xs.map (·.1)).Nodup
structure SetOk(w:L1)(o:Obj)(es:Array (Int×KU))(ep:Nat)(t:Ux)(xs:J9):Prop extends SetAt w o es ep t xs where
 f5:t.fill*5<t.mask*3
abbrev cv:=Sum Int Str
def sj:cv->KU->Bool
 | .inl k,v=>Uy k v
 | .inr x,v=>Sr x v
def Ke(w:L1):cv->Int
 | .inl k=>hashInt k
 | .inr x=>hashStr w x
theorem dG: ∀ {k:cv} {v:KU},sj k v=true->(∃i t,k=Ov i/\v=P8 i t)\/(∃x t,k=P9 x/\v=SL x t)
 | .inl i,v,h=>by
   obtain⟨t,e⟩:=Value.isInt_shape (k:=i) (v:=v) h
   exact .inl ⟨i,t,rfl,e⟩
 | .inr x,v,h=>by
   obtain⟨t,e⟩:=Value.isStrOf_shape (x:=x) (v:=v) h
   exact .inr ⟨x,t,rfl,e⟩
theorem ze(i:Int)(t:Tok):sj (.inl i) (.int i t)=true:=by simp[sj,Uy]
theorem zl(x:Str)(t:Tok):sj (.inr x) (.str x t)=true:=by simp[sj,Sr]
theorem GN(a b:Int):decide ((Ov a:cv)=Ov b)=(a==b):=by
 by_cases e:a=b
 ·subst e;simp
 ·have h: ¬(Ov a:cv)=Ov b:=λq=>e (Sum.inl.inj q)
  rw[decide_eq_false h];exact(beq_eq_false_iff_ne.mpr e).symm
theorem GV(a b:Str):decide ((P9 a:cv)=P9 b)=decide (a=b):=by
 by_cases e:a=b
 ·subst e;simp
 ·have h: ¬(P9 a:cv)=P9 b:=λq=>e (Sum.inr.inj q)
  rw[decide_eq_false h,decide_eq_false e]
theorem Gr(a:Int)(b:Str):decide ((Ov a:cv)=P9 b)=false:=decide_eq_false (λq=>nomatch q)
theorem Gy(a:Str)(b:Int):decide ((P9 a:cv)=Ov b)=false:=decide_eq_false (λq=>nomatch q)
def eU(prog:LB)(w:L1):PySem.KeyKind prog w cv where
 is:=sj
 hash:=Ke w
 inj:=λv a b ha hb=>by
  rcases dG ha with⟨i,t,rfl,rfl⟩|⟨x,t,rfl,rfl⟩
  ·rcases dG hb with⟨j,u,rfl,e⟩|⟨y,u,rfl,e⟩
   ·injection e with e1 _;rw[e1]
   ·exact nomatch e
  ·rcases dG hb with⟨j,u,rfl,e⟩|⟨y,u,rfl,e⟩
   ·exact nomatch e
   ·injection e with e1 _;rw[e1]
 byValue:=λk v h=>by
  rcases dG h with⟨i,t,rfl,rfl⟩|⟨x,t,rfl,rfl⟩<;>rfl
 pyHash:=λhv h=>by
  rcases dG hv with⟨i,t,rfl,rfl⟩|⟨x,t,rfl,rfl⟩
  ·exact wpAny_pyHash_int h
  ·exact wpAny_pyHash_str h
 eqBool:=λhu hv h=>by
  rcases dG hu with⟨i,t,rfl,rfl⟩|⟨x,t,rfl,rfl⟩
  ·rcases dG hv with⟨j,u,rfl,rfl⟩|⟨y,u,rfl,rfl⟩
   ·rw[GN] at h;exact wpAny_eqBool_int h
   ·rw[Gr] at h;exact Qx i t y u _ _ _ _ h
  ·rcases dG hv with⟨j,u,rfl,rfl⟩|⟨y,u,rfl,rfl⟩
   ·rw[Gy] at h;exact Qy x t j u _ _ _ _ h
   ·rw[GV] at h;exact wpAny_eqBool_str h
 «strs»:=λk x t v h=>by
  rcases dG h with⟨i,u,rfl,e⟩|⟨y,u,rfl,e⟩
  ·exact nomatch e
  ·injection e with e1 _
   subst e1;cases v<;>rfl
theorem ux(prog:LB)(w:L1)(i:Int)(t:Tok):(eU prog w).is (.inl i) (.int i t)=true:=ze i t
theorem vq(prog:LB)(w:L1)(x:Str)(t:Tok):(eU prog w).is (.inr x) (.str x t)=true:=zl x t
inductive V where
 |non|bl (b:Bool)|int (i:Int)|str (x:Str)|byt (b:Array UInt8)|flt (b:UInt64)|ref (a:Addr)|ty (n:String)
 deriving DecidableEq
def RelV:V->KU->Prop
 | .non,u=>u=Mq
 | .bl b,u=>u=VX b
 | .int i,u=> ∃t,u=P8 i t
 | .str x,u=> ∃t,u=SL x t
 | .byt b,u=> ∃t,u=Value.bytes b t
 | .flt b,u=> ∃t,u=Value.float b t
 | .ref a,u=>u=Mf a
 | .ty n,u=>u=VY n
abbrev Vals:List V->List KU->Prop:=Paired RelV
theorem Vals.length {xs:List V}{us:List KU}(r:Vals xs us):xs.length=us.length:=O5 r
theorem Vals.get: ∀ {xs:List V} {us:List KU} {i:Nat} {x:V},Vals xs us->xs[i]? =some x-> ∃u,us[i]? =some u/\RelV x u
 |_,_,_,_,.nil,e=>by simp at e
 |_,_,0,_,.cons r _,e=>by simp at e;subst e;exact⟨_,rfl,r⟩
 |_,_,i+1,x,.cons _ t,e=>by
  obtain⟨u,h1,h2⟩:=Vals.get (i:=i) (x:=x) t (by simpa using e)
  exact⟨u,by simpa using h1,h2⟩
theorem Vals.set {x:V}{u:KU}(r:RelV x u): ∀ {xs:List V} {us:List KU} (i:Nat),Vals xs us->Vals (xs.set i x) (us.set i u)
 |_,_,_,.nil=>.nil
 |_,_,0,.cons _ t=>.cons r t
 |_,_,i+1,.cons q t=>.cons q (Vals.set r i t)
theorem Vals.append: ∀ {xs ys:List V} {us ws:List KU},Vals xs us->Vals ys ws->Vals (xs++ys) (us++ws)
 |_,_,_,_,.nil,s=>s
 |_,_,_,_,.cons r t,s=>.cons r (Vals.append t s)
theorem Vals.take: ∀ {xs:List V} {us:List KU} (n:Nat),Vals xs us->Vals (xs.take n) (us.take n)
 |_,_,0,_=>.nil
 |_,_,_+1,.nil=>.nil
 |_,_,n+1,.cons r t=>.cons r (Vals.take n t)
theorem Vals.drop: ∀ {xs:List V} {us:List KU} (n:Nat),Vals xs us->Vals (xs.drop n) (us.drop n)
 |_,_,0,r=>r
 |_,_,_+1,.nil=>.nil
 |_,_,n+1,.cons _ t=>Vals.drop n t
def RelO:Option V->Option KU->Prop
 |some v,some u=>RelV v u
 |none,none=>True
 |_,_=>False
def KV {κ:Type}:List (κ×V)->List (κ×KU)->Prop:=Paired λ(p:κ×V) (q:κ×KU)=>p.1=q.1/\RelV p.2 q.2
def kV:cv->V
 | .inl i=>.int i
 | .inr x=>.str x
inductive HO where
 |lst (xs:List V)
 |tup (xs:List V)
 |dK (kvs:List (cv×V))|dT (kvs:List (List cv×V))
 |set (S:Int->Bool) (n:Nat)
 |tst (xs:List (List Int×Addr))
 |ins (C dx:Addr) (fs:List (Str×V))
 |own (x:Addr)
 |xd (fs:List (Str×V))
 |met (f x:Addr)
 |rng (lo hi:Int)
 |frz (o:Obj) (u:HO)
 |nst (p:Addr) (u:HO)
 |tbl (ps:Array KU)
 |ext (φ:Heap->Prop)
abbrev Hp:=Addr->Option HO
def bI(H:Hp)(a:Addr)(o:HO):Hp:=λb=>if b=a then some o else H b
theorem aP {H:Hp}{a:Addr}{o:HO}:bI H a o a=some o:=by unfold bI;rw[if_pos rfl]
theorem aF {H:Hp}{a b:Addr}{o:HO}(h:b≠a):bI H a o b=H b:=by unfold bI;rw[if_neg h]
theorem tJ {H:Hp}{a:Addr}{o u:HO}:bI (bI H a o) a u=bI H a u:=by
 funext b;unfold bI;split<;>rfl
theorem HM {H:Hp}{a b:Addr}{o u:HO}(h:H a=some o)(h':H b=some u)(d:o≠u):a≠b:=by
 intro e;subst e;rw[h] at h';exact d (LH h')
theorem bT {H:Hp}{a b:Addr}{o:HO}(h:H a=some o)(h':H b=none):a≠b:=by
 intro e;subst e;rw[h] at h';cases h'
section
variable(P:LB)(w:L1)
def ObjOk(H:Hp)(h:Heap)(a:Addr):HO->Prop
 | .lst xs=>xs.length<=Lm/\ ∃(its:List KU) (n:Nat),Vals xs its/\h.get? a=some {cls:=.type "list",data:=.seq its.toArray n}
 | .tup xs=>xs.length<=Lm/\ ∃its:List KU,Vals xs its/\IsTup h a its.toArray/\ ∃o,h.get? a=some o/\o.dict=none
 | .dK kvs=>kvs.length<=Lm/\(a==M1)=false/\ ∃vs,KV kvs vs/\h.DictOf (eU P w) a vs
 | .dT kvs=>kvs.length<=Lm/\(a==M1)=false/\ ∃xs:List (List cv×Addr×KU),
    Paired (λ(p:List cv×V) (q:List cv×Addr×KU)=>p.1=q.1/\H q.2.1=some (.tup (p.1.map kV))/\RelV p.2 q.2.2) kvs xs/\
    ∃o es ep,h.get? a=some o/\o.ExactDict/\o.data=.dict es ep/\es.toList=xs.map (entryOfKey (Qa (eU P w)))/\(xs.map (·.1)).Nodup
 | .set S n=>h.SetOf (intKind P w) a S n
 | .tst xs=> ∃o es ep t,h.get? a=some o/\SetOk w o es ep t xs
 | .ins C dx fs=>H dx=some (.own a)/\fs.length<=1000/\dx≠a/\h.get? a=some (W.instObj C dx)/\
    ∃mA,h.Ns1 dx mA/\(∀f,RelO (fs.lookup f) (mA f))/\PySem.Within mA (fs.map (·.1))
 | .own _=> ∃o,h.get? a=some o
 | .xd fs=> ∃mA,h.Ns1 a mA/\ ∀f,RelO (fs.lookup f) (mA f)
 | .rng lo hi=> ∃t u v,h.get? a=some {cls:=.type "range",data:=.fields #[.int lo t,.int hi u,.int 1 v]}
 | .frz o u=>h.get? a=some o/\ObjOk H h a u
 | .nst _ u=>ObjOk H h a u
 | .tbl ps=>h.get? a=some {cls:=.none,data:=.fields ps}
 | .met f x=>h.get? a=some (Rn (.ref f) (.ref x))
 | .ext φ=>φ h/\(∃o,h.get? a=some o)/\ ∀h1 h2:Heap,φ h1->(∀o,h1.get? a=some o->h2.get? a=some o)->φ h2
def HOk(H:Hp)(h:Heap):Prop:= ∀a o,H a=some o->ObjOk P w H h a o
end
section
variable {P:LB}{w:L1}{H H':Hp}{h h':Heap}{a:Addr}{o:HO}
theorem ObjOk.lt(x:ObjOk P w H h a o):a<h.objs.size:=by
 induction o with
 |lst xs=>obtain⟨_,_,_,_,e⟩:=x;exact Lh e
 |tup xs=>obtain⟨_,_,_,p,_⟩:=x;exact p.lt
 |dK kvs=>obtain⟨_,_,_,_,o,_,_,e,_⟩:=x;exact Lh e
 |dT kvs=>obtain⟨_,_,_,_,o,_,_,e,_⟩:=x;exact Lh e
 |set S n=>obtain⟨o,_,_,_,e,_⟩:=x;exact Lh e
 |tst xs=>obtain⟨o,_,_,_,e,_⟩:=x;exact Lh e
 |ins C dx fs=>obtain⟨_,_,_,e,_⟩:=x;exact Lh e
 |own y=>obtain⟨_,e⟩:=x;exact Lh e
 |xd fs=>obtain⟨_,⟨_,_,_,e,_⟩,_⟩:=x;exact Lh e
 |rng lo hi=>obtain⟨_,_,_,e⟩:=x;exact Lh e
 |frz ob u ih=>obtain⟨e,_⟩:=x;exact Lh e
 |nst p u ih=>exact ih x
 |tbl ps=>exact Lh (show h.get? a=some _ from x)
 |met f y=>exact Lh (show h.get? a=some _ from x)
 |ext φ=>obtain⟨_,⟨_,e⟩,_⟩:=x;exact Lh e
theorem Paired.mapP {α β:Type}{F G:α->β->Prop}: ∀ {l₁:List α} {l₂:List β},Paired F l₁ l₂->(∀a b,F a b->G a b)->Paired G l₁ l₂
 |_,_,.nil,_=>.nil
 |_,_,.cons r t,f=>.cons (f _ _ r) (Paired.mapP t f)
theorem ObjOk.stay(x:ObjOk P w H h a o)(k: ∀b u,(b=a\/H b=some (.own a))->h.get? b=some u->h'.get? b=some u)
 (ho: ∀b,H b=some (.own a)->H' b=some (.own a)) (ht: ∀b xs,H b=some (.tup xs)->H' b=some (.tup xs)):ObjOk P w H' h' a o:=by
 induction o with
 |lst xs=>obtain⟨z,its,n,r,e⟩:=x;exact⟨z,its,n,r,k _ _ (.inl rfl) e⟩
 |tup xs=>obtain⟨z,its,r,⟨ob,e,c⟩,ob2,e2,c2⟩:=x;exact⟨z,its,r,⟨ob,k _ _ (.inl rfl) e,c⟩,ob2,k _ _ (.inl rfl) e2,c2⟩
 |dK kvs=>obtain⟨z,y,vs,r,ob,es,ep,e,c⟩:=x;exact⟨z,y,vs,r,ob,es,ep,k _ _ (.inl rfl) e,c⟩
 |dT kvs=>
  obtain⟨z,y,xs,r,ob,es,ep,e,c⟩:=x
  exact⟨z,y,xs,Paired.mapP r λp q z=>⟨z.1,ht _ _ z.2.1,z.2.2⟩,ob,es,ep,k _ _ (.inl rfl) e,c⟩
 |set S n=>obtain⟨ob,es,ep,t,e,c⟩:=x;exact⟨ob,es,ep,t,k _ _ (.inl rfl) e,c⟩
 |tst xs=>obtain⟨ob,es,ep,t,e,c⟩:=x;exact⟨ob,es,ep,t,k _ _ (.inl rfl) e,c⟩
 |ins C dx fs=>
  obtain⟨d,z,ne,e,mA,⟨od,es,ep,e2,c⟩,r⟩:=x
  exact⟨ho _ d,z,ne,k _ _ (.inl rfl) e,mA,⟨od,es,ep,k _ _ (.inr d) e2,c⟩,r⟩
 |own y=>obtain⟨ob,e⟩:=x;exact⟨ob,k _ _ (.inl rfl) e⟩
 |xd fs=>obtain⟨mA,⟨od,es,ep,e,c⟩,r⟩:=x;exact⟨mA,⟨od,es,ep,k _ _ (.inl rfl) e,c⟩,r⟩
 |rng lo hi=>obtain⟨t,u,v,e⟩:=x;exact⟨t,u,v,k _ _ (.inl rfl) e⟩
 |frz ob u ih=>obtain⟨e,q⟩:=x;exact⟨k _ _ (.inl rfl) e,ih q⟩
 |nst p u ih=>exact ih x
 |tbl ps=>
  have e:h.get? a=some {cls:=.none,data:=.fields ps}:=x
  show h'.get? a=some {cls:=.none,data:=.fields ps};exact k a _ (.inl rfl) e
 |met f y=>
  have e:h.get? a=some (Rn (.ref f) (.ref y)):=x
  show h'.get? a=some (Rn (.ref f) (.ref y));exact k a _ (.inl rfl) e
 |ext φ=>obtain⟨p,⟨o,e⟩,st⟩:=x;exact⟨st _ _ p λo q=>k _ _ (.inl rfl) q,⟨o,k _ _ (.inl rfl) e⟩,st⟩
theorem HOk.lt(x:HOk P w H h)(e:H a=some o):a<h.objs.size:=(x a o e).lt
theorem HOk.fresh(x:HOk P w H h)(e:h.objs.size<=a):H a=none:=by
 cases q:H a with
 |none=>rfl
 |some u=>exact absurd (Li (x.lt q) e) (Np _)
theorem HOk.kept(x:HOk P w H h)(k: ∀b u,h.get? b=some u->h'.get? b=some u):HOk P w H h':=λa o e=>
 (x a o e).stay (λb u _ q=>k b u q) (λ_ q=>q) λ_ _ q=>q
theorem HOk.laid(x:HOk P w H h)(k: ∀b u,h.get? b=some u->h'.get? b=some u)(hp:h.objs.size<=a)(new:ObjOk P w (bI H a o) h' a o):HOk P w (bI H a o) h':=λb u e=>by
 have hn:=x.fresh hp
 by_cases hb:b=a
 ·subst hb;rw[aP] at e;cases e;exact new
 ·rw[aF hb] at e
  exact(x b u e).stay (λc v _ q=>k c v q) (λc q=>by rw[aF (bT q hn)];exact q) λc xs q=>by rw[aF (bT q hn)];exact q
end
def Rd(H:Hp)(a:Addr)(u:HO):Prop:=H a=some u\/ ∃o,H a=some (.frz o u)
theorem Rd.ok {P:LB}{w:L1}{H:Hp}{h:Heap}{a:Addr}{u:HO}(r:Rd H a u)(x:HOk P w H h):ObjOk P w H h a u:=by
 rcases r with r|⟨o,r⟩
 ·exact x a u r
 ·obtain⟨_,q⟩:=x a _ r
  exact q
def G6:Option HO->Prop
 |some (.lst _)=>True
 |some (.dK _)=>True
 |some (.dT _)=>True
 |some (.set _ _)=>True
 |some (.tst _)=>True
 |some (.ins _ _ _)=>True
 |some (.ext _)=>True
 |some (.nst _ _)=>True
 |_=>False
section
variable {P:LB}{w:L1}{H:Hp}{h h':Heap}{x e:Addr}{o':HO}
theorem HOk.write(ok:HOk P w H h)(mu:G6 (H x))(he:e=x\/H e=some (.own x))(k: ∀b u,b≠e->h.get? b=some u->h'.get? b=some u)(heo: ∃u,h'.get? e=some u)
 (new:ObjOk P w (bI H x o') h' x o'):HOk P w (bI H x o') h':=λb u q=>by
 have nown: ∀c y,H c=some (.own y)->c≠x:=λc y r z=>by subst z;rw[r] at mu;exact mu
 have ntup: ∀c xs,H c=some (.tup xs)->c≠x:=λc xs r z=>by subst z;rw[r] at mu;exact mu
 by_cases hb:b=x
 ·subst hb;rw[aP] at q;cases q;exact new
 ·rw[aF hb] at q
  by_cases hbe:b=e
  ·have q':H b=some (.own x):=by
    rcases he with z|z
    ·exact absurd (hbe.trans z) hb
    ·rw[hbe];exact z
   rw[q] at q';cases q';obtain⟨v,hv⟩:=heo
   exact⟨v,by rw[hbe];exact hv⟩
  ·refine(ok b u q).stay (λc v hc r=>k c v ?_ r) (λc r=>by rw[aF (nown c b r)];exact r) λc xs r=>by rw[aF (ntup c xs r)];exact r
   rcases hc with rfl|hc
   ·exact hbe
   ·rintro rfl
    rcases he with z|z
    ·exact nown c b hc z
    ·rw[hc] at z;cases z;exact hb rfl
end
structure Un(fs ex:List Addr)(H H':Hp)(h h':Heap):Prop where
 keep: ∀b o,h.get? b=some o->H b=none->b∉fs->b∉ex->h'.get? b=some o
 slot: ∀b o,h.get? b=some o->H b=none->b∈fs->b∉ex-> ∃sl,h'.get? b=some {o with slots:=sl}
 free: ∀b o,h.get? b=some o->H b=none->b∉ex->H' b=none
 there: ∀b o,h.get? b=some o->b∉ex-> ∃o',h'.get? b=some o'
 tups: ∀b xs,H b=some (.tup xs)->H' b=some (.tup xs)
 frzs: ∀b o u,H b=some (.frz o u)->H' b=some (.frz o u)
 tbls: ∀b ps,H b=some (.tbl ps)-> ∃more,H' b=some (.tbl (ps++more))
section
variable {fs fs' ex ex':List Addr}{H H1 H2:Hp}{h h1 h2 h':Heap}{a x e:Addr}{o:HO}
theorem Un.any(u:Un fs ex H H1 h h1){b:Addr}{ob:Obj}(q:h.get? b=some ob)(n:H b=none)(hx:b∉ex): ∃sl,h1.get? b=some {ob with slots:=sl}:=by
 by_cases hb:b∈fs
 ·exact u.slot b ob q n hb hx
 ·exact⟨ob.slots,u.keep b ob q n hb hx⟩
theorem Un.trans(a:Un fs ex H H1 h h1)(b:Un fs ex H1 H2 h1 h2):Un fs ex H H2 h h2 where
 keep:=λc ob q n hc hx=>b.keep c ob (a.keep c ob q n hc hx) (a.free c ob q n hx) hc hx
 slot:=λc ob q n hc hx=>by
  obtain⟨sl,e1⟩:=a.slot c ob q n hc hx
  obtain⟨sl',e2⟩:=b.slot c _ e1 (a.free c ob q n hx) hc hx
  exact⟨sl',e2⟩
 free:=λc ob q n hx=>by
  obtain⟨o',e1⟩:=a.there c ob q hx
  exact b.free c o' e1 (a.free c ob q n hx) hx
 there:=λc ob q hx=>by
  obtain⟨o',e1⟩:=a.there c ob q hx
  exact b.there c o' e1 hx
 tups:=λc xs q=>b.tups c xs (a.tups c xs q)
 frzs:=λc ob xs q=>b.frzs c ob xs (a.frzs c ob xs q)
 tbls:=λc ps q=>by
  obtain⟨m1,e1⟩:=a.tbls c ps q
  obtain⟨m2,e2⟩:=b.tbls c _ e1
  exact⟨m1++m2,by rw[e2,Qz]⟩
theorem Un.kept(k: ∀b u,h.get? b=some u->h'.get? b=some u):Un fs ex H H h h':=
 ⟨λb ob q _ _ _=>k b ob q,λb ob q _ _ _=>⟨ob.slots,k b ob q⟩,λ_ _ _ n _=>n,λb ob q _=>⟨ob,k b ob q⟩,λ_ _ q=>q,λ_ _ _ q=>q,λ_ ps q=>⟨#[],by rw[q];simp⟩⟩
theorem Un.refl:Un fs ex H H h h:=Un.kept λ_ _ q=>q
theorem Un.laid(k: ∀b u,h.get? b=some u->h'.get? b=some u)(hp:h.objs.size<=a)(hn:H a=none):Un fs ex H (bI H a o) h h' where
 keep:=λb u q _ _ _=>k b u q
 slot:=λb u q _ _ _=>⟨u.slots,k b u q⟩
 free:=λb u q n _=>by rw[aF (LF (Li (Lh q) hp))];exact n
 there:=λb u q _=>⟨u,k b u q⟩
 tups:=λb xs q=>by rw[aF (bT q hn)];exact q
 frzs:=λb u xs q=>by rw[aF (bT q hn)];exact q
 tbls:=λb ps q=>⟨#[],by rw[aF (bT q hn),q];simp⟩
theorem Un.write(mu:G6 (H x))(he:e=x\/H e=some (.own x))(k: ∀b u,b≠e->h.get? b=some u->h'.get? b=some u)(heo: ∃u,h'.get? e=some u):Un fs ex H (bI H x o) h h':=by
 have hx: ∀b,H b=none->b≠x:=λb n z=>by subst z;rw[n] at mu;exact mu
 have hb: ∀b,H b=none->b≠e:=λb n z=>by
  subst z;rcases he with r|r
  ·exact hx b n r
  ·rw[n] at r;cases r
 have hm: ∀b u,H b=some u-> ¬G6 (some u)->b≠x:=λb u q nm z=>by subst z;rw[q] at mu;exact nm mu
 refine⟨λb u q n _ _=>k b u (hb b n) q,λb u q n _ _=>⟨u.slots,k b u (hb b n) q⟩,λb u q n _=>by rw[aF (hx b n)];exact n,λb u q _=>?_,
  λb xs q=>by rw[aF (hm b _ q λz=>z)];exact q,λb u xs q=>by rw[aF (hm b _ q λz=>z)];exact q,λb ps q=>⟨#[],by rw[aF (hm b _ q λz=>z),q];simp⟩⟩
 by_cases hbe:b=e
 ·subst hbe;exact heo
 ·exact⟨u,k b u hbe q⟩
end
def trk(h:Heap)(H:Hp):List Addr:=(KW h.objs.size).filter λa=>(H a).isSome
def uk(h:Heap)(H:Hp):Heap:=Oo h (trk h H)
theorem yS(h:Heap)(H:Hp):(uk h H).objs.size=h.objs.size:=W.hideAll_size _ _
theorem CN {h:Heap}{H:Hp}{b:Addr}{o:Obj}(e:h.get? b=some o)(n:H b=none):(uk h H).get? b=some o:=
 Qo _ e λhm=>by
  have q:(H b).isSome=true:=(L8.mp hm).2
  rw[n] at q;simp at q
theorem EZ {h:Heap}{H:Hp}{b:Addr}{o:Obj}(e:(uk h H).get? b=some o):h.get? b=some o/\H b=none:=by
 have e':h.get? b=some o:=QL (trk h H) e
 refine⟨e',?_⟩
 cases q:H b with
 |none=>rfl
 |some x=>
  have hm:b∈trk h H:=L8.mpr ⟨La.mpr (Lh e'),by simp[q]⟩
  have z:(uk h H).get? b=none:=RH (trk h H) hm
  rw[z] at e;cases e
structure Mod(K:K7)(mg:Str->Option KU)(base:Heap):Prop where
 kin:K.In base
 glob:base.Ns K8 mg
 blt: ∃mb,base.Ns QB mb/\ ∀x:Str,x≠"__name__"->mb x=Nm x
 nolimit:base.NoLimit
structure Cx where
 prog:LB
 w:L1
 K:K7
 mg:Str->Option KU
 base:Heap
 A:LC
 N:List Str
 s₀:KZ
 H₀:Hp
 env:Env
 outer:List Env
 stack:List Env
 ex:List Addr
 fn:Str->Bool
 calm:Bool
 pn:List (Addr×Obj)
 xe:KU->KZ->Prop
def kj(l:List Env):List Addr:=l.filterMap (·.frame)
abbrev Cx.fs(X:Cx):List Addr:=kj X.outer
def zg(sc:MI)(x:Str):Prop:=sc.names.lookup x=some .local\/sc.names.lookup x=some .cell\/sc.names.lookup x=some .free
def BK(sc:MI)(x:Str):Prop:=sc.names.lookup x=some .local\/sc.names.lookup x=some .cell
def Jq(env:Env)(h:Heap)(m:Str->Option KU)(x:Str)(u:KU):Prop:=
 (env.kindOf x=some .local/\m x=some u)\/((env.kindOf x=some .cell\/env.kindOf x=some .free)/\ ∃c,env.cells.lookup x=some c/\h.IsCell c (some u))
structure Cx.Ok(X:Cx):Prop where
 mod:Mod X.K X.mg X.base
 kind:X.env.scope.kind=.function
 glob:X.env.globals=K8
 blt:X.env.builtins=QB
 above:X.s₀.heap.objs.size<=X.env.locals
 inj: ∀x y c,X.env.cells.lookup x=some c->X.env.cells.lookup y=some c->x=y
 has: ∀x,(X.env.kindOf x=some .cell\/X.env.kindOf x=some .free)-> ∃c,X.env.cells.lookup x=some c
 cab: ∀x c,X.fn x=true->X.env.cells.lookup x=some c->X.s₀.heap.objs.size<=c
 hd:X.calm=true->X.A.handled=none
 frames:X.A.frames=some X.stack
 stk:X.stack=X.outer\/(X.stack=X.env::X.outer/\X.env.frame=some X.env.locals)
 exf: ∀b∈X.ex,b≠X.env.locals/\ ∀x c,X.env.cells.lookup x=some c->c≠b
 bs: ∀b o,X.base.get? b=some o->X.s₀.heap.get? b=some o/\X.H₀ b=none
 bsz:X.base.objs.size<=X.s₀.heap.objs.size
 noex: ∀b o,X.base.get? b=some o->b∉X.ex
 exfs: ∀b∈X.ex,b∉X.fs
 funs:X.s₀.heap.FunFrames X.base X.outer
 frf: ∀b∈X.fs,X.H₀ b=none
structure Inv(X:Cx)(af:List (Addr×Obj))(σ:List (Option V))(H:Hp)(s:KZ):Prop where
 ok:X.Ok
 os:s.os=X.s₀.os
 bare:NI s.gens
 base:Un X.fs X.ex X.H₀ H X.s₀.heap s.heap
 loc: ∃m,s.heap.Ns X.env.locals m/\ ∀(i:Nat) (x:Str) (v:V),X.N[i]? =some x->σ[i]? =some (some v)->zg X.env.scope x-> ∃u,RelV v u/\Jq X.env s.heap m x u
 cell: ∀x c,X.env.cells.lookup x=some c-> ∃v,s.heap.IsCell c v
 free:H X.env.locals=none
 freeC: ∀x c,X.env.cells.lookup x=some c->H c=none
 pin: ∀p∈X.pn++af,s.heap.get? p.1=some p.2/\H p.1=none/\p.1≠X.env.locals/\p.1∉X.fs/\ ∀v,p.2.data≠ .cell v
 hok:HOk X.prog X.w H s.heap
 len:σ.length=X.N.length
section
variable {X:Cx}{af:List (Addr×Obj)}{σ:List (Option V)}{H H':Hp}{s:KZ}{h':Heap}
theorem Cx.Ok.nofr(ok:X.Ok){b:Addr}{o:Obj}(e:X.base.get? b=some o):b∉X.fs:=λhb=>by
 have:=(ok.funs.mem hb).1
 rw[e] at this;cases this
theorem Inv.bs(I:Inv X af σ H s): ∀b o,X.base.get? b=some o->s.heap.get? b=some o/\H b=none:=λb o e=>
 ⟨I.base.keep b o (I.ok.bs b o e).1 (I.ok.bs b o e).2 (I.ok.nofr e) (I.ok.noex b o e),I.base.free b o (I.ok.bs b o e).1 (I.ok.bs b o e).2 (I.ok.noex b o e)⟩
theorem Inv.bk(I:Inv X af σ H s): ∀b o,X.base.get? b=some o->s.heap.get? b=some o:=λb o e=>(I.bs b o e).1
theorem Inv.mod(I:Inv X af σ H s):Mod X.K X.mg X.base:=I.ok.mod
theorem Inv.kIn(I:Inv X af σ H s):X.K.In s.heap:=I.ok.mod.kin.keeps I.bk
theorem Inv.lt(I:Inv X af σ H s):X.env.locals<s.heap.objs.size:=let⟨_,hn,_⟩:=I.loc;hn.lt
theorem Inv.sz(I:Inv X af σ H s):X.s₀.heap.objs.size<=s.heap.objs.size:=LW I.ok.above (NP I.lt)
theorem Inv.nofs(I:Inv X af σ H s){a:Addr}(h:s.heap.objs.size<=a):a∉X.fs:=λhb=>by
 obtain⟨_,o,ho,_⟩:=I.ok.funs.mem hb
 exact absurd (Li (Lh ho) (LW I.sz h)) (Np _)
theorem Inv.cne(I:Inv X af σ H s): ∀x c,X.env.cells.lookup x=some c->c≠X.env.locals:=λx c e z=>by
 obtain⟨v,o,ho,hd⟩:=I.cell x c e
 obtain⟨m,⟨o',es,ep,ho',hd',_⟩,_⟩:=I.loc
 rw[z,ho'] at ho;cases ho;rw[hd'] at hd;cases hd
theorem Inv.funs(I:Inv X af σ H s):s.heap.FunFrames X.base X.outer:=by
 have all: ∀(l:List Env),(∀b∈kj l,b∈X.fs)->X.s₀.heap.FunFrames X.base l->s.heap.FunFrames X.base l:=by
  intro l
  induction l with
  |nil=>intro _ _;trivial
  |cons env r ih=>
   intro hs hl;obtain⟨hk,⟨L,o,hf,hn,ho,hd⟩,hr⟩:=hl
   have hL:L∈X.fs:=hs L (by unfold kj;rw[MM,hf];exact Lu)
   obtain⟨sl,e⟩:=I.base.slot L o ho (I.ok.frf L hL) hL λz=>I.ok.exfs L z hL
   exact⟨hk,⟨L,_,hf,hn,e,hd⟩,ih (λb hb=>hs b (by unfold kj;rw[MM,hf];exact Lb _ hb)) hr⟩
 exact all X.outer (λ_ hb=>hb) I.ok.funs
theorem Inv.stack(I:Inv X af σ H s):s.heap.FunFrames X.base X.stack:=by
 rcases I.ok.stk with e|⟨e,hf⟩
 ·rw[e];exact I.funs
 ·rw[e]
  obtain⟨m,hn,_⟩:=I.loc
  refine .cons (by rw[I.ok.kind];decide) hf hn ?_ I.funs
  exact PU (LW I.ok.bsz I.ok.above)
theorem Inv.stkSub(I:Inv X af σ H s): ∀b∈kj X.stack,b∈X.env.locals::X.fs:=λb hb=>by
 rcases I.ok.stk with e|⟨e,hf⟩
 ·rw[e] at hb;exact Lb _ hb
 ·rw[e] at hb
  unfold kj at hb;rw[MM,hf] at hb;exact hb
theorem Inv.stkFree(I:Inv X af σ H s): ∀b∈kj X.stack,H b=none:=λb hb=>by
 rcases Ll.mp (I.stkSub b hb) with e|hb
 ·rw[e];exact I.free
 ·obtain⟨_,o,ho,_⟩:=I.ok.funs.mem hb
  exact I.base.free b o ho (I.ok.frf b hb) λz=>I.ok.exfs b z hb
theorem Inv.step {g':Array GenState}{t':Nat}{d':Drawn}{ch:List Addr}(I:Inv X af σ H s)
 (hch: ∀b∈ch,(b∈X.ex\/X.s₀.heap.objs.size<=b)/\b≠X.env.locals/\(∀x c,X.env.cells.lookup x=some c->c≠b)/\ ∀p∈X.pn++af,p.1≠b)
 (keep: ∀b o,b≠X.env.locals->b∉X.fs->b∉ch->s.heap.get? b=some o->H b=none->h'.get? b=some o)
 (slot: ∀b o,b≠X.env.locals->b∈X.fs->b∉ch->s.heap.get? b=some o->H b=none-> ∃sl,h'.get? b=some {o with slots:=sl}) (free: ∀b o,b∉ch->s.heap.get? b=some o->H b=none->H' b=none)
 (there: ∀b o,b∉ch->s.heap.get? b=some o-> ∃o',h'.get? b=some o')
 (tups: ∀b xs,H b=some (.tup xs)->H' b=some (.tup xs)) (frzs: ∀b o u,H b=some (.frz o u)->H' b=some (.frz o u)) (tbls: ∀b ps,H b=some (.tbl ps)-> ∃more,H' b=some (.tbl (ps++more)))
 (ns: ∀m,s.heap.Ns X.env.locals m->h'.Ns X.env.locals m) (hok:HOk X.prog X.w H' h') (hg:NI g'):
 Inv X af σ H' {s with heap:=h',gens:=g',drawn:=d',toks:=t'}:=by
 have neL: ∀b o,X.s₀.heap.get? b=some o->b≠X.env.locals:=λb o e=>LF (Li (Lh e) I.ok.above)
 have neC: ∀b o,X.s₀.heap.get? b=some o->b∉X.ex->b∉ch:=λb o e hx hb=>by
  rcases(hch b hb).1 with z|z
  ·exact hx z
  ·exact absurd (Li (Lh e) z) (Np _)
 have cellK: ∀x c,X.env.cells.lookup x=some c-> ∀v,s.heap.IsCell c v->h'.IsCell c v:=λx c e v hq_=>by
  obtain⟨o,ho,hd⟩:=hq_
  have nch:c∉ch:=λz=>(hch c z).2.2.1 x c e rfl
  by_cases hc:c∈X.fs
  ·obtain⟨sl,q⟩:=slot c o (I.cne x c e) hc nch ho (I.freeC x c e)
   exact⟨_,q,hd⟩
  ·exact⟨o,keep c o (I.cne x c e) hc nch ho (I.freeC x c e),hd⟩
 refine⟨I.ok,I.os,hg,⟨λb o e n hb hx=>?_,λb o e n hb hx=>?_,λb o e n hx=>?_,λb o e hx=>?_,λb xs e=>tups b xs (I.base.tups b xs e),λb o xs e=>frzs b o xs (I.base.frzs b o xs e),λb ps e=>?_⟩,?_,λx c e=>?_,?_,λx c e=>?_,λp hp=>?_,hok,I.len⟩
 ·exact keep b o (neL b o e) hb (neC b o e hx) (I.base.keep b o e n hb hx) (I.base.free b o e n hx)
 ·obtain⟨sl,e1⟩:=I.base.slot b o e n hb hx
  obtain⟨sl',e2⟩:=slot b _ (neL b o e) hb (neC b o e hx) e1 (I.base.free b o e n hx)
  exact⟨sl',e2⟩
 ·obtain⟨o',e1⟩:=I.base.there b o e hx
  exact free b o' (neC b o e hx) e1 (I.base.free b o e n hx)
 ·obtain⟨o',e1⟩:=I.base.there b o e hx
  exact there b o' (neC b o e hx) e1
 ·obtain⟨m1,e1⟩:=I.base.tbls b ps e
  obtain⟨m2,e2⟩:=tbls b _ e1
  exact⟨m1++m2,by rw[e2,Qz]⟩
 ·obtain⟨m,hn,hl⟩:=I.loc
  refine⟨m,ns m hn,λi x v e1 e2 e3=>?_⟩
  obtain⟨u,r,l⟩:=hl i x v e1 e2 e3
  refine⟨u,r,?_⟩
  rcases l with l|⟨k,c,e,z⟩
  ·exact .inl l
  ·exact .inr ⟨k,c,e,cellK x c e _ z⟩
 ·obtain⟨v,z⟩:=I.cell x c e
  exact⟨v,cellK x c e v z⟩
 ·obtain⟨m,⟨o,_,_,ho,_⟩,_⟩:=I.loc
  exact free _ o (λz=>(hch _ z).2.1 rfl) ho I.free
 ·obtain⟨v,o,ho,hd⟩:=I.cell x c e
  exact free c o (λz=>(hch c z).2.2.1 x c e rfl) ho (I.freeC x c e)
 ·obtain⟨e,n,ne,nf,d⟩:=I.pin p hp
  have nch:p.1∉ch:=λz=>(hch p.1 z).2.2.2 p hp rfl
  exact⟨keep p.1 p.2 ne nf nch e n,free p.1 p.2 nch e n,ne,nf,d⟩
theorem Inv.un {t':Nat}(I:Inv X af σ H s)(u:Un X.fs [] H H' s.heap h')(hok:HOk X.prog X.w H' h'):Inv X af σ H' {s with heap:=h',toks:=t'}:=by
 obtain⟨m,⟨o,es,ep,ho,r⟩,_⟩:=id I.loc
 obtain⟨sl,hL⟩:=u.any ho I.free (by simp)
 exact I.step (g':=s.gens) (d':=s.drawn) (ch:=[]) (λ_ z=>nomatch z) (λb o _ hb _ e n=>u.keep b o e n hb (by simp)) (λb o _ hb _ e n=>u.slot b o e n hb (by simp)) (λb o _ e n=>u.free b o e n (by simp)) (λb o _ e=>u.there b o e (by simp)) u.tups u.frzs u.tbls (λm' hm=>by
  obtain⟨o',es',ep',ho',r'⟩:=hm
  rw[ho] at ho';cases ho';exact⟨_,es',ep',hL,r'⟩) hok I.bare
theorem Inv.call {g':Array GenState}{t':Nat}{d':Drawn}{ch:List Addr}(I:Inv X af σ H s)(u:Un (kj X.stack) ch H H' s.heap h')(hok:HOk X.prog X.w H' h')(hg:NI g')
 (hch: ∀b∈ch,(b∈X.ex\/X.s₀.heap.objs.size<=b)/\b≠X.env.locals/\(∀x c,X.env.cells.lookup x=some c->c≠b)/\ ∀p∈X.pn++af,p.1≠b):
 Inv X af σ H' {s with heap:=h',gens:=g',drawn:=d',toks:=t'}:=by
 obtain⟨m,⟨o,es,ep,ho,r⟩,_⟩:=id I.loc
 obtain⟨sl,hL⟩:=u.any ho I.free λz=>(hch _ z).2.1 rfl
 exact I.step (ch:=ch) hch (λb o hL hb hc e n=>u.keep b o e n (λz=>(Ll.mp (I.stkSub b z)).elim hL hb) hc) (λb o _ _ hc e n=>u.any e n hc) (λb o hc e n=>u.free b o e n hc) (λb o hc e=>u.there b o e hc) u.tups u.frzs u.tbls (λm' hm=>by
  obtain⟨o',es',ep',ho',r'⟩:=hm
  rw[ho] at ho';cases ho';exact⟨_,es',ep',hL,r'⟩) hok hg
theorem Inv.turned {t':Nat}{it:Addr}(I:Inv X af σ H s)(k: ∀b o,b≠it->s.heap.get? b=some o->h'.get? b=some o)(hn:H it=none)(hL:it≠X.env.locals)
 (h1:it∈X.ex\/X.s₀.heap.objs.size<=it) (h2: ∀x c,X.env.cells.lookup x=some c->c≠it) (h3: ∀p∈X.pn++af,p.1≠it):Inv X af σ H {s with heap:=h',toks:=t'}:=by
 have nit: ∀b u,H b=some u->b≠it:=λb u e z=>by rw[z,hn] at e;cases e
 refine I.step (g':=s.gens) (d':=s.drawn) (ch:=[it]) (λb hb=>?_) (λb o _ _ hc e _=>k b o (λz=>hc (by simp[z])) e) (λb o _ _ hc e _=>⟨o.slots,k b o (λz=>hc (by simp[z])) e⟩) (λ_ _ _ _ n=>n)
  (λb o hc e=>⟨o,k b o (λz=>hc (by simp[z])) e⟩) (λ_ _ e=>e) (λ_ _ _ e=>e) (λb ps e=>⟨#[],by rw[e];simp⟩) (λm hm=>?_) (λb u e=>?_) I.bare
 ·have e:b=it:=by simpa using hb
  subst e;exact⟨h1,hL,h2,h3⟩
 ·obtain⟨o,es,ep,ho,r⟩:=hm
  exact⟨o,es,ep,k _ o (Lw hL) ho,r⟩
 ·refine(I.hok b u e).stay (λc v hc q=>k c v ?_ q) (λ_ q=>q) λ_ _ q=>q
  rcases hc with z|z
  ·rw[z];exact nit b u e
  ·exact nit c _ z
theorem Inv.tok(I:Inv X af σ H s)(t:Nat):Inv X af σ H {s with toks:=t}:=I.un (h':=s.heap) (t':=t) Un.refl I.hok
theorem Inv.kept {t':Nat}(I:Inv X af σ H s)(k: ∀b u,s.heap.get? b=some u->h'.get? b=some u):Inv X af σ H {s with heap:=h',toks:=t'}:=I.un (Un.kept k) (I.hok.kept k)
theorem Inv.laid {a:Addr}{o:HO}{t':Nat}(I:Inv X af σ H s)(k: ∀b u,s.heap.get? b=some u->h'.get? b=some u)(hp:s.heap.objs.size<=a)(new:ObjOk X.prog X.w (bI H a o) h' a o):
 Inv X af σ (bI H a o) {s with heap:=h',toks:=t'}:=I.un (Un.laid k hp (I.hok.fresh hp)) (I.hok.laid k hp new)
theorem Inv.write {x e:Addr}{o:HO}{t':Nat}(I:Inv X af σ H s)(mu:G6 (H x))(he:e=x\/H e=some (.own x))(k: ∀b u,b≠e->s.heap.get? b=some u->h'.get? b=some u)(heo: ∃u,h'.get? e=some u)
 (new:ObjOk X.prog X.w (bI H x o) h' x o):Inv X af σ (bI H x o) {s with heap:=h',toks:=t'}:=I.un (Un.write mu he k heo) (I.hok.write mu he k heo new)
theorem Inv.pins_of {pins':List (Addr×Obj)}(I:Inv X af σ H s)(h: ∀p∈pins',s.heap.get? p.1=some p.2/\H p.1=none/\p.1≠X.env.locals/\p.1∉X.fs/\ ∀v,p.2.data≠ .cell v):Inv X pins' σ H s:=
 ⟨I.ok,I.os,I.bare,I.base,I.loc,I.cell,I.free,I.freeC,λp hp=>(NW.mp hp).elim (λz=>I.pin p (Mi _ z)) (h p),I.hok,I.len⟩
theorem uP {N:List Str}(hN:N.Nodup){i j:Nat}{x:Str}(a:N[i]? =some x)(b:N[j]? =some x):i=j:=by
 obtain⟨h1,e1⟩:=Lp.mp a
 obtain⟨h2,e2⟩:=Lp.mp b
 exact(Q9 hN).mp (e1.trans e2.symm)
theorem oK {M:Ro}{A:LC}{E:KU->KZ->Prop}{i:Nat}{x:Str}{v:V}{u:KU}{Q:Unit->KZ->Prop}(I:Inv X af σ H s)(hN:X.N.Nodup)(hi:X.N[i]? =some x)(hx:BK X.env.scope x)(r:RelV v u)
 (h: ∀s',Inv X af (σ.set i (some v)) H s'->(∃a,MK a s.heap s'.heap/\(a=X.env.locals\/X.env.cells.lookup x=some a))->Q () s') (hf:X.fn x=true\/X.env.scope.names.lookup x=some .local:=by first|exact .inl rfl|exact .inr rfl|assumption):Lq M A (storeName X.env x u) Q E s:=by
 obtain⟨m,hn,hl⟩:=id I.loc
 have hcls:(X.env.scope.kind== .class||(X.env.scope.kind== .module&&X.env.locals !=X.env.globals))=false:=by rw[I.ok.kind];rfl
 have hiσ:i<σ.length:=by rw[I.len];exact(Lp.mp hi).1
 have cne:=I.cne
 have tracked: ∀ {a:Addr} {h':Heap},(∃o,s.heap.get? a=some o/\H a=none)->MK a s.heap h'->HOk X.prog X.w H h':=λ{a h'} ha hs b ob e=>by
  obtain⟨_,_,hfree⟩:=ha
  refine(I.hok b ob e).stay (λc w' hc q=>(hs.2 c ?_).trans q) (λ_ q=>q) λ_ _ q=>q
  rintro rfl
  rcases hc with rfl|hc
  ·rw[hfree] at e;cases e
  ·rw[hfree] at hc;cases hc
 rcases hx with hk|hk
 ·refine wpAny_storeName_local hk hn (λh' hn' hs=>?_) hcls
  obtain⟨oL,_,_,hoL,_⟩:=id hn
  refine h _ ⟨I.ok,I.os,I.bare,⟨λb o e n hb hx=>?_,λb o e n hb hx=>?_,I.base.free,λb o e hx=>?_,I.base.tups,I.base.frzs,I.base.tbls⟩,⟨_,hn',λj y v' e1 e2 e3=>?_⟩,λy c e=>?_,I.free,I.freeC,λp hp=>?_,tracked ⟨oL,hoL,I.free⟩ hs,by simpa using I.len⟩ ⟨_,hs,.inl rfl⟩
  ·exact(hs.2 b (LF (Li (Lh e) I.ok.above))).trans (I.base.keep b o e n hb hx)
  ·obtain⟨sl,e1⟩:=I.base.slot b o e n hb hx
   exact⟨sl,(hs.2 b (LF (Li (Lh e) I.ok.above))).trans e1⟩
  ·obtain⟨o',e1⟩:=I.base.there b o e hx
   exact⟨o',(hs.2 b (LF (Li (Lh e) I.ok.above))).trans e1⟩
  ·by_cases hj:j=i
   ·subst hj
    rw[hi] at e1;cases e1;rw[Lg hiσ] at e2;cases e2
    exact⟨u,r,.inl ⟨hk,by simp⟩⟩
   ·rw[K9 (Lw hj)] at e2
    obtain⟨u',r',q⟩:=hl j y v' e1 e2 e3
    refine⟨u',r',?_⟩
    rcases q with⟨k,e⟩|⟨k,c,e,z⟩
    ·refine .inl ⟨k,?_⟩
     have:y≠x:=λe=>hj (uP hN e1 (e▸hi))
     simp[this,e]
    ·exact .inr ⟨k,c,e,z.sameBut hs (cne y c e)⟩
  ·obtain⟨w',z⟩:=I.cell y c e
   exact⟨w',z.sameBut hs (cne y c e)⟩
  ·obtain⟨e,n,ne,nf,d⟩:=I.pin p hp
   exact⟨(hs.2 p.1 ne).trans e,n,ne,nf,d⟩
 ·have hfn:X.fn x=true:=by
   rcases hf with z|z
   ·exact z
   ·rw[z] at hk;cases hk
  obtain⟨c,hc⟩:=I.ok.has x (.inl hk)
  obtain⟨w',z⟩:=I.cell x c hc
  refine wpAny_storeName_cell I.ok.kind hk hc z (λh' hc' hs=>?_)
  obtain⟨oc,hoc,hocd⟩:=id z
  refine h {s with heap:=h'} ⟨I.ok,I.os,I.bare,⟨λb o e n hb hx=>?_,λb o e n hb hx=>?_,I.base.free,λb o e hx=>?_,I.base.tups,I.base.frzs,I.base.tbls⟩,⟨m,hn.sameBut hs (Lw (cne x c hc)),λj y v' e1 e2 e3=>?_⟩,λy c' e=>?_,I.free,I.freeC,λp hp=>?_,tracked ⟨oc,hoc,I.freeC x c hc⟩ hs,by simpa using I.len⟩ ⟨c,hs,.inr hc⟩
  ·exact(hs.2 b (LF (Li (Lh e) (I.ok.cab x c hfn hc)))).trans (I.base.keep b o e n hb hx)
  ·obtain⟨sl,e1⟩:=I.base.slot b o e n hb hx
   exact⟨sl,(hs.2 b (LF (Li (Lh e) (I.ok.cab x c hfn hc)))).trans e1⟩
  ·obtain⟨o',e1⟩:=I.base.there b o e hx
   exact⟨o',(hs.2 b (LF (Li (Lh e) (I.ok.cab x c hfn hc)))).trans e1⟩
  ·by_cases hj:j=i
   ·subst hj
    rw[hi] at e1;cases e1;rw[Lg hiσ] at e2;cases e2
    exact⟨u,r,.inr ⟨.inl hk,c,hc,hc'⟩⟩
   ·rw[K9 (Lw hj)] at e2
    obtain⟨u',r',q⟩:=hl j y v' e1 e2 e3
    refine⟨u',r',?_⟩
    rcases q with q|⟨k,c',e,z'⟩
    ·exact .inl q
    ·refine .inr ⟨k,c',e,z'.sameBut hs ?_⟩
     rintro rfl
     exact hj (uP hN e1 (I.ok.inj _ _ _ e hc▸hi))
  ·by_cases hcc:c'=c
   ·subst hcc;exact⟨_,hc'⟩
   ·obtain⟨w2,z2⟩:=I.cell y c' e
    exact⟨w2,z2.sameBut hs hcc⟩
  ·obtain⟨e,n,ne,nf,d⟩:=I.pin p hp
   refine⟨(hs.2 p.1 ?_).trans e,n,ne,nf,d⟩
   intro q;rw[q,hoc] at e;have q':oc=p.2:=LH e
   exact d w' (by rw[<-q'];exact hocd)
theorem lK {M:Ro}{A:LC}{E:KU->KZ->Prop}{i:Nat}{x:Str}{v:V}{u:KU}{Q:Unit->KZ->Prop}(I:Inv X af σ H s)(hN:X.N.Nodup)(hi:X.N[i]? =some x)(hx:BK X.env.scope x)(r:RelV v u)
 (h: ∀s',Inv X af (σ.set i (some v)) H s'->Q () s') (hf:X.fn x=true\/X.env.scope.names.lookup x=some .local:=by first|exact .inl rfl|exact .inr rfl|assumption):Lq M A (storeName X.env x u) Q E s:=
 oK I hN hi hx r (λs' I' _=>h s' I') hf
theorem Inv.call' {s':KZ}{ch:List Addr}(I:Inv X af σ H s)(ho:s'.os=s.os)(u:Un (kj X.stack) ch H H' s.heap s'.heap)(hok:HOk X.prog X.w H' s'.heap)(hg:NI s'.gens)
 (hch: ∀b∈ch,(b∈X.ex\/X.s₀.heap.objs.size<=b)/\b≠X.env.locals/\(∀x c,X.env.cells.lookup x=some c->c≠b)/\ ∀p∈X.pn++af,p.1≠b):Inv X af σ H' s':=by
 obtain⟨h',g',d',t',o'⟩:=s'
 have e:o'=s.os:=ho
 subst e;exact I.call (g':=g') (t':=t') (d':=d') u hok hg hch
end
abbrev XK:=KU->Option Addr->Hp->Prop
abbrev St:=List (Option V)
abbrev VK:=V->Hp->Prop
abbrev TE:=St->Hp->VK->Prop
abbrev TT:=St->Hp->(Bool->Hp->Prop)->Prop
abbrev TA:=St->Hp->(List V->Hp->Prop)->Prop
structure Ends where
 nx:St->Hp->Prop
 rt:VK
 bk:St->Hp->Prop:=λ_ _=>False
 ct:St->Hp->Prop:=λ_ _=>False
abbrev TS:=Ends->St->Hp->Prop
def EP(X:Cx)(af:List (Addr×Obj))(σ:St)(Q:VK)(u:KU)(s':KZ):Prop:= ∃v H',Inv X af σ H' s'/\RelV v u/\Q v H'
def TP(X:Cx)(af:List (Addr×Obj))(σ:St)(Q:Bool->Hp->Prop)(b:Bool)(s':KZ):Prop:= ∃H',Inv X af σ H' s'/\Q b H'
def AP(X:Cx)(af:List (Addr×Obj))(σ:St)(Q:List V->Hp->Prop)(us:List KU)(s':KZ):Prop:= ∃vs H',Inv X af σ H' s'/\Vals vs us/\Q vs H'
def SP(X:Cx)(af:List (Addr×Obj))(D:Ends)(f:Flow)(s':KZ):Prop:=
 match f with
 | .next=> ∃σ' H',Inv X af σ' H' s'/\D.nx σ' H'
 | .brk=> ∃σ' H',Inv X af σ' H' s'/\D.bk σ' H'
 | .cont=> ∃σ' H',Inv X af σ' H' s'/\D.ct σ' H'
 | .ret u=> ∃v σ' H',Inv X af σ' H' s'/\RelV v u/\D.rt v H'
def PE(X:Cx)(e:Expr)(t:TE):Prop:=
 ∀(af:List (Addr×Obj)) (s:KZ) (σ:St) (H:Hp) (Q:VK),Inv X af σ H s->t σ H Q->Lq (model X.prog X.w) X.A (eval e X.env) (EP X af σ Q) X.xe s
def PT(X:Cx)(e:Expr)(t:TT):Prop:=
 ∀(af:List (Addr×Obj)) (s:KZ) (σ:St) (H:Hp) (Q:Bool->Hp->Prop),Inv X af σ H s->t σ H Q->Lq (model X.prog X.w) X.A (isTrue e X.env (eval e X.env)) (TP X af σ Q) X.xe s
def PW(X:Cx)(e:Expr)(t:TT):Prop:=
 ∀(whole:Sem KU) (af:List (Addr×Obj)) (s:KZ) (σ:St) (H:Hp) (Q:Bool->Hp->Prop),Inv X af σ H s->t σ H Q->Lq (model X.prog X.w) X.A (isTrue e X.env whole) (TP X af σ Q) X.xe s
theorem PW.pt {X:Cx}{e:Expr}{t:TT}(h:PW X e t):PT X e t:=h _
def PA(X:Cx)(es:List Expr)(t:TA):Prop:=
 ∀(pos:Pos) (af:List (Addr×Obj)) (s:KZ) (σ:St) (H:Hp) (Q:List V->Hp->Prop),Inv X af σ H s->t σ H Q->Lq (model X.prog X.w) X.A (spliced (M2 pos (Le es X.env))) (AP X af σ Q) X.xe s
def PS(X:Cx)(st:Stmt)(t:TS):Prop:=
 ∀(af:List (Addr×Obj)) (s:KZ) (σ:St) (H:Hp) (D:Ends),Inv X af σ H s->t D σ H->Lq (model X.prog X.w) X.A (exec st X.env) (SP X af D) X.xe s
def PSs(X:Cx)(st:List Stmt)(t:TS):Prop:=
 ∀(af:List (Addr×Obj)) (s:KZ) (σ:St) (H:Hp) (D:Ends),Inv X af σ H s->t D σ H->Lq (model X.prog X.w) X.A (execs st X.env) (SP X af D) X.xe s
theorem cy {α:Type}{t:Sem α}{Q Q':α->KZ->Prop}{M:Ro}{A:LC}{E:KU->KZ->Prop}{s:KZ}(h:Lq M A t Q E s)(hQ: ∀a s,Q a s->Q' a s):Lq M A t Q' E s:=Lv h hQ λ_ _ x=>x
section
variable {X:Cx}
def IG(i:Nat):TE:=λσ H Q=> ∃v,σ[i]? =some (some v)/\Q v H
def tC(v:V):TE:=λ_ H Q=>Q v H
theorem G8 {i:Nat}{x:Str}{pos:Pos}(hN:X.N[i]? =some x)(hv:zg X.env.scope x)(hd:(x==("__debug__":Str))=false:=by decide)(hcd:(x==("__classdict__":Str))=false:=by decide):PE X (.Name x pos) (IG i):=by
 intro af s σ H Q I h;obtain⟨v,e,h⟩:=h
 obtain⟨m,hn,hl⟩:=I.loc
 obtain⟨u,r,l⟩:=hl i x v hN e hv
 have fin:EP X af σ Q u s:=⟨v,H,I,r,h⟩
 rcases l with⟨hk,hm⟩|⟨hk,c,hc,hcell⟩
 ·exact RI (wpAny_loadName_local I.ok.kind hk hn hm fin) hd
 ·rcases hk with hk|hk
  ·exact RI (wpAny_loadName_cell I.ok.kind hk hc hcell fin) hd
  ·exact RI (wpAny_loadName_free I.ok.kind hk hc hcell fin hcd) hd
theorem GW {i j pos}:PE X (.Constant (.int i) j pos) (tC (.int i)):=λ_ _ _ H _ I h=>wpAny_Constant_int ⟨.int i,H,I.tok _,⟨_,rfl⟩,h⟩
theorem HR {b j pos}:PE X (.Constant (.bool b) j pos) (tC (.bl b)):=λ_ _ _ H _ I h=>Constant_bool ⟨.bl b,H,I,rfl,h⟩
theorem Gb {j pos}:PE X (.Constant .none j pos) (tC .non):=λ_ _ _ H _ I h=>Constant_none ⟨.non,H,I,rfl,h⟩
theorem FI {x j pos}:PE X (.Constant (.str x) j pos) (tC (.str x)):=λ_ _ _ H _ I h=>Calls.Constant_str ⟨.str x,H,I.tok _,⟨_,rfl⟩,h⟩
def Gl(X:Cx)(x:Str):Prop:=X.env.kindOf x=some .globalImplicit
theorem mz {E:KU->KZ->Prop}{af:List (Addr×Obj)}{s:KZ}{σ:St}{H:Hp}{x:Str}{u:KU}{pos:Pos}{Q:KU->KZ->Prop}(I:Inv X af σ H s)(hg:Gl X x)(hm:X.mg x=some u)(h:Q u s)
 (hd:(x==("__debug__":Str))=false:=by decide):Lq (model X.prog X.w) X.A (eval (.Name x pos) X.env) Q E s:=
 OM I.ok.kind hg (Calls.loadGlobal_global (by rw[I.ok.glob];exact I.mod.glob.keeps I.bk) hm h) hd
theorem oR {E:KU->KZ->Prop}{af:List (Addr×Obj)}{s:KZ}{σ:St}{H:Hp}{x:Str}{u:KU}{pos:Pos}{Q:KU->KZ->Prop}(I:Inv X af σ H s)(hg:Gl X x)(hm:X.mg x=none)(hv:Nm x=some u)(h:Q u s)
 (hn:x≠"__name__":=by decide) (hd:(x==("__debug__":Str))=false:=by decide):Lq (model X.prog X.w) X.A (eval (.Name x pos) X.env) Q E s:=by
 obtain⟨mb,h1,h2⟩:=I.mod.blt
 exact OM I.ok.kind hg (Calls.loadGlobal_builtin (by rw[I.ok.glob];exact I.mod.glob.keeps I.bk) hm (by rw[I.ok.blt];exact h1.keeps I.bk) ((h2 x hn).trans hv) h) hd
theorem Dz {x:Str}{v:V}{u:KU}{pos:Pos}(hg:Gl X x)(hm:X.mg x=some u)(r:RelV v u)(hd:(x==("__debug__":Str))=false:=by decide):PE X (.Name x pos) (tC v):=
 λ_ _ _ H _ I h=>mz I hg hm ⟨v,H,I,r,h⟩ hd
variable {a b:Expr}{ta tb:TE}{pos:Pos}
theorem RelV.none_iff {x:V}{v:KU}(r:RelV x v):(v==Mq)=decide (x=.non):=by
 cases x with
 |non=>cases r;rfl
 |bl _=>cases r;rfl
 |int _=>obtain⟨t,rfl⟩:=r;rfl
 |str _=>obtain⟨t,rfl⟩:=r;rfl
 |byt _=>obtain⟨t,rfl⟩:=r;rfl
 |flt _=>obtain⟨t,rfl⟩:=r;rfl
 |ref _=>cases r;rfl
 |ty _=>cases r;rfl
variable {tA tB':TT}{rest:List Expr}
def KF(t u:TT):TT:=λσ H Q=>t σ H λc H1=>if c=true then Q true H1 else u σ H1 Q
def J0(t:TT):TT:=λσ H Q=>t σ H λc H1=>Q (!c) H1
theorem pw_or1(ha:PT X a tA):PW X (.BoolOp .Or [a] pos) tA:=by
 intro wh af s σ H Q I h;refine isTrue_or (cy (ha af s σ H Q I h) λc s1 e=>?_)
 cases c with
 |false=>exact isTrue_or_nil e
 |true=>exact e
theorem pw_or(ha:PT X a tA)(hb:PW X (.BoolOp .Or (b::rest) pos) tB'):PW X (.BoolOp .Or (a::b::rest) pos) (KF tA tB'):=by
 intro wh af s σ H Q I h;refine isTrue_or (cy (ha af s σ H _ I h) λc s1 hq_=>?_)
 obtain⟨H1,I1,q1⟩:=hq_
 cases c with
 |true=>exact⟨H1,I1,q1⟩
 |false=>exact hb wh af s1 σ H1 Q I1 q1
theorem Gn(ha:PT X a tA):PT X (.UnaryOp .Not a pos) (J0 tA):=by
 intro af s σ H Q I h;exact isTrue_not (ha af s σ H (λc H1=>Q (!c) H1) I h)
def Io(ta tb:TE):TE:=λσ H Q=>ta σ H λx H1=> ∃c,x=.bl c/\if c=true then tb σ H1 Q else Q (.bl false) H1
theorem GP {op}{t:TE}(h:PE X a t):PE X (.BoolOp op [a] pos) t:=λaf s σ H Q I hw=>BoolOp_one (h af s σ H Q I hw)
theorem FM(ha:PE X a ta)(hb:PE X (.BoolOp .And (b::rest) pos) tb):PE X (.BoolOp .And (a::b::rest) pos) (Io ta tb):=by
 intro af s σ H Q I h;refine BoolOp_and (cy (ha af s σ H _ I h) λv s1 hq_=>?_)
 obtain⟨x,H1,I1,r1,q1⟩:=hq_
 obtain⟨c,rfl,q1⟩:=q1
 cases r1
 refine MZ ?_
 cases c with
 |true=>exact hb af s1 σ H1 Q I1 q1
 |false=>exact⟨.bl false,H1,I1,rfl,q1⟩
def KS(t:TT)(ta tb:TE):TE:=λσ H Q=>t σ H λc H1=>if c=true then ta σ H1 Q else tb σ H1 Q
theorem CD {c:Expr}(hc:PT X c tA)(ha:PE X a ta)(hb:PE X b tb):PE X (.IfExp c a b pos) (KS tA ta tb):=by
 intro af s σ H Q I h;refine wpAny_IfExp (cy (hc af s σ H _ I h) λd s1 hq_=>?_)
 obtain⟨H1,I1,q1⟩:=hq_
 cases d with
 |true=>exact ha af s1 σ H1 Q I1 q1
 |false=>exact hb af s1 σ H1 Q I1 q1
end
def SqL(K:K7)(H:Hp)(a:Addr)(xs:List V):Prop:=
 Rd H a (.lst xs)\/
  ∃(o:Obj) (its:Array KU) (n:Nat),K.lookup a=some o/\o.cls=.type "list"/\o.dict=none/\o.data=.seq its n/\its.size<=Lm/\Vals xs its.toList
def SqT(K:K7)(H:Hp)(a:Addr)(xs:List V):Prop:=
 Rd H a (.tup xs)\/
  ∃(o:Obj) (its:Array KU) (n:Nat),K.lookup a=some o/\o.cls=.type "tuple"/\o.data=.seq its n/\its.size<=Lm/\Vals xs its.toList/\o.dict=none
def Kj:KU->Option V
 | .none=>some .non
 | .bool b=>some (.bl b)
 | .int i _=>some (.int i)
 | .str x _=>some (.str x)
 | .bytes b _=>some (.byt b)
 | .float b _=>some (.flt b)
 | .ref a=>some (.ref a)
 | .type n=>some (.ty n)
 |_=>none
theorem RelV.abs {x:V}{u:KU}(r:RelV x u):Kj u=some x:=by
 cases x with
 |non=>cases r;rfl
 |bl _=>cases r;rfl
 |int _=>obtain⟨t,rfl⟩:=r;rfl
 |str _=>obtain⟨t,rfl⟩:=r;rfl
 |byt _=>obtain⟨t,rfl⟩:=r;rfl
 |flt _=>obtain⟨t,rfl⟩:=r;rfl
 |ref _=>cases r;rfl
 |ty _=>cases r;rfl
theorem RelV.inj {x y:V}{u:KU}(r:RelV x u)(q:RelV y u):x=y:=LH (r.abs.symm.trans q.abs)
theorem Vals.inj: ∀ {xs ys:List V} {us:List KU},Vals xs us->Vals ys us->xs=ys
 |_,_,_,.nil,.nil=>rfl
 |_,_,_,.cons r t,.cons r' t'=>by rw[r.inj r',Vals.inj t t']
section
variable {X:Cx}{af:List (Addr×Obj)}{σ:St}{H:Hp}{s:KZ}{a:Addr}{xs ys:List V}
theorem SqL.of {K:K7}(h:H a=some (.lst xs)):SqL K H a xs:=.inl (.inl h)
theorem SqT.of {K:K7}(h:H a=some (.tup xs)):SqT K H a xs:=.inl (.inl h)
theorem Inv.list(I:Inv X af σ H s)(h:SqL X.K H a xs): ∃its:List KU,Vals xs its/\PlainL s.heap a its.toArray/\xs.length<=sizeLine:=by
 rcases h with h|⟨o,its,n,hk,hc,hd,hs,hz,r⟩
 ·obtain⟨z,its,n,r,e⟩:=h.ok I.hok
  exact⟨its,r,⟨_,n,e,rfl,rfl,rfl⟩,z⟩
 ·refine⟨its.toList,r,⟨o,n,I.kIn a o hk,hc,hd,by simpa using hs⟩,?_⟩
  have e:=r.length
  simp only[Nr] at e;omega
theorem Inv.tuple(I:Inv X af σ H s)(h:SqT X.K H a xs): ∃its:List KU,Vals xs its/\IsTup s.heap a its.toArray/\xs.length<=sizeLine:=by
 rcases h with h|⟨o,its,n,hk,hc,hs,hz,r,_⟩
 ·obtain⟨z,its,r,p,_⟩:=h.ok I.hok
  exact⟨its,r,p,z⟩
 ·refine⟨its.toList,r,⟨o,I.kIn a o hk,hc,n,by simpa using hs⟩,?_⟩
  have e:=r.length
  simp only[Nr] at e;omega
theorem Inv.tupleN(I:Inv X af σ H s)(h:SqT X.K H a xs):(∃o,s.heap.get? a=some o/\o.cls=.type "tuple")/\ ∃o,s.heap.get? a=some o/\o.dict=none:=by
 rcases h with h|⟨o,its,n,hk,hc,hs,hz,r,hd⟩
 ·obtain⟨z,its,r,⟨ob,e,c,_⟩,o2,e2,d2⟩:=h.ok I.hok
  exact⟨⟨ob,e,c⟩,o2,e2,d2⟩
 ·exact⟨⟨o,I.kIn a o hk,hc⟩,o,I.kIn a o hk,hd⟩
theorem Inv.list_inj(I:Inv X af σ H s)(h:SqL X.K H a xs)(h':SqL X.K H a ys):xs=ys:=by
 obtain⟨its,r,⟨o,n,e,_,_,d⟩,_⟩:=I.list h
 obtain⟨its',r',⟨o',n',e',_,_,d'⟩,_⟩:=I.list h'
 rw[e] at e';cases e';rw[d] at d';injection d' with d1 _
 have:its=its':=by simpa using congrArg S7 d1
 subst this;exact r.inj r'
theorem Inv.tuple_inj(I:Inv X af σ H s)(h:SqT X.K H a xs)(h':SqT X.K H a ys):xs=ys:=by
 obtain⟨its,r,⟨o,e,_,n,d⟩,_⟩:=I.tuple h
 obtain⟨its',r',⟨o',e',_,n',d'⟩,_⟩:=I.tuple h'
 rw[e] at e';cases e';rw[d] at d';injection d' with d1 _
 have:its=its':=by simpa using congrArg S7 d1
 subst this;exact r.inj r'
end
abbrev Cx.wish(X:Cx)(E:KU->KZ->Prop):Cx:={X with xe:=E}
abbrev Cx.nox(X:Cx):Cx:=X.wish λ_ _=>False
theorem Cx.Ok.wish {X:Cx}(ok:X.Ok)(E:KU->KZ->Prop):(X.wish E).Ok:=
 ⟨ok.mod,ok.kind,ok.glob,ok.blt,ok.above,ok.inj,ok.has,ok.cab,ok.hd,ok.frames,ok.stk,ok.exf,ok.bs,ok.bsz,ok.noex,ok.exfs,ok.funs,ok.frf⟩
theorem Cx.Ok.unwish {X:Cx}{E:KU->KZ->Prop}(ok:(X.wish E).Ok):X.Ok:=
 ⟨ok.mod,ok.kind,ok.glob,ok.blt,ok.above,ok.inj,ok.has,ok.cab,ok.hd,ok.frames,ok.stk,ok.exf,ok.bs,ok.bsz,ok.noex,ok.exfs,ok.funs,ok.frf⟩
section
variable {X:Cx}{af:List (Addr×Obj)}{σ:St}{H:Hp}{s:KZ}{E:KU->KZ->Prop}
theorem Inv.wish(I:Inv X af σ H s)(E:KU->KZ->Prop):Inv (X.wish E) af σ H s:=⟨I.ok.wish E,I.os,I.bare,I.base,I.loc,I.cell,I.free,I.freeC,I.pin,I.hok,I.len⟩
theorem Inv.unwish(I:Inv (X.wish E) af σ H s):Inv X af σ H s:=⟨I.ok.unwish,I.os,I.bare,I.base,I.loc,I.cell,I.free,I.freeC,I.pin,I.hok,I.len⟩
theorem SP.unwish {D:Ends}{f:Flow}{s':KZ}(h:SP (X.wish E) af D f s'):SP X af D f s':=by
 cases f with
 |next=>obtain⟨σ',H',I,q⟩:=h;exact⟨σ',H',I.unwish,q⟩
 |brk=>obtain⟨σ',H',I,q⟩:=h;exact⟨σ',H',I.unwish,q⟩
 |cont=>obtain⟨σ',H',I,q⟩:=h;exact⟨σ',H',I.unwish,q⟩
 |ret u=>obtain⟨v,σ',H',I,r,q⟩:=h;exact⟨v,σ',H',I.unwish,r,q⟩
theorem PT.nox {e:Expr}{t:TT}(h:PT X.nox e t):PT X e t:=λaf s σ H Q I hw=>
 Lv (h af s σ H Q (I.wish _) hw) (λ_ _ ⟨H',I',q⟩=>⟨H',I'.unwish,q⟩) λ_ _ z=>False.elim z
theorem PSs.nox {st:List Stmt}{t:TS}(h:PSs X.nox st t):PSs X st t:=λaf s σ H D I hw=>
 Lv (h af s σ H D (I.wish _) hw) (λ_ _ q=>q.unwish) λ_ _ z=>False.elim z
end
section
variable {X:Cx}{st:Stmt}{rest:List Stmt}{t u:TS}{e:Expr}{te:TE}{pos:Pos}
def IL:TS:=λD σ H=>D.nx σ H
def JO(t u:TS):TS:=λD σ H=>t {D with nx:=u D} σ H
theorem x9:PSs X [] IL:=λ_ _ σ H _ I h=>NX ⟨σ,H,I,h⟩
theorem uy(h1:PS X st t)(h2:PSs X rest u):PSs X (st::rest) (JO t u):=by
 intro af s σ H D I h;refine Ra (cy (h1 af s σ H {D with nx:=u D} I h) λf s1 q=>?_)
 cases f with
 |next=>
  obtain⟨σ',H',I',q⟩:=q
  exact h2 af s1 σ' H' D I' q
 |ret v=>exact q
 |brk=>exact q
 |cont=>exact q
theorem x5(h1:PS X st t):PSs X [st] t:=by
 intro af s σ H D I h;refine Ra (cy (h1 af s σ H D I h) λf s1 q=>?_)
 cases f with
 |next=>exact NX q
 |ret v=>exact q
 |brk=>exact q
 |cont=>exact q
theorem Inv.quiet {af:List (Addr×Obj)}{σ:St}{H:Hp}{s:KZ}(I:Inv X af σ H s):interactive X.env=false:=by simp[interactive,I.ok.kind]
def HK(te:TE):TS:=λD σ H=>te σ H λ_ H1=>D.nx σ H1
theorem Dp(he:PE X e te)(hs:MS e none pos.line X.env=pure false:=by rfl):PS X (.Expr e pos) (HK te):=by
 intro af s σ H D I h;exact wpAny_Expr_any (cy (he af s σ H _ I h) λv s1 ⟨x,H1,I1,r1,q1⟩=>⟨σ,H1,I1,q1⟩) I.quiet hs
def Jr(te:TE):TS:=λD σ H=>te σ H D.rt
theorem wE(he:PE X e te):PS X (.Return (some e) pos) (Jr te):=by
 intro af s σ H D I h;exact wpAny_Return_some (cy (he af s σ H _ I h) λv s1 ⟨x,H1,I1,r1,q1⟩=>⟨x,σ,H1,I1,r1,q1⟩)
def J5(c:TT)(t u:TS):TS:=λD σ H=>c σ H λb H1=>if b=true then t D σ H1 else u D σ H1
theorem Ft {c:Expr}{a b:List Stmt}{tc:TT}(hc:PT X c tc)(ha:PSs X a t)(hb:PSs X b u):PS X (.If c a b pos) (J5 tc t u):=by
 intro af s σ H D I h;refine wpAny_If (cy (hc af s σ H _ I h) λd s1 hq_=>?_)
 obtain⟨H1,I1,q1⟩:=hq_
 cases d with
 |true=>exact ha af s1 σ H1 D I1 q1
 |false=>exact hb af s1 σ H1 D I1 q1
end
abbrev TG:=V->St->Hp->(St->Hp->Prop)->Prop
abbrev Bb:=List V->St->Hp->(St->Hp->Prop)->Prop
def PG(X:Cx)(target:Expr)(t:TG):Prop:=
 ∀(af:List (Addr×Obj)) (s:KZ) (σ:St) (H:Hp) (v:V) (u:KU) (Q:St->Hp->Prop),Inv X af σ H s->RelV v u->t v σ H Q->
  Lq (model X.prog X.w) X.A (Nq target X.env u) (λ_ s'=> ∃σ' H',Inv X af σ' H' s'/\Q σ' H') X.xe s
def PGs(X:Cx)(ts:List Expr)(t:Bb):Prop:=
 ∀(af:List (Addr×Obj)) (s:KZ) (σ:St) (H:Hp) (vs:List V) (us:List KU) (Q:St->Hp->Prop),Inv X af σ H s->Vals vs us->t vs σ H Q->
  Lq (model X.prog X.w) X.A (Qp ((MA ts X.env).map (·.2)) us) (λ_ s'=> ∃σ' H',Inv X af σ' H' s'/\Q σ' H') X.xe s
abbrev A8:=V->V->V->Hp->(Hp->Prop)->Prop
def DN(X:Cx)(t:A8):Prop:=
 ∀(af:List (Addr×Obj)) (s:KZ) (σ:St) (H:Hp) (o i v:V) (ov iv u:KU) (Q:Hp->Prop),Inv X af σ H s->RelV o ov->RelV i iv->RelV v u->t o i v H Q->
  Lq (model X.prog X.w) X.A (S8 ov iv u) (λ_ s'=> ∃H',Inv X af σ H' s'/\Q H') X.xe s
section
variable {X:Cx}{pos:Pos}
def xJ(i:Nat):TG:=λv σ H Q=>Q (σ.set i (some v)) H
theorem EY {i:Nat}{x:Str}(hN:X.N.Nodup)(hi:X.N[i]? =some x)(hx:BK X.env.scope x)(hf:X.fn x=true\/X.env.scope.names.lookup x=some .local:=by first|exact .inl rfl|exact .inr rfl|assumption):PG X (.Name x pos) (xJ i):=by
 intro af s σ H v u Q I r h;exact O1 (lK I hN hi hx r (λs' I'=>⟨_,H,I',h⟩) hf)
def J2:Bb:=λvs σ H Q=>vs=[]/\Q σ H
def HC(t:TG)(u:Bb):Bb:=λvs σ H Q=> ∃v r,vs=v::r/\t v σ H λσ' H'=>u r σ' H' Q
theorem ya:PGs X [] J2:=by
 intro af s σ H vs us Q I r h;obtain⟨e,h⟩:=h
 subst e;cases r
 exact QM ⟨σ,H,I,h⟩
theorem vN {e:Expr}{es:List Expr}{t:TG}{u:Bb}(h1:PG X e t)(h2:PGs X es u)
 (hs:(MA (e::es) X.env).map (·.2)=Nq e X.env::(MA es X.env).map (·.2):=by rfl):PGs X (e::es) (HC t u):=by
 intro af s σ H vs us Q I r h;obtain⟨v,vr,e1,h⟩:=h
 subst e1;cases r with
 |cons r rr=>
  rw[hs];refine ON (cy (h1 af s σ H _ _ _ I r h) λ_ s1 hq_=>?_)
  obtain⟨σ1,H1,I1,q1⟩:=hq_
  exact h2 af s1 σ1 H1 _ _ Q I1 rr q1
def JM(K:K7)(n:Nat)(t:Bb):TG:=λv σ H Q=> ∃a xs,v=.ref a/\SqT K H a xs/\xs.length=n/\t xs σ H Q
theorem Bm {es:List Expr}{k:Nat}{t:Bb}{n:Nat}(hc:X.calm=true)(h:PGs X es t)
 (hn:(MA es X.env).length=n:=by rfl) (hst:(MA es X.env).findIdx? (·.1)=none:=by rfl):PG X (.Tuple es k pos) (JM X.K n t):=by
 intro af s σ H v u Q I r hw;obtain⟨a,xs,e1,hq,hl,hw⟩:=hw
 subst e1;cases r
 obtain⟨its,rv,ht,hz⟩:=I.tuple hq
 refine assign_Tuple_tuple (I.ok.hd hc) ht (by simp[hn,<-hl,rv.length]) hst λh' hx=>?_
 have I1:Inv X af σ H {s with heap:=h'}:=I.kept (t':=s.toks) λb o e=>hx b o (LF (Lh e)) e
 exact h af _ σ H xs _ Q I1 (by simpa using rv) hw
def JV(to ti:TE)(t:A8):TG:=λv σ H Q=>to σ H λo H1=>ti σ H1 λi H2=>t o i v H2 λH3=>Q σ H3
theorem FH {o i:Expr}{to ti:TE}{t:A8}(ho:PE X o to)(hi:PE X i ti)(hs:DN X t)
 (ha: ∀v,Nq (.Subscript o i pos) X.env v=(do
   let ov <-N8 [v] (eval o X.env)
   let iv <-N8 [v,ov] (eval i X.env)
   NJ pos
   N8 [v,ov,iv] (S8 ov iv v)
   release [v,ov,iv] []):=by intro _;rfl):PG X (.Subscript o i pos) (JV to ti t):=by
 intro af s σ H v u Q I r h;rw[ha];refine KY (ND (cy (ho af s σ H _ I h) λov s1 hq_=>?_))
 obtain⟨x,H1,I1,r1,q1⟩:=hq_
 refine KY (ND (cy (hi af s1 σ H1 _ I1 q1) λiv s2 hq_=>?_))
 obtain⟨y,H2,I2,r2,q2⟩:=hq_
 refine KY (Mc (KY (ND (cy (hs af s2 σ H2 x y v ov iv u _ I2 r1 r2 r q2) λ_ s3 hq_=>?_))))
 obtain⟨H3,I3,q3⟩:=hq_
 exact wpAny_release ⟨σ,H3,I3,q3⟩
def D3(te:TE)(g:TG):TS:=λD σ H=>te σ H λx H1=>g x σ H1 D.nx
theorem CC {tg e:Expr}{te:TE}{g:TG}(he:PE X e te)(hg:PG X tg g)(hs:Ox [tg] e pos.line X.env=pure false:=by rfl)(hw:Oy [tg] e X.env=pure none:=by rfl)
 (h1:(MA [tg] X.env).map (·.2)=[Nq tg X.env]:=by rfl):PS X (.Assign [tg] e pos) (D3 te g):=by
 intro af s σ H D I h;refine wpAny_Assign_stores (cy (he af s σ H _ I h) λv s1 ⟨x,H1,I1,r1,q1⟩=>?_) hs hw
 rw[h1];exact cy (hg af s1 σ H1 x v _ I1 r1 q1) λ_ s2 q=>q
theorem qL {i:Nat}{x:Str}{e:Expr}{te:TE}{pos':Pos}(hN:X.N.Nodup)(hi:X.N[i]? =some x)(hx:BK X.env.scope x)(he:PE X e te)(hs:MS e (some (.Name x pos')) pos.line X.env=pure false:=by rfl)(hf:X.fn x=true\/X.env.scope.names.lookup x=some .local:=by first|exact .inl rfl|exact .inr rfl|assumption):
 PS X (.Assign [.Name x pos'] e pos) (D3 te (xJ i)):=by
 intro af s σ H D I h;refine wpAny_Assign_Name (cy (he af s σ H _ I h) λv s1 ⟨y,H1,I1,r1,q1⟩=>?_) hs
 exact lK I1 hN hi hx r1 (λs2 I2=>⟨_,H1,I2,q1⟩) hf
def JP(i j:Nat)(ta:TA):TS:=λD σ H=>ta σ H λvs H1=> ∃v w,vs=[v,w]/\D.nx ((σ.set i (some v)).set j (some w)) H1
theorem Hm {i j:Nat}{x y:Str}{a b:Expr}{ta:TA}{px py pt:Pos}{kt k2 pt2}(hc:X.calm=true)(hN:X.N.Nodup)(hi:X.N[i]? =some x)(hj:X.N[j]? =some y)(hij:i≠j)
 (hx:X.env.scope.names.lookup x=some .local) (hy:X.env.scope.names.lookup y=some .local) (ha:PA X [a,b] ta)
 (hw:Oy [.Tuple [.Name x px,.Name y py] kt pt] (.Tuple [a,b] k2 pt2) X.env=pure (some [x,y]))
 (hs:Ox [.Tuple [.Name x px,.Name y py] kt pt] (.Tuple [a,b] k2 pt2) pos.line X.env=pure false:=by rfl):
 PS X (.Assign [.Tuple [.Name x px,.Name y py] kt pt] (.Tuple [a,b] k2 pt2) pos) (JP i j ta):=by
 intro af s σ H D I h;rw[exec_Assign_arm];refine KY (Mc ?_)
 rw[hs];refine KY (Lc ?_)
 rw[if_neg (by decide)]
 refine KY (Tuple_ (cy (ha _ af s σ H _ I h) λus s1 hq_=>?_))
 obtain⟨vs,H1,I1,r1,q1⟩:=hq_
 obtain⟨v,w,e1,q1⟩:=q1
 subst e1;obtain⟨u1,u2,rfl,rv,rw'⟩: ∃u1 u2,us=[u1,u2]/\RelV v u1/\RelV w u2:=by
  cases r1 with
  |cons p q=>
   cases q with
   |cons p' q'=>
    cases q'
    exact⟨_,_,rfl,p,p'⟩
 refine ML ?_ (by show 2<=Lm;decide)
 have I2:Inv X af σ H1 {s1 with heap:=s1.heap.push {cls:=.type "tuple",data:=.seq [u1,u2].toArray}}:=I1.kept (t':=s1.toks) λb o e=>K3 _ e
 rw[hw];refine KY (Lc ?_)
 show Lq (model X.prog X.w) X.A (do rule "assign.swapped-stores";let items <-unpackItems (.ref s1.heap.objs.size) 2 none;Qp [λv=>RJ X.env y v,λv=>RJ X.env x v] items.reverse;pure Xh) _ _ _
 refine KY (Op (KY (unpackItems_tuple (items:= #[u1,u2]) (I.ok.hd hc) (Xi s1.heap _) λh' hx'=>?_)))
 have I3:=I2.kept (h':=h') (t':=s1.toks) λb o e=>hx' b o (LF (Lh e)) e
 show Lq _ _ (Qp [λv=>RJ X.env y v,λv=>RJ X.env x v] [u2,u1]>>=λ_=>pure Xh) _ _ _
 refine KY (ON (RL (lK I3 hN hj (.inl hy) rw' (λs2 I4=>?_) (.inr hy))))
 refine ON (RL (lK I4 hN hi (.inl hx) rv (λs3 I5=>QM (Lc ?_)) (.inr hx)))
 rw[List.set_comm _ _ (Lw hij)] at I5;exact⟨_,H1,I5,q1⟩
end
section
variable {X:Cx}{pos:Pos}
def Gx(c:TT)(tb:TS):TS:=λD σ H=> ∃W:Nat->St->Hp->Prop,(∃m,W m σ H)/\ ∀m σ H,W m σ H->
 c σ H λb H1=>if b=true then∃N:St->Hp->Prop,(∀σ' H',N σ' H'-> ∃m',m'<m/\W m' σ' H')/\tb {D with nx:=N,ct:=N,bk:=D.nx} σ H1 else D.nx σ H1
theorem BZ {c:Expr}{body:List Stmt}{tc:TT}{tb:TS}(hp:Rb (model X.prog X.w) X.A X.env X.xe)(hc:PT X c tc)(hb:PSs X body tb):PS X (.While c body [] pos) (Gx tc tb):=by
 intro af s σ H D I h;obtain⟨W,⟨m0,w0⟩,turn⟩:=h
 refine wpAny_While (codeAny_whileLoop (λn s'=> ∃σ' H',Inv X af σ' H' s'/\W n σ' H') ?_ m0 ⟨σ,H,I,w0⟩)
 rintro n s1 ⟨σ1,H1,I1,w1⟩
 refine Nj hp (cy (hc af s1 σ1 H1 _ I1 (turn n σ1 H1 w1)) λb s2 hq_=>?_)
 obtain⟨H2,I2,q2⟩:=hq_
 cases b with
 |true=>
  obtain⟨N,hN,q2⟩:=q2
  rw[if_pos rfl];refine Nj hp (cy (hb af s2 σ1 H2 _ I2 q2) λf s3 q3=>?_)
  cases f with
  |next=>
   obtain⟨σ3,H3,I3,n3⟩:=q3
   obtain⟨m',hm,w3⟩:=hN σ3 H3 n3
   exact⟨m',hm,σ3,H3,I3,w3⟩
  |cont=>
   obtain⟨σ3,H3,I3,n3⟩:=q3
   obtain⟨m',hm,w3⟩:=hN σ3 H3 n3
   exact⟨m',hm,σ3,H3,I3,w3⟩
  |brk=>exact q3
  |ret v=>exact q3
 |false=>
  rw[if_neg N0];exact NX ⟨σ1,H2,I2,q2⟩
end
structure It where
 go:Nat->Hp->Prop
 yld:Nat->Hp->V->Hp->Prop
 stop:Nat->Hp->Prop
def kf(X:Cx)(af:List (Addr×Obj))(H:Hp)(b:Addr):Prop:=
 H b=none/\b≠X.env.locals/\b∉X.fs/\(b∈X.ex\/X.s₀.heap.objs.size<=b)/\(∀x c,X.env.cells.lookup x=some c->c≠b)/\ ∀p∈X.pn++af,p.1≠b
theorem Inv.fpOk {X:Cx}{af:List (Addr×Obj)}{σ:St}{H H':Hp}{s:KZ}{b:Addr}(I:Inv X af σ H s)(hb:s.heap.objs.size<=b)(hn:H' b=none):kf X af H' b:=by
 refine⟨hn,NA (Li I.lt hb),I.nofs hb,.inr (LW I.sz hb),λx c e z=>?_,λp hp z=>?_⟩
 ·obtain⟨v,q⟩:=I.cell x c e
  exact absurd (Li q.lt (by rw[z];exact hb)) (Np _)
 ·exact absurd (Li (Lh (I.pin p hp).1) (by rw[z];exact hb)) (Np _)
structure Turn(P:LB)(w:L1)(K:K7)(tg:Expr)(J:It)(fp:List Addr)(it:Addr)(tn:Nat->Heap->Prop):Prop where
 mem:it∈fp
 obj: ∀i h,tn i h-> ∀b∈fp,∃o,h.get? b=some o/\ ∀v,o.data≠ .cell v
 keep: ∀i h h',tn i h->(∀b∈fp,∀o,h.get? b=some o->h'.get? b=some o)->tn i h'
 item: ∀(X:Cx),X.prog=P->X.w=w->X.K=K->X.calm=true-> ∀(i:Nat) (af:List (Addr×Obj)) (s:KZ) (σ:St) (H:Hp) (E:KU->KZ->Prop),Inv X af σ H s->(∀b∈fp,kf X af H b)->tn i s.heap->J.go i H->
  Lq (model P w) X.A (OO (.ref it)) (λr s1=> ∃u,r=some u/\
   Lq (model P w) X.A (MO tg (.ref it) u) (λ_ s2=> ∃x H',Inv X af σ H' s2/\RelV x u/\J.yld i H x H'/\tn (i+1) s2.heap/\ ∀b∈fp,H' b=none) E s1) E s
 done: ∀(X:Cx),X.prog=P->X.w=w->X.K=K->X.calm=true-> ∀(i:Nat) (af:List (Addr×Obj)) (s:KZ) (σ:St) (H:Hp) (E:KU->KZ->Prop),Inv X af σ H s->(∀b∈fp,kf X af H b)->tn i s.heap->J.stop i H->
  Lq (model P w) X.A (OO (.ref it)) (λr s1=>r=none/\Inv X af σ H s1) E s
 self: ∀(A:LC) (i:Nat) (s:KZ) (Q:KU->KZ->Prop) (E:KU->KZ->Prop),tn i s.heap->Q (.ref it) s->Lq (model P w) A (OP (.ref it)) Q E s
abbrev TI:=St->Hp->(It->Hp->Prop)->Prop
def Kp(X:Cx)(af:List (Addr×Obj))(σ:St)(tg:Expr)(R:It->Hp->Prop)(itv:KU)(s2:KZ):Prop:=
 ∃(it:Addr) (fp:List Addr) (tn:Nat->Heap->Prop) (J:It) (H':Hp),itv=.ref it/\Inv X af σ H' s2/\Turn X.prog X.w X.K tg J fp it tn/\tn 0 s2.heap/\(∀b∈fp,kf X af H' b)/\R J H'
def PI(X:Cx)(tg iter:Expr)(wi:TI):Prop:=
 ∀(af:List (Addr×Obj)) (s:KZ) (σ:St) (H:Hp) (R:It->Hp->Prop),Inv X af σ H s->wi σ H R->
  Lq (model X.prog X.w) X.A (eval iter X.env) (λv s1=>Lq (model X.prog X.w) X.A (OP v) (Kp X af σ tg R) X.xe s1) X.xe s
theorem AN {M:Ro}{A:LC}{E:KU->KZ->Prop}{s:KZ}{tg:Expr}{it:Addr}{u:KU}{o:Obj}{n:String}{vs:Array KU}{Q:Unit->KZ->Prop}(ho:s.heap.get? it=some o)(hc:o.cls=.type n)(hd:o.data=.fields vs)
 (hn:["enumerate","zip","dict_itemiterator","dict_reverseitemiterator","odict_iterator","itertools.zip_longest","itertools.pairwise"].contains n=false) (hQ:Q () s):Lq M A (MO tg (.ref it) u) Q E s:=by
 unfold MO;cases tg<;>first
  |exact Lc hQ
  |(cases u<;>first
     |exact Lc hQ
     |(refine KY (wpAny_load ho ?_)
       rw[hc,hd];show Lq M A (if(["enumerate","zip","dict_itemiterator","dict_reverseitemiterator","odict_iterator","itertools.zip_longest","itertools.pairwise"].contains n&&vs[0]? ==some (NR _))=true then _ else _) Q E s
       rw[if_neg (by intro h;rw[hn,Bool.false_and] at h;cases h)]
       exact Lc hQ))
def JK(K:K7)(a:Addr):It:=
 ⟨λi H=> ∃xs x,SqL K H a xs/\xs[i]? =some x,λi H x H'=>H'=H/\ ∀xs,SqL K H a xs->xs[i]? =some x,λi H=> ∃xs,SqL K H a xs/\xs.length<=i⟩
def JH(K:K7)(a:Addr):It:=
 ⟨λi H=> ∃xs x,SqT K H a xs/\xs[i]? =some x,λi H x H'=>H'=H/\ ∀xs,SqT K H a xs->xs[i]? =some x,λi H=> ∃xs,SqT K H a xs/\xs.length<=i⟩
def HJ(lo:Int)(n:Nat):It:=⟨λi _=>i<n,λi H x H'=>H'=H/\x=.int (lo+i),λi _=>n<=i⟩
theorem y0 {P:LB}{w:L1}{K:K7}{tg:Expr}(a it:Addr):Turn P w K tg (JK K a) [it] it (λi h=>h.IsListIter it a i) where
 mem:=by simp
 obj:=λi h st b hb=>by
  have e:b=it:=by simpa using hb
  subst e;obtain⟨o,e,c,d⟩:=st
  exact⟨o,e,λv z=>by rw[d] at z;cases z⟩
 keep:=λi h h' st k=>st.at λo e=>k it (by simp) o e
 item:=by
  intro X hP hw hK hc i af s σ H E I hf st hg;subst hP hw hK;obtain⟨xs,x,hq,hx⟩:=hg
  obtain⟨its,rv,p,hz⟩:=I.list hq
  obtain⟨u,hu,ru⟩:=rv.get hx
  obtain⟨f0,f1,f2,f3,f4,f5⟩:=hf it (by simp)
  refine wpAny_pyNext_list_item st p.isList (x:=u) (by simpa using hu) λh' st' sb=>?_
  have I1:Inv X af σ H {s with heap:=h'}:=I.turned (t':=s.toks) (λb o hb e=>(sb.2 b hb).trans e) f0 f1 f3 f4 f5
  obtain⟨o,e,c,d⟩:=id st'
  exact⟨u,rfl,AN (s:={s with heap:=h'}) e c d (by decide) ⟨x,H,I1,ru,⟨rfl,λys hy=>by rw[I.list_inj hy hq];exact hx⟩,st',λb hb=>(hf b hb).1⟩⟩
 done:=by
  intro X hP hw hK hc i af s σ H E I hf st hg;subst hP hw hK;obtain⟨xs,hq,hx⟩:=hg
  obtain⟨its,rv,p,hz⟩:=I.list hq
  obtain⟨f0,f1,f2,f3,f4,f5⟩:=hf it (by simp)
  have hl:=rv.length
  exact wpAny_pyNext_list_end (I.ok.hd hc) st p.isList (by simp;omega) λh' eb=>⟨rfl,I.turned (t':=s.toks) (λb o hb e=>eb b o hb e) f0 f1 f3 f4 f5⟩
 self:=λ_ _ _ _ _ st h=>wpAny_pyIter_listiter st h
theorem wO {P:LB}{w:L1}{K:K7}{tg:Expr}(a it:Addr):Turn P w K tg (JH K a) [it] it (λi h=>h.IsTupleIter it a i) where
 mem:=by simp
 obj:=λi h st b hb=>by
  have e:b=it:=by simpa using hb
  subst e;obtain⟨o,e,c,d⟩:=st
  exact⟨o,e,λv z=>by rw[d] at z;cases z⟩
 keep:=λi h h' st k=>st.at λo e=>k it (by simp) o e
 item:=by
  intro X hP hw hK hc i af s σ H E I hf st hg;subst hP hw hK;obtain⟨xs,x,hq,hx⟩:=hg
  obtain⟨its,rv,p,hz⟩:=I.tuple hq
  obtain⟨u,hu,ru⟩:=rv.get hx
  obtain⟨f0,f1,f2,f3,f4,f5⟩:=hf it (by simp)
  refine wpAny_pyNext_tuple_item st (show s.heap.IsTuple a its.toArray from p) (x:=u) (by simpa using hu) λh' st' sb=>?_
  have I1:Inv X af σ H {s with heap:=h'}:=I.turned (t':=s.toks) (λb o hb e=>(sb.2 b hb).trans e) f0 f1 f3 f4 f5
  obtain⟨o,e,c,d⟩:=id st'
  exact⟨u,rfl,AN (s:={s with heap:=h'}) e c d (by decide) ⟨x,H,I1,ru,⟨rfl,λys hy=>by rw[I.tuple_inj hy hq];exact hx⟩,st',λb hb=>(hf b hb).1⟩⟩
 done:=by
  intro X hP hw hK hc i af s σ H E I hf st hg;subst hP hw hK;obtain⟨xs,hq,hx⟩:=hg
  obtain⟨its,rv,p,hz⟩:=I.tuple hq
  obtain⟨f0,f1,f2,f3,f4,f5⟩:=hf it (by simp)
  have hl:=rv.length
  exact wpAny_pyNext_tuple_end (I.ok.hd hc) st (show s.heap.IsTuple a its.toArray from p) (by simp;omega) λh' eb=>⟨rfl,I.turned (t':=s.toks) (λb o hb e=>eb b o hb e) f0 f1 f3 f4 f5⟩
 self:=λ_ _ _ _ _ st h=>wpAny_pyIter_tupleiter st h
theorem xb {P:LB}{w:L1}{K:K7}{tg:Expr}(it:Addr)(lo:Int)(n:Nat):Turn P w K tg (HJ lo n) [it] it (λi h=>IsRangeIter h it (lo+(i:Nat)*1) ((n:Int) - (i:Nat)) 1) where
 mem:=by simp
 obj:=λi h st b hb=>by
  have e:b=it:=by simpa using hb
  subst e;exact⟨_,st,λv z=>by
   have z':Data.fields _=Data.cell v:=z
   cases z'⟩
 keep:=λi h h' st k=>k it (by simp) _ st
 item:=by
  intro X hP hw hK hc i af s σ H E I hf st hg;subst hP hw hK;obtain⟨f0,f1,f2,f3,f4,f5⟩:=hf it (by simp)
  have W:=Walks.range (prog:=X.prog) (w:=X.w) (I.ok.hd hc) it lo 1 n
  refine W.item i s _ _ hg st λv h' tk hv st' kk=>?_
  obtain⟨t,rfl⟩:=hv
  have I1:Inv X af σ H {s with heap:=h',toks:=tk}:=I.turned (λb o hb e=>kk b o (by simpa using hb) e) f0 f1 f3 f4 f5
  refine⟨_,rfl,AN (s:={s with heap:=h',toks:=tk}) (n:="range_iterator") st' rfl rfl (by decide) ⟨.int (lo+i),H,I1,⟨t,?_⟩,⟨rfl,rfl⟩,st',λb hb=>(hf b hb).1⟩⟩
  rw[Int.mul_one]
 done:=by
  intro X hP hw hK hc i af s σ H E I hf st hg;subst hP hw hK;obtain⟨f0,f1,f2,f3,f4,f5⟩:=hf it (by simp)
  exact wpAny_pyNext_range_end (I.ok.hd hc) st (by have:n<=i:=hg;omega) λh' eb=>⟨rfl,I.turned (t':=s.toks) (λb o hb e=>eb b o hb e) f0 f1 f3 f4 f5⟩
 self:=λ_ _ _ _ _ st h=>wpAny_pyIter_rangeiter st h
section
variable {X:Cx}{tg:Expr}
def HA(K:K7)(tl:TE):TI:=λσ H R=>tl σ H λx H1=> ∃a,x=.ref a/\(∃xs,SqL K H1 a xs)/\R (JK K a) H1
def Kf(K:K7)(tl:TE):TI:=λσ H R=>tl σ H λx H1=> ∃a,x=.ref a/\(∃xs,SqT K H1 a xs)/\R (JH K a) H1
theorem xu {l:Expr}{tl:TE}(hl:PE X l tl):PI X tg l (HA X.K tl):=by
 intro af s σ H R I h;refine cy (hl af s σ H _ I h) λv s1 hq_=>?_
 obtain⟨x,H1,I1,r1,q1⟩:=hq_
 obtain⟨a,e,⟨xs,hq⟩,q⟩:=q1
 subst e;cases r1
 obtain⟨its,rv,p,hz⟩:=I1.list hq
 refine O2 p.isList ?_
 refine⟨s1.heap.objs.size,[s1.heap.objs.size],_,_,H1,rfl,I1.kept (t':=s1.toks) λb o e=>K3 _ e,y0 a _,⟨_,Lj _ rfl,rfl,rfl⟩,λb hb=>?_,q⟩
 have e:b=s1.heap.objs.size:=by simpa using hb
 subst e;exact I1.fpOk (Ld _) (I1.hok.fresh (Ld _))
theorem G3 {l:Expr}{tl:TE}(hl:PE X l tl):PI X tg l (Kf X.K tl):=by
 intro af s σ H R I h;refine cy (hl af s σ H _ I h) λv s1 hq_=>?_
 obtain⟨x,H1,I1,r1,q1⟩:=hq_
 obtain⟨a,e,⟨xs,hq⟩,q⟩:=q1
 subst e;cases r1
 obtain⟨its,rv,p,hz⟩:=I1.tuple hq
 refine N1 (show s1.heap.IsTuple a its.toArray from p) ?_
 refine⟨s1.heap.objs.size,[s1.heap.objs.size],_,_,H1,rfl,I1.kept (t':=s1.toks) λb o e=>K3 _ e,wO a _,⟨_,Lj _ rfl,rfl,rfl⟩,λb hb=>?_,q⟩
 have e:b=s1.heap.objs.size:=by simpa using hb
 subst e;exact I1.fpOk (Ld _) (I1.hok.fresh (Ld _))
theorem uz {af:List (Addr×Obj)}{σ:St}{H:Hp}{s:KZ}{R:It->Hp->Prop}{E:KU->KZ->Prop}{lo hi:Int}{t u v:Tok}{tk:Nat}(I:Inv X af σ H s)(h1: -(2^62)<=lo)(h2:lo<2^62)(h3: -(2^62)<=hi)(h4:hi<2^62)
 (q:R (HJ lo (hi-lo).toNat) H):Lq (model X.prog X.w) X.A (OP (.ref s.heap.objs.size)) (Kp X af σ tg R) E {s with heap:=s.heap.push {cls:=.type "range",data:=.fields #[.int lo t,.int hi u,.int 1 v]},toks:=tk}:=by
 refine wpAny_pyIter_range (IsRange.new ..) (small_one h1 h2 h3 h4) ?_
 have I1:Inv X af σ H {s with heap:=s.heap.push {cls:=.type "range",data:=.fields #[.int lo t,.int hi u,.int 1 v]},toks:=tk}:=I.kept λb o e=>K3 _ e
 refine⟨(s.heap.push {cls:=.type "range",data:=.fields #[.int lo t,.int hi u,.int 1 v]}).objs.size,[(s.heap.push {cls:=.type "range",data:=.fields #[.int lo t,.int hi u,.int 1 v]}).objs.size],_,_,H,rfl,
  I1.kept (t':=tk) λb o e=>K3 _ e,xb _ lo (hi-lo).toNat,?_,λb hb=>?_,q⟩
 ·have e1:lo+((0:Nat):Int)*1=lo:=by simp
  have e2:(((hi-lo).toNat:Nat):Int) - ((0:Nat):Int)=N6 lo hi 1:=by rw[rangeSize_one];split<;>omega
  show IsRangeIter _ _ (lo+((0:Nat):Int)*1) ((((hi-lo).toNat:Nat):Int) - ((0:Nat):Int)) 1;rw[e1,e2];exact Lj _ rfl
 ·have e:b=(s.heap.push {cls:=.type "range",data:=.fields #[.int lo t,.int hi u,.int 1 v]}).objs.size:=by simpa using hb
  subst e;exact I1.fpOk (Ld _) (I1.hok.fresh (Ld _))
def HS(ta:TA):TI:=λσ H R=>ta σ H λvs H1=> ∃j:Int,vs=[.int j]/\ -(2^62)<=j/\j<2^62/\R (HJ 0 j.toNat) H1
def IV(ta:TA):TI:=λσ H R=>ta σ H λvs H1=> ∃i j:Int,vs=[.int i,.int j]/\(-(2^62)<=i/\i<2^62/\ -(2^62)<=j/\j<2^62)/\R (HJ i (j-i).toNat) H1
theorem zP {a:Expr}{ta:TA}{p pos:Pos}(hg:Gl X "range")(hm:X.mg "range"=none)(ha:PA X [a] ta)(hs:Le [a] X.env=[(false,eval a X.env)]:=by rfl):PI X tg (.Call (.Name "range" p) [a] [] pos) (HS ta):=by
 intro af s σ H R I h;refine Call_ (oR I hg hm boot_range (MH (cy (ha pos af s σ H _ I h) λus s1 ⟨vs,H1,I1,r1,q1⟩=>?_) hs rfl))
 obtain⟨j,e,q1,q2,q⟩:=q1
 subst e;cases r1 with
 |cons r rr=>
  cases rr
  obtain⟨t,rfl⟩:=r
  exact call_range_1 (uz I1 (by omega) (by omega) q1 q2 (by simpa using q))
theorem zI {a b:Expr}{ta:TA}{p pos:Pos}(hg:Gl X "range")(hm:X.mg "range"=none)(ha:PA X [a,b] ta)(hs:Le [a,b] X.env=[(false,eval a X.env),(false,eval b X.env)]:=by rfl)(hs2:Le [b] X.env=[(false,eval b X.env)]:=by rfl):
 PI X tg (.Call (.Name "range" p) [a,b] [] pos) (IV ta):=by
 intro af s σ H R I h;refine Call_ (oR I hg hm boot_range (MH (cy (ha pos af s σ H _ I h) λus s1 ⟨vs,H1,I1,r1,q1⟩=>?_) (by rw[hs,hs2]) (by rw[hs2];rfl)))
 obtain⟨i,j,e,⟨q1,q2,q3,q4⟩,q⟩:=q1
 subst e;cases r1 with
 |cons r rr=>
  cases rr with
  |cons r' rr=>
   cases rr
   obtain⟨t,rfl⟩:=r
   obtain⟨t',rfl⟩:=r'
   exact call_range_2 (uz I1 q1 q2 q3 q4 q)
def JR(wi:TI)(g:TG)(tb:TS):TS:=λD σ H=>wi σ H λJ H1=> ∃W:Nat->Nat->St->Hp->Prop,(∃m,W 0 m σ H1)/\ ∀i m σ H,W i m σ H->
 (J.stop i H/\D.nx σ H)\/(J.go i H/\ ∃N:St->Hp->Prop,(∀σ' H',N σ' H'-> ∃m',m'<m/\W (i+1) m' σ' H')/\ ∀x H',J.yld i H x H'->g x σ H' λσ2 H2=>tb {D with nx:=N,ct:=N,bk:=D.nx} σ2 H2)
def mT(fp:List Addr)(h:Heap):List (Addr×Obj):=fp.filterMap λb=>(h.get? b).map λo=>(b,o)
theorem fo {fp:List Addr}{h:Heap}{b:Addr}{o:Obj}(hb:b∈fp)(e:h.get? b=some o):(b,o)∈mT fp h:=QC.mpr ⟨b,hb,by rw[e];rfl⟩
theorem zS {fp:List Addr}{h:Heap}{p:Addr×Obj}(hp:p∈mT fp h):p.1∈fp/\h.get? p.1=some p.2:=by
 obtain⟨b,hb,e⟩:=QC.mp hp
 cases q:h.get? b with
 |none=>rw[q] at e;cases e
 |some o=>
  rw[q] at e;have e':(b,o)=p:=LH e
  subst e';exact⟨hb,q⟩
theorem Inv.pinned {af:List (Addr×Obj)}{σ:St}{H:Hp}{s:KZ}{fp:List Addr}(I:Inv X af σ H s)(hf: ∀b∈fp,kf X af H b)(ho: ∀b∈fp,∃o,s.heap.get? b=some o/\ ∀v,o.data≠ .cell v):Inv X (af++mT fp s.heap) σ H s:=
 I.pins_of λp hp=>(NW.mp hp).elim (λz=>I.pin p (Lx _ z)) λz=>by
  obtain⟨hb,e⟩:=zS z
  obtain⟨f0,f1,f2,_⟩:=hf p.1 hb
  obtain⟨o,e',d⟩:=ho p.1 hb
  rw[e] at e';cases e';exact⟨e,f0,f1,f2,d⟩
theorem Inv.unpinned {af pl:List (Addr×Obj)}{σ:St}{H:Hp}{s:KZ}(I:Inv X (af++pl) σ H s):Inv X af σ H s:=I.pins_of λp hp=>I.pin p (Lx _ (Mi _ hp))
theorem FL {iter:Expr}{body:List Stmt}{wi:TI}{g:TG}{tb:TS}{pos:Pos}(hp:Rb (model X.prog X.w) X.A X.env X.xe)(hc:X.calm=true)(hi:PI X tg iter wi)(hg:PG X tg g)(hb:PSs X body tb)
 (hs: ∀x,Lz iter X.env x=pure x:=by intro _;rfl):PS X (.For tg iter body [] pos) (JR wi g tb):=by
 intro af s σ H D I h;refine wpAny_For (cy (hi af s σ H _ I h) λv s1 h1=>cy h1 λitv s2 h2=>?_) hs
 obtain⟨it,fp,tn,J,H2,e,I2,T,st2,f2,W,⟨m0,w0⟩,turn⟩:=h2
 subst e;have stat: ∀ {H':Hp},(∀b∈fp,H' b=none)-> ∀b∈fp,kf X af H' b:=λhn b hb=>⟨hn b hb,(f2 b hb).2⟩
 refine codeAny_forLoop_any (λn s'=> ∃i σ' H',Inv X af σ' H' s'/\tn i s'.heap/\(∀b∈fp,H' b=none)/\W i n σ' H') ?_ m0 ⟨0,σ,H2,I2,st2,λb hb=>(f2 b hb).1,w0⟩
 rintro n s3 ⟨i,σ3,H3,I3,st3,fr3,w3⟩
 rcases turn i n σ3 H3 w3 with⟨stop,qn⟩|⟨go,N,hN,step⟩
 ·refine Nj hp (cy (T.done X rfl rfl rfl hc i af s3 σ3 H3 X.xe I3 (stat fr3) st3 stop) λr s4 hq_=>?_)
  obtain⟨hr,I4⟩:=hq_
  subst hr;exact NX ⟨σ3,H3,I4,qn⟩
 ·refine Nj hp (cy (T.item X rfl rfl rfl hc i af s3 σ3 H3 X.xe I3 (stat fr3) st3 go) λr s4 hq_=>?_)
  obtain⟨u,hr,h4⟩:=hq_
  subst hr;refine Nj hp (cy h4 λ_ s5 hq_=>?_)
  obtain⟨x,H5,I5,r5,y5,st5,fr5⟩:=hq_
  have I5':=I5.pinned (stat fr5) (T.obj _ _ st5)
  refine Nj hp (cy (hg _ s5 σ3 H5 x u _ I5' r5 (step x H5 y5)) λ_ s6 hq_=>?_)
  obtain⟨σ6,H6,I6,q6⟩:=hq_
  refine Nj hp (cy (hb _ s6 σ6 H6 _ I6 q6) λf s7 q7=>?_)
  have Qq: ∀ {σ7:St} {H7:Hp},Inv X (af++mT fp s5.heap) σ7 H7 s7->N σ7 H7-> ∃m,m<n/\ ∃i σ' H',Inv X af σ' H' s7/\tn i s7.heap/\(∀b∈fp,H' b=none)/\W i m σ' H':=λ{σ7 H7} I7 n7=>by
   obtain⟨m',hm,w7⟩:=hN σ7 H7 n7
   refine⟨m',hm,i+1,σ7,H7,I7.unpinned,T.keep _ _ _ st5 λb hb o e=>(I7.pin (b,o) (Lx _ (Lx _ (fo hb e)))).1,λb hb=>?_,w7⟩
   obtain⟨o,e,d⟩:=T.obj _ _ st5 b hb
   exact(I7.pin (b,o) (Lx _ (Lx _ (fo hb e)))).2.1
  cases f with
  |next=>obtain⟨σ7,H7,I7,n7⟩:=q7;exact Qq I7 n7
  |cont=>obtain⟨σ7,H7,I7,n7⟩:=q7;exact Qq I7 n7
  |brk=>obtain⟨σ7,H7,I7,q7⟩:=q7;exact⟨σ7,H7,I7.unpinned,q7⟩
  |ret v=>obtain⟨x7,σ7,H7,I7,r7,q7⟩:=q7;exact⟨x7,σ7,H7,I7.unpinned,r7,q7⟩
end
abbrev R2:=V->V->Hp->VK->Prop
def md(X:Cx)(f:KU->KU->Sem KU)(r:R2):Prop:=
 ∀(af:List (Addr×Obj)) (s:KZ) (σ:St) (H:Hp) (x y:V) (v u:KU) (Q:VK),Inv X af σ H s->RelV x v->RelV y u->r x y H Q->
  Lq (model X.prog X.w) X.A (f v u) (EP X af σ Q) X.xe s
def Kg(X:Cx)(f:KU->Sem KU)(r:V->Hp->VK->Prop):Prop:=
 ∀(af:List (Addr×Obj)) (s:KZ) (σ:St) (H:Hp) (x:V) (v:KU) (Q:VK),Inv X af σ H s->RelV x v->r x H Q->
  Lq (model X.prog X.w) X.A (f v) (EP X af σ Q) X.xe s
def jh(X:Cx)(f:KU)(r:List V->Hp->VK->Prop):Prop:=
 ∀(af:List (Addr×Obj)) (s:KZ) (σ:St) (H:Hp) (xs:List V) (us:List KU) (Q:VK),Inv X af σ H s->Vals xs us->r xs H Q->
  Lq (model X.prog X.w) X.A (call f us) (EP X af σ Q) X.xe s
def J4(X:Cx)(r:V->Hp->(Bool->Hp->Prop)->Prop):Prop:=
 ∀(af:List (Addr×Obj)) (s:KZ) (σ:St) (H:Hp) (x:V) (v:KU) (Q:Bool->Hp->Prop),Inv X af σ H s->RelV x v->r x H Q->
  Lq (model X.prog X.w) X.A (truthy v) (TP X af σ Q) X.xe s
def Hw(r:R2)(ta tb:TE):TE:=λσ H Q=>ta σ H λx H1=>tb σ H1 λy H2=>r x y H2 Q
def KN(r:V->Hp->VK->Prop)(ta:TE):TE:=λσ H Q=>ta σ H λx H1=>r x H1 Q
def rI(C:Int->Int->Prop)(g:Int->Int->V):R2:=λx y H Q=> ∃i j,x=.int i/\y=.int j/\C i j/\Q (g i j) H
def CU(g:Int->Int->V):R2:=λx y H Q=> ∃i j,x=.int i/\y=.int j/\Q (g i j) H
def rU(g:Int->V):V->Hp->VK->Prop:=λx H Q=> ∃i,x=.int i/\Q (g i) H
section
variable {X:Cx}{a b c:Expr}{ta tb tc:TE}{pos:Pos}
theorem GJ(ha:PE X a ta)(hb:PE X b tb){af:List (Addr×Obj)}{s:KZ}{σ:St}{H:Hp}{R:V->V->Hp->Prop}(I:Inv X af σ H s)
 (h:ta σ H λx H1=>tb σ H1 λy H2=>R x y H2) {Q:KU->KZ->Prop} {f:KU->KU->Sem KU}
 (hf: ∀v u s2 x y H2,Inv X af σ H2 s2->RelV x v->RelV y u->R x y H2->Lq (model X.prog X.w) X.A (f v u) Q X.xe s2):
 Lq (model X.prog X.w) X.A (eval a X.env) (λv s₁=>Lq (model X.prog X.w) X.A (eval b X.env) (λu s₂=>Lq (model X.prog X.w) X.A (f v u) Q X.xe s₂) X.xe s₁) X.xe s:=by
 refine cy (ha af s σ H _ I h) λv s1 hq_=>?_
 obtain⟨x,H1,I1,r1,q1⟩:=hq_
 refine cy (hb af s1 σ H1 _ I1 q1) λu s2 hq_=>?_
 obtain⟨y,H2,I2,r2,q2⟩:=hq_
 exact hf v u s2 x y H2 I2 r1 r2 q2
theorem E3 {op:UD}{r:R2}(ho:md X (N9 op) r)(ha:PE X a ta)(hb:PE X b tb):PE X (.BinOp a op b pos) (Hw r ta tb):=by
 intro af s σ H Q I h;exact wpAny_BinOp (GJ ha hb I h λv u s2 x y H2 I2 rx ry q=>ho af s2 σ H2 x y v u Q I2 rx ry q)
theorem Iw {op:UnaryOp}{r:V->Hp->VK->Prop}(ho:Kg X (unaryOp op) r)(ha:PE X a ta):PE X (.UnaryOp op a pos) (KN r ta):=by
 intro af s σ H Q I h;exact UnaryOp_ (cy (ha af s σ H _ I h) λv s1 ⟨x,H1,I1,r1,q1⟩=>ho af s1 σ H1 x v Q I1 r1 q1)
theorem Je {f:KU->KU->Sem KU}{C:Int->Int->Prop}{g:Int->Int->Int}
 (rule: ∀(i j:Int) (t u:Tok) (s:KZ) (Q:KU->KZ->Prop) (E:KU->KZ->Prop),C i j->Q (.int (g i j) s.toks) {s with toks:=s.toks+1}->Lq (model X.prog X.w) X.A (f (.int i t) (.int j u)) Q E s):
 md X f (rI C λi j=>.int (g i j)):=by
 intro af s σ H x y v u Q I rx ry h;obtain⟨i,j,rfl,rfl,hc,q⟩:=h
 obtain⟨t,rfl⟩:=rx
 obtain⟨t',rfl⟩:=ry
 exact rule i j t t' s _ _ hc ⟨.int (g i j),H,I.tok _,⟨_,rfl⟩,q⟩
theorem HG {f:KU->KU->Sem KU}{g:Int->Int->Int}
 (rule: ∀(i j:Int) (t u:Tok) (s:KZ) (Q:KU->KZ->Prop) (E:KU->KZ->Prop),Q (.int (g i j) s.toks) {s with toks:=s.toks+1}->Lq (model X.prog X.w) X.A (f (.int i t) (.int j u)) Q E s):
 md X f (CU λi j=>.int (g i j)):=by
 intro af s σ H x y v u Q I rx ry h;obtain⟨i,j,rfl,rfl,q⟩:=h
 obtain⟨t,rfl⟩:=rx
 obtain⟨t',rfl⟩:=ry
 exact rule i j t t' s _ _ ⟨.int (g i j),H,I.tok _,⟨_,rfl⟩,q⟩
theorem E2 {f:KU->KU->Sem KU}{g:Int->Int->Bool}
 (rule: ∀(i j:Int) (t u:Tok) (s:KZ) (Q:KU->KZ->Prop) (E:KU->KZ->Prop),Q (.bool (g i j)) s->Lq (model X.prog X.w) X.A (f (.int i t) (.int j u)) Q E s):
 md X f (CU λi j=>.bl (g i j)):=by
 intro af s σ H x y v u Q I rx ry h;obtain⟨i,j,rfl,rfl,q⟩:=h
 obtain⟨t,rfl⟩:=rx
 obtain⟨t',rfl⟩:=ry
 exact rule i j t t' s _ _ ⟨.bl (g i j),H,I,rfl,q⟩
def IK(i j:Int):Prop:=0<=j/\j<=1000000/\i.natAbs<2^64
theorem z9:md X (N9 .Add) (CU λi j=>.int (i+j)):=HG λ_ _ _ _ _ _ _ q=>add_int q
theorem FW:md X (N9 .Sub) (CU λi j=>.int (i-j)):=HG λ_ _ _ _ _ _ _ q=>sub_int q
theorem Ge:md X (N9 .Mod) (rI (λ_ j=>0<j) λi j=>.int (i % j)):=Je λi j _ _ _ _ _ hc q=>by
 have h1:(0:Int)<j:=hc
 exact mod_int' (by omega) (by rw[Int.fmod_eq_emod_of_nonneg i (by omega)];exact q)
theorem Gs:md X (N9 .Pow) (rI IK λi j=>.int (i^j.toNat)):=Je λ_ _ _ _ _ _ _ hc q=>pow_int_small hc.1 hc.2.1 hc.2.2 q
theorem KC {f:KU->Sem KU}{g:Int->Int}
 (rule: ∀(i:Int) (t:Tok) (s:KZ) (Q:KU->KZ->Prop) (E:KU->KZ->Prop),Q (.int (g i) s.toks) {s with toks:=s.toks+1}->Lq (model X.prog X.w) X.A (f (.int i t)) Q E s):
 Kg X f (rU λi=>.int (g i)):=by
 intro af s σ H x v Q I rx h;obtain⟨i,rfl,q⟩:=h
 obtain⟨t,rfl⟩:=rx
 exact rule i t s _ _ ⟨.int (g i),H,I.tok _,⟨_,rfl⟩,q⟩
theorem GQ:Kg X (unaryOp .USub) (rU λi=>.int (-i)):=KC λ_ _ _ _ _ q=>neg_int q
end
section
variable {X:Cx}{a b c:Expr}{ta tb tc:TE}{pos:Pos}
theorem pj:md X (Mp .Lt) (CU λi j=>.bl (decide (i<j))):=E2 λ_ _ _ _ _ _ _ q=>lt_int q
theorem pe:md X (Mp .LtE) (CU λi j=>.bl (decide (i<=j))):=E2 λ_ _ _ _ _ _ _ q=>le_int q
theorem Fx:md X (Mp .Gt) (CU λi j=>.bl (decide (j<i))):=E2 λ_ _ _ _ _ _ _ q=>gt_int q
theorem E5:md X (Mp .GtE) (CU λi j=>.bl (decide (j<=i))):=E2 λ_ _ _ _ _ _ _ q=>ge_int q
theorem bA(b:Expr){op:Rp}(h:op≠ .In:=by decide)(h2:op≠ .NotIn:=by decide):NT op b=false:=by
 have e1:(op==CmpOp.In)=false:=by cases op<;>first|rfl|exact absurd rfl h
 have e2:(op==CmpOp.NotIn)=false:=by cases op<;>first|rfl|exact absurd rfl h2
 cases b<;>simp[NT,e1,e2]
theorem D6 {op:Rp}{r:R2}(ho:md X (Mp op) r)(ha:PE X a ta)(hb:PE X b tb)(hm:NT op b=false):PE X (.Compare a [op] [b] pos) (Hw r ta tb):=by
 intro af s σ H Q I h;exact wpAny_Compare1 (GJ ha hb I h λv u s2 x y H2 I2 rx ry q=>ho af s2 σ H2 x y v u Q I2 rx ry q) hm
def Fy(t:TE):TT:=λσ H Q=>t σ H λx H'=> ∃k,x=.bl k/\Q k H'
theorem Es {op:Rp}{r:R2}(ho:md X (Mp op) r)(ha:PE X a ta)(hb:PE X b tb)(hm:NT op b=false):PT X (.Compare a [op] [b] pos) (Fy (Hw r ta tb)):=by
 intro af s σ H Q I h;refine wpAny_isTrue_Compare1 (cy (ha af s σ H _ I h) λv s1 ⟨x,H1,I1,r1,q1⟩=>cy (hb af s1 σ H1 _ I1 q1) λu s2 ⟨y,H2,I2,r2,q2⟩=>
  cy (ho af s2 σ H2 x y v u _ I2 r1 r2 q2) λc s3 ⟨z,H3,I3,r3,k,e,q3⟩=>?_) hm
 subst e;cases r3
 exact MZ ⟨H3,I3,q3⟩
def wy(r r':R2)(ta tb tc:TE):TE:=λσ H Q=>ta σ H λx H1=>tb σ H1 λy H2=>r x y H2 λz H3=> ∃k,z=.bl k/\
 (if k=true then tc σ H3 λw' H4=>r' y w' H4 Q else Q (.bl false) H3)
theorem AT {op op':Rp}{r r':R2}(ho:md X (Mp op) r)(ho':md X (Mp op') r')(ha:PE X a ta)(hb:PE X b tb)(hc:PE X c tc)
 (hm:Rc [op,op'] [b,c]=false:=by with_unfolding_all rfl):PE X (.Compare a [op,op'] [b,c] pos) (wy r r' ta tb tc):=by
 intro af s σ H Q I h;refine Compare_chain (cy (ha af s σ H _ I h) λv s1 ⟨x,H1,I1,r1,q1⟩=>chain_link (cy (hb af s1 σ H1 _ I1 q1) λu s2 ⟨y,H2,I2,r2,q2⟩=>
  cy (ho af s2 σ H2 x y v u _ I2 r1 r2 q2) λd s3 ⟨z,H3,I3,r3,k,e,q3⟩=>?_)) hm
 subst e;cases r3
 refine MZ ?_
 cases k with
 |false=>exact ite_ff ⟨.bl false,H3,I3,rfl,q3⟩
 |true=>exact ite_tt (chain_last (cy (hc af s3 σ H3 _ I3 q3) λw' s4 ⟨z',H4,I4,r4,q4⟩=>ho' af s4 σ H4 y z' u w' Q I4 r2 r4 q4))
theorem A9 {op op':Rp}{r r':R2}(ho:md X (Mp op) r)(ho':md X (Mp op') r')(ha:PE X a ta)(hb:PE X b tb)(hc:PE X c tc)
 (hm:Rc [op,op'] [b,c]=false:=by with_unfolding_all rfl):PT X (.Compare a [op,op'] [b,c] pos) (Fy (wy r r' ta tb tc)):=by
 intro af s σ H Q I h;refine isTrue_chain (cy (ha af s σ H _ I h) λv s1 ⟨x,H1,I1,r1,q1⟩=>test_link (cy (hb af s1 σ H1 _ I1 q1) λu s2 ⟨y,H2,I2,r2,q2⟩=>
  cy (ho af s2 σ H2 x y v u _ I2 r1 r2 q2) λd s3 ⟨z,H3,I3,r3,k,e,q3⟩=>?_)) hm
 subst e;cases r3
 refine MZ ?_
 cases k with
 |false=>
  obtain⟨k',e',q'⟩:=q3
  cases e'
  exact ite_ff ⟨H3,I3,q'⟩
 |true=>
  refine ite_tt (test_last (cy (hc af s3 σ H3 _ I3 q3) λw' s4 ⟨z',H4,I4,r4,q4⟩=>cy (ho' af s4 σ H4 y z' u w' _ I4 r2 r4 q4) λd' s5 hq_=>?_))
  obtain⟨z2,H5,I5,r5,k2,e2,q5⟩:=hq_
  subst e2;cases r5
  exact MZ ⟨H5,I5,q5⟩
def Gw(K:K7)(x:V)(H:Hp)(k:Bool):Prop:=
 match x with
 | .non=>k=false
 | .bl b=>k=b
 | .int i=>k=(i !=0)
 | .str y=>y.length<=Lm/\k=((y.length:Int) !=0)
 | .byt y=>y.size<=Lm/\k=((y.size:Int) !=0)
 | .ref p=>(∃xs,SqL K H p xs/\k= !xs.isEmpty)\/(∃xs,SqT K H p xs/\k= !xs.isEmpty)\/ ∃kvs,H p=some (.dK kvs)/\k= !kvs.isEmpty
 |_=>False
theorem wG {κ:Type}{kvs:List (κ×V)}{vs:List (κ×KU)}(r:KV kvs vs):(!vs.isEmpty)= !kvs.isEmpty:=by
 cases r<;>rfl
theorem p6 {xs:List V}{its:List KU}(r:Vals xs its):(!its.toArray.isEmpty)= !xs.isEmpty:=by
 cases r<;>simp
theorem lZ:(Lm:Nat)<2^63:=by rw[Rq];decide
theorem GS:J4 X (λx H Q=> ∃k,Gw X.K x H k/\Q k H):=by
 intro af s σ H x v Q I rx h;obtain⟨k,e,q⟩:=h
 have hl:=lZ
 have hs:Lm=16777216:=Rq
 cases x with
 |non=>
  cases rx
  have e':k=false:=e
  subst e';exact truthy_none ⟨H,I,q⟩
 |bl b=>
  cases rx
  have e':k=b:=e
  subst e';exact MZ ⟨H,I,q⟩
 |int i=>
  obtain⟨t,rfl⟩:=rx
  have e':k=(i !=0):=e
  subst e';exact PySem.P.truthy_int ⟨H,I,q⟩
 |str y=>
  obtain⟨t,rfl⟩:=rx
  obtain⟨hy,e'⟩:y.length<=Lm/\k=((y.length:Int) !=0):=e
  subst e';exact PySem.P.truthy_str (by omega) ⟨H,I.tok _,q⟩
 |byt y=>
  obtain⟨t,rfl⟩:=rx
  obtain⟨hy,e'⟩:y.size<=Lm/\k=((y.size:Int) !=0):=e
  subst e';exact W.truthy_bytes (by omega) ⟨H,I.tok _,q⟩
 |ref p=>
  cases rx
  have e':(∃xs,SqL X.K H p xs/\k= !xs.isEmpty)\/(∃xs,SqT X.K H p xs/\k= !xs.isEmpty)\/ ∃kvs,H p=some (.dK kvs)/\k= !kvs.isEmpty:=e
  rcases e' with⟨xs,hx,e'⟩|⟨xs,hx,e'⟩|⟨kvs,hx,e'⟩
  ·subst e'
   obtain⟨its,r,pl,hz⟩:=I.list hx
   have hlen:=r.length
   exact wpAny_truthy_list pl.isList (by simp only[Lr];omega) ⟨H,I.tok _,by rw[p6 r];exact q⟩
  ·subst e'
   obtain⟨its,r,pl,hz⟩:=I.tuple hx
   have hlen:=r.length
   exact truthy_tuple pl (by simp only[Lr];omega) ⟨H,I.tok _,by rw[p6 r];exact q⟩
  ·subst e'
   obtain⟨hz,hS,vs,r,m⟩:kvs.length<=Lm/\(p==M1)=false/\ ∃vs,KV kvs vs/\s.heap.DictOf (eU X.prog X.w) p vs:=I.hok p _ hx
   have hlen:kvs.length=vs.length:=O5 r
   exact wpAny_truthy_dict hS m (by omega) ⟨H,I.tok _,by rw[wG r];exact q⟩
 |_=>exact(show False from e).elim
theorem Cg(ha:PE X a ta)(he: ∀whole,isTrue a X.env whole=(do let v <-whole;NJ a.pos;N8 [v] (truthy v))):
 PT X a (λσ H Q=>ta σ H λx H'=> ∃k,Gw X.K x H' k/\Q k H'):=by
 intro af s σ H Q I h;exact isTrue_plain (cy (ha af s σ H _ I h) λv s1 ⟨x,H1,I1,r1,q1⟩=>GS af s1 σ H1 x v Q I1 r1 q1) (he _)
theorem mK {x:V}{us:List KU}(r:Vals [x] us): ∃u,us=[u]/\RelV x u:=by
 cases r with
 |cons r1 r2=>cases r2;exact⟨_,rfl,r1⟩
theorem Fh {x y:V}{us:List KU}(r:Vals [x,y] us): ∃u w',us=[u,w']/\RelV x u/\RelV y w':=by
 cases r with
 |cons r1 r2=>
  cases r2 with
  |cons r3 r4=>cases r4;exact⟨_,_,rfl,r1,r3⟩
theorem BP:jh X (.builtin "abs") (λxs H Q=> ∃i,xs=[.int i]/\Q (.int (if i<0 then -i else i)) H):=by
 intro af s σ H xs us Q I r h;obtain⟨i,rfl,q⟩:=h
 obtain⟨u,rfl,t,rfl⟩:=mK r
 exact call_abs_int λu tk=>⟨.int (if i<0 then -i else i),H,I.tok _,⟨_,rfl⟩,q⟩
theorem rY(hc:X.calm=true):jh X (.builtin "max") (λxs H Q=> ∃i j,xs=[.int i,.int j]/\Q (.int (if j>i then j else i)) H):=by
 intro af s σ H xs us Q I r h;obtain⟨i,j,rfl,q⟩:=h
 obtain⟨u,w',rfl,⟨t,rfl⟩,⟨t',rfl⟩⟩:=Fh r
 refine max_two_ints (I.ok.hd hc) λh' tk k=>⟨_,H,I.kept k,?_,q⟩
 by_cases hj:j>i
 ·rw[if_pos hj,if_pos hj];exact⟨_,rfl⟩
 ·rw[if_neg hj,if_neg hj];exact⟨_,rfl⟩
theorem oz(hc:X.calm=true):jh X (.builtin "min") (λxs H Q=> ∃i j,xs=[.int i,.int j]/\Q (.int (if j<i then j else i)) H):=by
 intro af s σ H xs us Q I r h;obtain⟨i,j,rfl,q⟩:=h
 obtain⟨u,w',rfl,⟨t,rfl⟩,⟨t',rfl⟩⟩:=Fh r
 refine min_two_ints (I.ok.hd hc) λh' tk k=>⟨_,H,I.kept k,?_,q⟩
 by_cases hj:j<i
 ·rw[if_pos hj,if_pos hj];exact⟨_,rfl⟩
 ·rw[if_neg hj,if_neg hj];exact⟨_,rfl⟩
end
theorem RelO.some_of {v:V}{o:Option KU}(r:RelO (some v) o): ∃u,o=some u/\RelV v u:=by
 cases o with
 |none=>exact(show False from r).elim
 |some u=>exact⟨u,rfl,r⟩
structure Room(k:Nat)(A:LC):Prop where
 hd:A.handled=none
 dp:A.depth+3*k+5<RO
 un:A.units+16*k+200<M4
theorem Room.mono {j k:Nat}{A:LC}(r:Room k A)(h:j<=k):Room j A:=⟨r.hd,by have:=r.dp;omega,by have:=r.un;omega⟩
theorem Room.deeper {k:Nat}{A:LC}(r:Room (k+1) A)(env:Env):Room k (A.deeper env):=
 ⟨r.hd,by have:=r.dp;show A.depth+1+3*k+5<_;omega,by have:=r.un;show A.units+3+16*k+200<_;omega⟩
theorem Room.depth {k:Nat}{A:LC}(r:Room k A):A.depth<recursionLimit:=by have:=r.dp;omega
theorem Room.units {k:Nat}{A:LC}(r:Room k A):A.units+64<cLine:=by have:=r.un;omega
def J1:TA:=λ_ H Q=>Q [] H
def IF(ta:TE)(tr:TA):TA:=λσ H Q=>ta σ H λx H1=>tr σ H1 λxs H2=>Q (x::xs) H2
section
variable {X:Cx}{e:Expr}{es:List Expr}{te:TE}{t:TA}{pos:Pos}
theorem mL:PA X [] J1:=λ_ _ _ _ H Q I h=>QN ⟨[],H,I,.nil,h⟩
theorem il(ha:PE X e te)(hr:PA X es t)(hs:Le (e::es) X.env=(false,eval e X.env)::Le es X.env:=by rfl):PA X (e::es) (IF te t):=by
 intro pos af s σ H Q I h;rw[hs];show Lq _ _ (spliced ((false,eval e X.env)::M2 pos (Le es X.env))) _ _ s;refine OQ (cy (ha af s σ H _ I h) λu s1 hq_=>?_)
 obtain⟨x,H1,I1,r1,q1⟩:=hq_
 exact cy (hr pos af s1 σ H1 _ I1 q1) λus s2 ⟨xs,H2,I2,r2,q2⟩=>⟨x::xs,H2,I2,.cons r1 r2,q2⟩
def Js(t:TA):TE:=λσ H Q=>t σ H λxs H1=>xs.length<=Lm/\ ∀p,H1 p=none->Q (.ref p) (bI H1 p (.tup xs))
def JA(t:TA):TE:=λσ H Q=>t σ H λxs H1=>xs.length<=Lm/\ ∀p,H1 p=none->Q (.ref p) (bI H1 p (.lst xs))
theorem Gk {x1}(h:PA X es t):PE X (.Tuple es x1 pos) (Js t):=by
 intro af s σ H Q I hq;refine Qf (cy (h pos af s σ H _ I hq) λus s1 ⟨xs,H1,I1,r,z,q⟩=>⟨by rw[<-r.length];exact z,?_⟩)
 have hf:H1 s1.heap.objs.size=none:=I1.hok.fresh (Ld _)
 refine⟨.ref s1.heap.objs.size,bI H1 s1.heap.objs.size (.tup xs),I1.laid (t':=s1.toks) (λb u e=>K3 _ e) (Ld _) ?_,rfl,q _ hf⟩
 exact⟨z,us,r,⟨_,Lj _ rfl,rfl,_,rfl⟩,_,Lj _ rfl,rfl⟩
theorem GR(h:PA X es t):PE X (.List es pos) (JA t):=by
 intro af s σ H Q I hq;refine wpAny_List_spliced (cy (h pos af s σ H _ I hq) λus s1 ⟨xs,H1,I1,r,z,q⟩=>⟨by rw[<-r.length];exact z,?_⟩)
 have hf:H1 s1.heap.objs.size=none:=I1.hok.fresh (Ld _)
 refine⟨.ref s1.heap.objs.size,bI H1 s1.heap.objs.size (.lst xs),I1.laid (t':=s1.toks) (λb u e=>K3 _ e) (Ld _) ?_,rfl,q _ hf⟩
 exact⟨z,us,0,r,Lj _ rfl⟩
end
abbrev Sp:=List V->Hp->VK->XK->Prop
abbrev xK:=List Env->Hp->KZ->XK->KU->KZ->Prop
structure Env0(P:LB)(w:L1)(K:K7)(mg:Str->Option KU)(base:Heap)(A:LC)(outer:List Env)(s:KZ)(H:Hp):Prop where
 frames:A.frames=some outer
 mod:Mod K mg base
 bs: ∀b o,base.get? b=some o->s.heap.get? b=some o/\H b=none
 bsz:base.objs.size<=s.heap.objs.size
 funs:s.heap.FunFrames base outer
 frf: ∀b∈kj outer,H b=none
 hok:HOk P w H s.heap
 bare:NI s.gens
def CE(outer:List Env)(P:LB)(w:L1)(H:Hp)(s:KZ)(Q:VK)(u:KU)(s':KZ):Prop:=
 ∃v H',s'.os=s.os/\NI s'.gens/\Un (kj outer) [] H H' s.heap s'.heap/\HOk P w H' s'.heap/\RelV v u/\Q v H'
def CR(CX:xK)(outer:List Env)(P:LB)(w:L1)(H:Hp)(s:KZ)(Q:VK)(E:XK)(r:Oa)(s':KZ):Prop:=
 match r with
 | .ok (.ret u)=>CE outer P w H s Q u s'
 | .ok _=>False
 | .error e=>CX outer H s E e s'
structure FnOk(P:LB)(w:L1)(K:K7)(mg:Str->Option KU)(base:Heap)(CX:xK)(k:Nat)(f:Addr)(fd:M5)(ps:List Str)(sp:Sp):Prop where
 len: ∀vs H Q E,sp vs H Q E->vs.length=ps.length
 run: ∀(A:LC) (outer:List Env) (s:KZ) (H:Hp) (args:Args) (us:List KU) (vs:List V) (Q:VK) (E:XK),Room k A->Env0 P w K mg base A outer s H->QO s fd args (ps.zip us)->Vals vs us->sp vs H Q E->
  Mg (model P w) A (.call (.ref f) args) (CR CX outer P w H s Q E) s
theorem FnOk.imp {P:LB}{w:L1}{K:K7}{mg:Str->Option KU}{base:Heap}{CX:xK}{k:Nat}{f:Addr}{fd:M5}{ps:List Str}{sp sp':Sp}(F:FnOk P w K mg base CX k f fd ps sp)
 (h: ∀vs H Q E,sp' vs H Q E->sp vs H Q E):FnOk P w K mg base CX k f fd ps sp':=
 ⟨λvs H Q E q=>F.len vs H Q E (h _ _ _ _ q),λA outer s H args us vs Q E hr he hb hv hs=>F.run A outer s H args us vs Q E hr he hb hv (h _ _ _ _ hs)⟩
section
variable {X:Cx}{af:List (Addr×Obj)}{σ:St}{H:Hp}{s s':KZ}
theorem Inv.env0(I:Inv X af σ H s):Env0 X.prog X.w X.K X.mg X.base X.A X.stack s H:=
 ⟨I.ok.frames,I.ok.mod,I.bs,LW I.ok.bsz I.sz,I.stack,I.stkFree,I.hok,I.bare⟩
theorem Inv.after {Q:VK}{u:KU}(I:Inv X af σ H s)(h:CE X.stack X.prog X.w H s Q u s'):EP X af σ Q u s':=by
 obtain⟨v,H',os,bare,un,hok,r,q⟩:=h
 obtain⟨hh,g,d,t,os'⟩:=s'
 obtain rfl:os'=s.os:=os
 exact⟨v,H',I.call (h':=hh) (g':=g) (d':=d) (t':=t) (ch:=[]) un hok bare (λb z=>absurd z (by simp)),r,q⟩
end
def Iv(sp:Sp)(dvs:List V)(E:XK)(t:TA):TE:=λσ H Q=>t σ H λvs H1=>sp (vs++dvs) H1 Q E
def Binds(K:K7)(fd:M5)(ps:List Str)(ds:List KU):Prop:=
 ∀(s:KZ) (us:List KU),K.In s.heap->(us++ds).length=ps.length->QO s fd ⟨us,[]⟩ (ps.zip (us++ds))
theorem Binds.all {K:K7}{fd:M5}{ps:List Str}(h: ∀us:List KU,us.length=ps.length->bindArgs fd ⟨us,[]⟩=pure (ps.zip us)):Binds K fd ps []:=λs us _ hl=>by
 rw[Me] at hl⊢;exact .of_eq (h us hl)
def v8(CX:xK)(X:Cx)(E:XK):Prop:= ∀(af:List (Addr×Obj)) (σ:St) (H:Hp) (s:KZ) (e:KU) (s':KZ),Inv X af σ H s->CX X.stack H s E e s'->X.xe e s'
section
variable {X:Cx}{CX:xK}{k:Nat}{f C:Addr}{fd:M5}{ps:List Str}{sp:Sp}{dvs:List V}{ds:List KU}{E:XK}{x m:Str}{p pos apos:Pos}{e o:Expr}{es:List Expr}{ta:TE}{t:TA}
theorem Ho {af:List (Addr×Obj)}{σ:St}{H:Hp}{s:KZ}{Q:VK}{us:List KU}{vs:List V}(F:FnOk X.prog X.w X.K X.mg X.base CX k f fd ps sp)(hr:Room k X.A)(hb:Binds X.K fd ps ds)(hd:Vals dvs ds)(hx:v8 CX X E)
 (I:Inv X af σ H s) (r:Vals vs us) (h:sp (vs++dvs) H Q E):Lq (model X.prog X.w) X.A (call (.ref f) us) (EP X af σ Q) X.xe s:=by
 have r2:Vals (vs++dvs) (us++ds):=r.append hd
 have hl:(us++ds).length=ps.length:=by rw[<-r2.length];exact F.len _ _ _ _ h
 refine wpAny_call (Oc (F.run X.A X.stack s H ⟨us,[]⟩ (us++ds) (vs++dvs) Q E hr I.env0 (hb s us I.kIn hl) r2 h) λr s' hq=>?_)
 cases r with
 |error e=>exact hx af σ H s e s' I hq
 |ok fl=>
  cases fl with
  |ret u=>exact I.after hq
  |next=>exact False.elim hq
  |brk=>exact False.elim hq
  |cont=>exact False.elim hq
theorem pW(F:FnOk X.prog X.w X.K X.mg X.base CX k f fd ps sp)(hr:Room k X.A)(hg:Gl X x)(hm:X.mg x=some (.ref f))(hk:Ly X.K (.ref f)=true)(hb:Binds X.K fd ps ds)(hd:Vals dvs ds)(hx:v8 CX X E)
 (ha:PA X (e::es) t) (hdb:(x==("__debug__":Str))=false:=by decide) (he:Le (e::es) X.env=(false,eval e X.env)::Le es X.env:=by rfl) (hpl:(M2 pos (Le es X.env)).any (·.1)=false:=by rfl):
 PE X (.Call (.Name x p) (e::es) [] pos) (Iv sp dvs E t):=by
 intro af s σ H Q I h;refine N2 (mz I hg hm ?_ hdb)
 refine Tg (h₀:=X.base) I.ok.mod.kin hk (cy (ha pos af s σ H _ I h) λus s1 ⟨vs,H1,I1,r,q⟩=>⟨I1.kIn,?_⟩) he hpl
 exact Ho F hr hb hd hx I1 r q
end
structure FnScope(N P:List Str)(sc:MI):Prop where
 kind:sc.kind=.function
 co:sc.isCoroutine=false
 gen:sc.isGenerator=false
 nd:N.Nodup
 pre:N.take P.length=P
 par: ∀x∈P,sc.names.lookup x=some .local\/sc.names.lookup x=some .cell
 nofree: ∀y∈sc.names,y.2≠ .free
theorem r9 {kindOf:Str->Option M6}{x:Str}: ∀ {binds:List (Str×KU)} {m:Str->Option KU},(∀v,(x,v)∉binds)->RP kindOf binds m x=m x
 | [],_,_=>rfl
 |(n,v)::r,m,h=>by
  unfold RP;rw[r9 λw hw=>h w (Lb _ hw)]
  split
  ·have:x≠n:=by rintro rfl;exact h v Lu
   simp[this]
  ·rfl
theorem sR {kindOf:Str->Option M6}{x:Str}: ∀ {binds:List (Str×KU)} {m:Str->Option KU},(∀v,(x,v)∉binds)->RQ kindOf binds m x=m x
 | [],_,_=>rfl
 |(n,v)::r,m,h=>by
  unfold RQ;rw[sR λw hw=>h w (Lb _ hw)]
  split
  ·rfl
  ·have:x≠n:=by rintro rfl;exact h v Lu
   simp[this]
theorem sD {kindOf:Str->Option M6}{x:Str}{v:KU}: ∀ {P:List Str} {vs:List KU} {i:Nat} {m:Str->Option KU},P.Nodup->P[i]? =some x->vs[i]? =some v->kindOf x=some .local->
 RP kindOf (P.zip vs) m x=some v
 | [],_,_,_,_,h,_,_=>by simp at h
 |_::_,[],_,_,_,_,h,_=>by simp at h
 |p::P,w::vs,0,m,nd,h1,h2,hk=>by
  simp at h1 h2;subst h1;subst h2;show RP kindOf ((p,w)::P.zip vs) m p=_;unfold RP;rw[r9 λv hv=>(Ma.mp nd).1 (Py hv).1,if_pos hk]
  simp
 |p::P,w::vs,i+1,m,nd,h1,h2,hk=>by
  show RP kindOf ((p,w)::P.zip vs) m x=_;unfold RP;exact sD (i:=i) (Ma.mp nd).2 (by simpa using h1) (by simpa using h2) hk
theorem sO {kindOf:Str->Option M6}{x:Str}{v:KU}: ∀ {P:List Str} {vs:List KU} {i:Nat} {m:Str->Option KU},P.Nodup->P[i]? =some x->vs[i]? =some v->kindOf x≠some .local->
 RQ kindOf (P.zip vs) m x=some v
 | [],_,_,_,_,h,_,_=>by simp at h
 |_::_,[],_,_,_,_,h,_=>by simp at h
 |p::P,w::vs,0,m,nd,h1,h2,hk=>by
  simp at h1 h2;subst h1;subst h2;show RQ kindOf ((p,w)::P.zip vs) m p=_;unfold RQ;rw[sR λv hv=>(Ma.mp nd).1 (Py hv).1,if_neg hk]
  simp
 |p::P,w::vs,i+1,m,nd,h1,h2,hk=>by
  show RQ kindOf ((p,w)::P.zip vs) m x=_;unfold RQ;exact sO (i:=i) (Ma.mp nd).2 (by simpa using h1) (by simpa using h2) hk
def start(N:List Str)(vs:List V):St:=vs.map some++K1 (N.length-vs.length) none
def o9(CX:xK)(P:LB)(w:L1)(K:K7)(mg:Str->Option KU)(base:Heap)(N:List Str)(qual:Str)(scope:MI)(f:Addr)(cd:KU)(A:LC)(outer:List Env)(s:KZ)(H:Hp)(E:XK):Cx where
 prog:=P
 w:=w
 K:=K
 mg:=mg
 base:=base
 A:=A.deeper (NF qual scope s.heap.objs.size f cd)
 N:=N
 s₀:=s
 H₀:=H
 env:=NF qual scope s.heap.objs.size f cd
 outer:=outer
 stack:=NF qual scope s.heap.objs.size f cd::outer
 ex:=[]
 calm:=true
 fn:=λ_=>true
 pn:=[]
 xe:=λe s'=>Lq (model P w) (A.deeper (NF qual scope s.heap.objs.size f cd)) (Th (NF qual scope s.heap.objs.size f cd) e) (λ_ s''=>CX outer H s E e s'') (λe' s''=>CX outer H s E e' s'') s'
theorem uZ {sc:MI}{n:Nat}{x:Str}(h:sc.names.lookup x=some .cell): ∃c,(MN n sc.names []).lookup x=some c:=by
 have q:=Re sc.names n [] (.inl h)
 exact Option.isSome_iff_exists.mp q
theorem zX {CX:xK}{P:LB}{w:L1}{K:K7}{mg:Str->Option KU}{base:Heap}{N ps:List Str}{qual:Str}{scope:MI}{f:Addr}{cd:KU}{A:LC}{outer:List Env}{s s1:KZ}{H:Hp}{E:XK}{us:List KU}{vs:List V}
 (S:FnScope N ps scope) (hd:A.handled=none) (e0:Env0 P w K mg base A outer s H) (hl:vs.length=ps.length) (r:Vals vs us)
 (x:InCallC s s.heap.objs.size (RP (NF qual scope s.heap.objs.size f cd).kindOf (ps.zip us) λ_=>none) (MN (s.heap.objs.size+1) scope.names []) (RQ (NF qual scope s.heap.objs.size f cd).kindOf (ps.zip us) λ_=>none) s1):
 Inv (o9 CX P w K mg base N qual scope f cd A outer s H E) [] (start N vs) H s1:=by
 have hpl:ps.length<=N.length:=by have:=congrArg OC S.pre;rw[Nt] at this;omega
 obtain⟨h1,tk,rfl,hk⟩:=x.done
 have noA: ∀b:Addr,b∉(o9 CX P w K mg base N qual scope f cd A outer s H E).ex:=λb z=>absurd (show b∈([]:List Addr) from z) (by simp)
 refine⟨⟨e0.mod,S.kind,rfl,rfl,Ld _,λy z c h1 h2=>?_,λy hy=>?_,λy c _ h=>?_,λ_=>hd,Around.frames_deeper e0.frames,.inr ⟨rfl,rfl⟩,λb z=>absurd z (noA b),e0.bs,e0.bsz,λb _ _=>noA b,λb z=>absurd z (noA b),e0.funs,e0.frf⟩,
  rfl,e0.bare,Un.kept hk,⟨_,x.toInCall.ns,λi y v h1 h2 h3=>?_⟩,λy c h=>⟨_,x.cell y c h⟩,e0.hok.fresh (Ld _),λy c h=>?_,λp hp=>absurd (show p∈([]:List (Addr×Obj)) from hp) (by simp),e0.hok.kept hk,?_⟩
 ·exact name_of_addr x.apart (LZ h1) (LZ h2)
 ·have hy:scope.names.lookup y=some .cell\/scope.names.lookup y=some .free:=hy
  rcases hy with hy|hy
  ·exact uZ hy
  ·exact absurd rfl (S.nofree _ (LZ hy))
 ·exact NP (x.above y c (LZ h))
 ·have hi:i<vs.length:=by
   unfold start at h2
   by_cases hi:i<vs.length
   ·exact hi
   ·rw[LQ (by simpa using hi)] at h2
    rw[LV] at h2;split at h2<;>cases h2
  have ha:vs[i]? =some v:=by
   unfold start at h2;rw[LG (by simpa using hi),Ln] at h2
   cases e:vs[i]? with
   |none=>rw[e] at h2;cases h2
   |some a=>rw[e] at h2;cases h2;rfl
  obtain⟨u,hu,rv⟩:=r.get ha
  have hp:ps[i]? =some y:=by
   rw[<-S.pre,NU (by omega)];exact h1
  have ndP:ps.Nodup:=by rw[<-S.pre];exact S.nd.sublist (List.take_sublist _ _)
  refine⟨u,rv,?_⟩
  rcases S.par y (OD hp) with k|k
  ·exact .inl ⟨k,sD ndP hp hu k⟩
  ·obtain⟨c,e⟩:=uZ (n:=s.heap.objs.size+1) k
   refine .inr ⟨.inl k,c,e,?_⟩
   have q:=x.cell y c e
   rw[sO ndP hp hu (by show scope.names.lookup y≠_;rw[k];decide)] at q
   exact q
 ·exact e0.hok.fresh (NP (x.above y c (LZ h)))
 ·unfold start
  show _=N.length;rw[LJ,K5,PH];omega
theorem E4 {CX:xK}{P:LB}{w:L1}{K:K7}{mg:Str->Option KU}{base:Heap}{k:Nat}{f:Addr}{name qual:Str}{params:Arguments}{body:List Stmt}{scope:MI}{dV kV doc pm cdv ct oc:KU}{an od:Option Addr}
 {osl:Array (Option KU)} {N ps:List Str} {sp:Sp} (lk:K.lookup f=some ⟨oc,od,.func (L4 name qual params body scope dV kV doc pm an cdv ct),osl⟩) (hcd:LD K cdv qual=true) (S:FnScope N ps scope)
 (len: ∀vs H Q E,sp vs H Q E->vs.length=ps.length)
 (hbody: ∀(A:LC) (outer:List Env) (s:KZ) (H:Hp) (vs:List V) (Q:VK) (E:XK),Room k (A.deeper (NF qual scope s.heap.objs.size f cdv))->sp vs H Q E->
   ∃t,PSs (o9 CX P w K mg base N qual scope f cdv A outer s H E) body t/\t {nx:=λ_ H'=>Q .non H',rt:=Q} (start N vs) H):
 FnOk P w K mg base CX (k+1) f (L4 name qual params body scope dV kV doc pm an cdv ct) ps sp:=by
 refine⟨len,λA outer s H args us vs Q E hr e0 hb r hsp=>?_⟩
 have hl:=len _ _ _ _ hsp
 have KX:K.In s.heap:=e0.mod.kin.keeps λb o e=>(e0.bs b o e).1
 have lim:s.heap.NoLimit:=e0.mod.nolimit.keeps λb o e=>(e0.bs b o e).1
 have hkind: ∀y∈ps.zip us,scope.names.lookup y.1=some .local\/(scope.names.lookup y.1=some .cell/\((MN (s.heap.objs.size+1) scope.names []).lookup y.1).isSome=true):=λ⟨n,v⟩ hy=>by
  rcases S.par n (Py hy).1 with q|q
  ·exact .inl q
  ·exact .inr ⟨q,Re _ _ _ (.inl q)⟩
 refine codeAny_call_function hr.depth (KX _ _ lk) rfl S.co S.gen rfl (W.codeRec_of KX hcd) (hb _ _ _ _ ?_)
 refine wpAny_newFunctionEnv_cells S.kind hkind λenv he s1 x=>?_
 subst he;refine⟨lim.keeps x.toInCall.keep,codeAny_func ?_⟩
 obtain⟨t,ht,hq⟩:=hbody A outer s H vs Q E (hr.deeper _) hsp
 have I:Inv (o9 CX P w K mg base N qual scope f cdv A outer s H E) [] (start N vs) H s1:=zX S hr.hd e0 hl r x
 refine Lv (ht [] s1 (start N vs) H _ I hq) (λfl s' hs=>?_) λe s' hs=>hs
 have fin: ∀ {σ':St} {H':Hp} {v:V} {u:KU},Inv (o9 CX P w K mg base N qual scope f cdv A outer s H E) [] σ' H' s'->RelV v u->Q v H'->CE outer P w H s Q u s':=
  λ{σ' H' v u} J rv q=>⟨v,H',J.os,J.bare,J.base,J.hok,rv,q⟩
 cases fl with
 |ret u=>
  obtain⟨v,σ',H',J,rv,q⟩:=hs
  exact fin J rv q
 |next=>
  obtain⟨σ',H',J,q⟩:=hs
  exact fin (v:=V.non) (u:=Mq) J rfl q
 |brk=>
  obtain⟨_,_,_,q⟩:=hs
  exact False.elim q
 |cont=>
  obtain⟨_,_,_,q⟩:=hs
  exact False.elim q
section
variable {X:Cx}{x:Str}{p pos:Pos}{e:Expr}{es:List Expr}{t:TA}{id T:String}{r:List V->Hp->VK->Prop}
def JQ(r:List V->Hp->VK->Prop)(t:TA):TE:=λσ H Q=>t σ H λvs H1=>r vs H1 Q
theorem Cj(hc:jh X (.builtin id) r)(hg:Gl X x)(hm:X.mg x=none)(hv:Nm x=some (.builtin id))(ha:PA X (e::es) t)(hn:x≠"__name__":=by decide)(hdb:(x==("__debug__":Str))=false:=by decide)
 (he:Le (e::es) X.env=(false,eval e X.env)::Le es X.env:=by rfl) (hpl:(M2 pos (Le es X.env)).any (·.1)=false:=by rfl):PE X (.Call (.Name x p) (e::es) [] pos) (JQ r t):=by
 intro af s σ H Q I h;refine N2 (oR I hg hm hv ?_ hn hdb)
 exact Rf (cy (ha pos af s σ H _ I h) λus s1 ⟨vs,H1,I1,r1,q1⟩=>hc af s1 σ H1 vs us Q I1 r1 q1) he hpl
theorem oN(hc:jh X (.type T) r)(hg:Gl X x)(hm:X.mg x=none)(hv:Nm x=some (.type T))(ha:PA X (e::es) t)(hn:x≠"__name__":=by decide)(hdb:(x==("__debug__":Str))=false:=by decide)
 (he:Le (e::es) X.env=(false,eval e X.env)::Le es X.env:=by rfl) (hpl:(M2 pos (Le es X.env)).any (·.1)=false:=by rfl):PE X (.Call (.Name x p) (e::es) [] pos) (JQ r t):=by
 intro af s σ H Q I h;refine N2 (oR I hg hm hv ?_ hn hdb)
 exact MH (cy (ha pos af s σ H _ I h) λus s1 ⟨vs,H1,I1,r1,q1⟩=>hc af s1 σ H1 vs us Q I1 r1 q1) he hpl
end
end L2
namespace HT
open PySem PyProof.Rows
section
variable {prog:LB}{w:L1}{A:LC}{E:KU->KZ->Prop}{s:KZ}
def sIx(n d:Nat):Option Int->Nat
 |none=>d
 |some v=>if v<0 then(v+(n:Int)).toNat else min v.toNat n
theorem sIx_none(n d:Nat):sIx n d none=d:=rfl
theorem sIx_nat(n d k:Nat):sIx n d (some (k:Int))=min k n:=by
 show(if(k:Int)<0 then((k:Int)+(n:Int)).toNat else min (k:Int).toNat n)=min k n
 rw[if_neg (by omega),Mb]
end
end HT
namespace L2
open PySem PySem.Spec PyProof.Rows
abbrev TO:=St->Hp->(Option Int->Hp->Prop)->Prop
def PO(X:Cx)(e:Option Expr)(t:TO):Prop:=
 ∀(af:List (Addr×Obj)) (s:KZ) (σ:St) (H:Hp) (Q:Option Int->Hp->Prop),Inv X af σ H s->t σ H Q->
  Lq (model X.prog X.w) X.A (evalPart e X.env) (λu s'=> ∃o H',Inv X af σ H' s'/\IsPart u o/\Q o H') X.xe s
def Ej:TO:=λ_ H Q=>Q none H
def Iz(t:TE):TO:=λσ H Q=>t σ H λx H1=> ∃i,x=.int i/\Q (some i) H1
theorem wW {ns:List Int}: ∀ {us:List KU},Vals (ns.map V.int) us->Qb us ns:=by
 induction ns with
 |nil=>intro us r;rw[QQ] at r;cases r;exact .nil
 |cons n ns ih=>
  intro us r;rw[Lf] at r;cases r with
  |cons r1 r2=>
   obtain⟨t,e⟩:=r1
   subst e;exact .cons n t (ih r2)
section
variable {X:Cx}{e:Expr}{te:TE}{lo hi:Option Expr}{tl th:TO}{pos p2:Pos}
theorem EC:PO X none Ej:=by
 intro af s σ H Q I h;rw[Sv];exact Lc ⟨none,H,I,.none,h⟩
theorem Dr(h:PE X e te):PO X (some e) (Iz te):=by
 intro af s σ H Q I hw;rw[evalPart_some];refine cy (h af s σ H _ I hw) λu s1 hq_=>?_
 obtain⟨x,H1,I1,r1,q1⟩:=hq_
 obtain⟨i,rfl,q⟩:=q1
 obtain⟨t,rfl⟩:=r1
 exact⟨some i,H1,I1,.int i t,q⟩
def Kx(X:Cx)(r:V->Option Int->Option Int->Hp->VK->Prop):Prop:=
 ∀(af:List (Addr×Obj)) (s:KZ) (σ:St) (H:Hp) (x:V) (v vl vu:KU) (lo hi:Option Int) (sl:Addr) (Q:VK),Inv X af σ H s->RelV x v->s.heap.IsSliceOf sl vl vu .none->IsPart vl lo->IsPart vu hi->r x lo hi H Q->
  ∃T id,typeLookup (.type T) "__getitem__"=pure (some (.builtin id))/\s.TypeIs v T/\Lq (model X.prog X.w) X.A (QR v (.ref sl)) (EP X af σ Q) X.xe s
def KL(r:V->Option Int->Option Int->Hp->VK->Prop)(te:TE)(tl th:TO):TE:=λσ H Q=>te σ H λx H1=>tl σ H1 λl H2=>th σ H2 λu H3=>r x l u H3 Q
theorem Ad {r:V->Option Int->Option Int->Hp->VK->Prop}(hr:Kx X r)(he:PE X e te)(hl:PO X lo tl)(hu:PO X hi th):PE X (.Subscript e (.Slice lo hi none p2) pos) (KL r te tl th):=by
 intro af s σ H Q I h;refine RT (cy (he af s σ H _ I h) λv s1 hq_=>?_)
 obtain⟨x,H1,I1,r1,q1⟩:=hq_
 refine wpAny_Slice (cy (hl af s1 σ H1 _ I1 q1) λvl s2 ⟨l,H2,I2,pl,q2⟩=>cy (hu af s2 σ H2 _ I2 q2) λvu s3 hq_=>?_)
 obtain⟨u,H3,I3,pu,q3⟩:=hq_
 rw[Sv];refine Lc ?_
 have I4:Inv X af σ H3 {s3 with heap:=s3.heap.push {cls:=.type "slice",data:=.fields #[vl,vu,.none]}}:=I3.kept (t':=s3.toks) λb ob q=>K3 _ q
 obtain⟨T,id,hT,ht,hg⟩:=hr af {s3 with heap:=s3.heap.push {cls:=.type "slice",data:=.fields #[vl,vu,.none]}} σ H3 x v vl vu l u s3.heap.objs.size Q I4 r1 (V9 ..) pl pu q3
 show Lq (model X.prog X.w) X.A (Qr e (.Slice lo hi none p2) v (.ref s3.heap.objs.size)) (EP X af σ Q) X.xe {s3 with heap:=s3.heap.push {cls:=.type "slice",data:=.fields #[vl,vu,.none]}}
 exact tail_any (ops:=[.ref s3.heap.objs.size,v]) ht hT hg (by with_unfolding_all rfl)
def zp(xs:List V)(lo hi:Option Int):List V:=(xs.drop (HT.sIx xs.length 0 lo)).take (HT.sIx xs.length xs.length hi-HT.sIx xs.length 0 lo)
theorem uQ(xs:List V)(lo hi:Option Int):(zp xs lo hi).length<=xs.length:=by
 unfold zp;rw[Nt,Pd];omega
end
def rl(n:Nat)(i:Int):Option Nat:=if 0<=i then(if i<n then some i.toNat else none) else if -(n:Int)<=i then some (i+n).toNat else none
def pU {α:Type}(xs:List α)(i:Int):Option α:=(rl xs.length i).bind λj=>xs[j]?
theorem tP {n:Nat}{i:Int}{j:Nat}(h:rl n i=some j):SO i n=some j/\j<n/\ -(n:Int)<=i/\i<n:=by
 unfold rl at h
 by_cases h0:0<=i
 ·rw[if_pos h0] at h
  by_cases h1:i<n
  ·rw[if_pos h1] at h
   have e:i.toNat=j:=LH h
   exact⟨by rw[Rr h0 h1,e],by omega,by omega,h1⟩
  ·rw[if_neg h1] at h;cases h
 ·rw[if_neg h0] at h
  by_cases h1: -(n:Int)<=i
  ·rw[if_pos h1] at h
   have e:(i+n).toNat=j:=LH h
   exact⟨by rw[QT (by omega) h1,e],by omega,h1,by omega⟩
  ·rw[if_neg h1] at h;cases h
theorem tE {α:Type}{xs:List α}{i:Int}{v:α}(h:pU xs i=some v): ∃j,SO i xs.length=some j/\xs[j]? =some v/\j<xs.length/\ -(xs.length:Int)<=i/\i<xs.length:=by
 unfold pU at h;cases e:rl xs.length i with
 |none=>rw[e] at h;cases h
 |some j=>
  rw[e] at h;obtain⟨h1,h2,h3,h4⟩:=tP e
  exact⟨j,h1,h,h2,h3,h4⟩
theorem nK {α:Type}{xs:List α}{j:Nat}{v:α}(h:xs[j]? =some v):pU xs (j:Int)=some v:=by
 have hj:j<xs.length:=(Lp.mp h).1
 have e:rl xs.length (j:Int)=some j:=by
  unfold rl;rw[if_pos (by omega),if_pos (by omega)];simp
 unfold pU;rw[e];exact h
def me(b:Expr):Prop:= ∀o i,PV b false o i=operate [o,i] (QR o i)
def IxR(X:Cx)(r:R2):Prop:=
 ∀(value slice:Expr) (af:List (Addr×Obj)) (s:KZ) (σ:St) (H:Hp) (x y:V) (v u:KU) (Q:VK),Inv X af σ H s->RelV x v->RelV y u->r x y H Q->
  PV slice false v u=operate [v,u] (QR v u)->Lq (model X.prog X.w) X.A (Qr value slice v u) (EP X af σ Q) X.xe s
def Kz(X:Cx)(id:String)(r:V->List V->Hp->VK->Prop):Prop:=
 ∀(af:List (Addr×Obj)) (s:KZ) (σ:St) (H:Hp) (x:V) (xs:List V) (v:KU) (us:List KU) (Q:VK),Inv X af σ H s->RelV x v->Vals xs us->r x xs H Q->
  Lq (model X.prog X.w) X.A (call (.builtin id) (v::us)) (EP X af σ Q) X.xe s
section
variable {X:Cx}{a b:Expr}{ta tb:TE}{pos:Pos}
theorem IxR.or {r r':R2}(h:IxR X r)(h':IxR X r'):IxR X (λx y H Q=>r x y H Q\/r' x y H Q):=by
 intro value slice af s σ H x y v u Q I rx ry q hs;rcases q with q|q
 ·exact h value slice af s σ H x y v u Q I rx ry q hs
 ·exact h' value slice af s σ H x y v u Q I rx ry q hs
theorem yJ {r:R2}(hr:IxR X r)(ha:PE X a ta)(hb:PE X b tb)(hs:me b):PE X (.Subscript a b pos) (Hw r ta tb):=by
 intro af s σ H Q I h;exact RT (GJ ha hb I h λv u s2 x y H2 I2 rx ry q=>hr a b af s2 σ H2 x y v u Q I2 rx ry q (hs _ _))
def HW(K:K7):R2:=λx y H Q=> ∃p xs i v,x=.ref p/\y=.int i/\SqL K H p xs/\pU xs i=some v/\Q v H
def HF(K:K7):R2:=λx y H Q=> ∃p xs i v,x=.ref p/\y=.int i/\SqT K H p xs/\pU xs i=some v/\Q v H
def HL:R2:=λx y H Q=> ∃z i c,x=.str z/\y=.int i/\z.length<=Lm/\pU z.cps.toList i=some c/\Q (.str ⟨#[c]⟩) H
theorem ix_list:IxR X (HW X.K):=by
 intro value slice af s σ H x y v u Q I rx ry h hs;obtain⟨p,xs,i,z,rfl,rfl,hq,he,q⟩:=h
 cases rx
 obtain⟨t,rfl⟩:=ry
 obtain⟨its,r,pl,hz⟩:=I.list hq
 obtain⟨j,h1,h2,h3,h4,h5⟩:=tE he
 obtain⟨w,ew,rw'⟩:=r.get h2
 have hl:=r.length
 have hn:=lZ
 have fin:EP X af σ Q w s:=⟨z,H,I,rw',q⟩
 by_cases h0:0<=i
 ·have hj:i.toNat=j:=by
   rw[Rr h0 h5] at h1;exact LH h1
  exact item_listR pl.isList h0 (by omega) (by rw[hj];simpa using ew) fin hs
 ·have hj:(i+(its.toArray.size:Int)).toNat=j:=by
   rw[QT (by omega) h4] at h1
   rw[Lr,<-hl];exact LH h1
  exact Pn (x:=w) pl.isList.typeIs QU.lookup
   (wpAny_getItem_list_neg (Q:=λr s'=>r=w/\EP X af σ Q r s') pl.isList (by omega) (by rw[Lr]<;>omega) (by omega) (by rw[hj];simpa using ew) ⟨rfl,fin⟩) hs
theorem ix_tup:IxR X (HF X.K):=by
 intro value slice af s σ H x y v u Q I rx ry h hs;obtain⟨p,xs,i,z,rfl,rfl,hq,he,q⟩:=h
 cases rx
 obtain⟨t,rfl⟩:=ry
 obtain⟨its,r,pl,hz⟩:=I.tuple hq
 obtain⟨j,h1,h2,h3,h4,h5⟩:=tE he
 obtain⟨w,ew,rw'⟩:=r.get h2
 have hl:=r.length
 have hn:=lZ
 have fin:EP X af σ Q w s:=⟨z,H,I,rw',q⟩
 exact Pn (x:=w) pl.typeIs slot_tuple_getitem.lookup
  (getItem_tuple (j:=j) (Q:=λr s'=>r=w/\EP X af σ Q r s') pl (by omega) (by omega) (by rw[Lr,<-hl];exact h1) (by simpa using ew) ⟨rfl,fin⟩) hs
theorem FJ:IxR X HL:=by
 intro value slice af s σ H x y v u Q I rx ry h hs;obtain⟨z,i,c,rfl,rfl,hz,he,q⟩:=h
 obtain⟨t,rfl⟩:=rx
 obtain⟨t',rfl⟩:=ry
 obtain⟨j,h1,h2,h3,h4,h5⟩:=tE he
 have hl:z.cps.toList.length=z.length:=by simp[Str.length]
 rw[hl] at h1 h4 h5;have hn:=lZ
 exact tail_any (typeIs_str s z t) slot_str_getitem.lookup (getItem_str (c:=c) (by
  have e1:decide (i< -(2^63:Int))=false:=decide_eq_false (by omega)
  have e2:decide (i≥2^63)=false:=decide_eq_false (by omega)
  rw[e1,e2,Oz]) (by rw[h1];simpa using h2) ⟨.str ⟨#[c]⟩,H,I.tok _,⟨_,rfl⟩,q⟩) hs
def Kt(K:K7):R2:=λx y H Q=>HW K x y H Q\/HF K x y H Q\/HL x y H Q
theorem aH:IxR X (Kt X.K):=ix_list.or (ix_tup.or FJ)
theorem wF(its:List KU)(n j:Nat)(u:KU):Po (·.setIfInBounds j u) {cls:=.type "list",data:=.seq its.toArray n}={cls:=.type "list",data:=.seq (its.set j u).toArray n}:=by
 simp[Po]
theorem Inv.lst {af:List (Addr×Obj)}{σ:St}{H:Hp}{s:KZ}{p:Addr}{xs:List V}(I:Inv X af σ H s)(h:H p=some (.lst xs)):
 ∃(its:List KU) (n:Nat),Vals xs its/\s.heap.get? p=some {cls:=.type "list",data:=.seq its.toArray n}/\xs.length<=sizeLine:=by
 obtain⟨z,its,n,r,e⟩:=I.hok p _ h
 exact⟨its,n,r,e,z⟩
theorem Inv.lstUpd {af:List (Addr×Obj)}{σ:St}{H:Hp}{s:KZ}{p:Addr}{xs ys:List V}{its its':List KU}{n n':Nat}{f:Obj->Obj}(I:Inv X af σ H s)(h:H p=some (.lst xs))
 (ho:s.heap.get? p=some {cls:=.type "list",data:=.seq its.toArray n}) (hf:f {cls:=.type "list",data:=.seq its.toArray n}={cls:=.type "list",data:=.seq its'.toArray n'}) (r:Vals ys its') (hz:ys.length<=Lm) (t:Nat):
 Inv X af σ (bI H p (.lst ys)) {s with heap:=s.heap.update p f,toks:=t}:=by
 have e:(s.heap.update p f).get? p=some {cls:=.type "list",data:=.seq its'.toArray n'}:=by
  rw[My f ho (by rw[hf]<;>rfl),hf]
 refine I.write (x:=p) (e:=p) (by rw[h];trivial) (.inl rfl) (λb u hb q=>(LR _ _ (Lw hb)).trans q) ⟨_,e⟩ ?_
 exact⟨hz,its',n',r,e⟩
def HZ:V->V->V->Hp->(Hp->Prop)->Prop:=λo i v H Q=> ∃p xs k j,o=.ref p/\i=.int k/\H p=some (.lst xs)/\rl xs.length k=some j/\Q (bI H p (.lst (xs.set j v)))
theorem vE:DN X HZ:=by
 intro af s σ H o i v ov iv u Q I ro ri rv h;obtain⟨p,xs,k,j,rfl,rfl,hp,hj,q⟩:=h
 cases ro
 obtain⟨t,rfl⟩:=ri
 obtain⟨its,n,r,ho,hz⟩:=I.lst hp
 obtain⟨h1,h2,h3,h4⟩:=tP hj
 have hl:=r.length
 have hn:=lZ
 have I':Inv X af σ (bI H p (.lst (xs.set j v))) {s with heap:=s.heap.update p (Po (·.setIfInBounds j u))}:=
  I.lstUpd hp ho (wF its n j u) (r.set rv j) (by rw[Pz];exact hz) s.toks
 by_cases h0:0<=k
 ·have hk:k.toNat=j:=by
   rw[Rr h0 h4] at h1;exact LH h1
  exact W.ki_setAt ho h0 (by omega) (by rw[Lr,<-hl];exact h4) (by rw[hk];exact⟨_,I',q⟩)
 ·have hk:(k+(its.toArray.size:Int)).toNat=j:=by
   rw[QT (by omega) h3] at h1
   rw[Lr,<-hl];exact LH h1
  exact W.ki_setBack ho (by omega) (by rw[Lr,<-hl];exact h3) (by omega) (by rw[hk];exact⟨_,I',q⟩)
theorem tf(lo hi:Option Int)(n:Nat):(N7 lo hi none n).1=((HT.sIx n 0 lo:Nat):Int)/\(N7 lo hi none n).2.1=((HT.sIx n n hi:Nat):Int)/\(N7 lo hi none n).2.2=1:=by
 refine⟨?_,?_,rfl⟩
 ·cases lo with
  |none=>simp[N7,HT.sIx]
  |some i=>
   simp only[N7,HT.sIx,Rg,show(1:Int)>0 by decide,if_true]
   by_cases h:i<0
   ·simp only[h,if_true]<;>omega
   ·simp only[h,if_false]<;>omega
 ·cases hi with
  |none=>simp[N7,HT.sIx]
  |some i=>
   simp only[N7,HT.sIx,Rg,show(1:Int)>0 by decide,if_true]
   by_cases h:i<0
   ·simp only[h,if_true]<;>omega
   ·simp only[h,if_false]<;>omega
theorem rA(its:List KU)(lo hi:Option Int):slicePick its.toArray lo hi none=((its.drop (HT.sIx its.length 0 lo)).take (HT.sIx its.length its.length hi-HT.sIx its.length 0 lo)).toArray:=by
 obtain⟨h1,h2,h3⟩:=tf lo hi its.toArray.size
 unfold slicePick;rw[h1,h2,h3];simp only[sliceRange_one,pick_run,Lr]<;>rfl
def Ka(K:K7):V->Option Int->Option Int->Hp->VK->Prop:=λx lo hi H Q=> ∃a xs,x=.ref a/\SqL K H a xs/\ ∀p,H p=none->Q (.ref p) (bI H p (.lst (zp xs lo hi)))
theorem DH:Kx X (Ka X.K):=by
 intro af s σ H x v vl vu lo hi sl Q I rx hs pl pu h;obtain⟨a,xs,rfl,hx,q⟩:=h
 cases rx
 obtain⟨its,r,ht,hz⟩:=I.list hx
 have hlen:=r.length
 refine⟨"list",_,QU.lookup,ht.isList.typeIs,?_⟩
 refine wpAny_getItem_list_slice ht.isList hs pl pu .none (by simp) ?_ (by rw[Lr]<;>omega)
 rw[rA,<-hlen];refine⟨.ref s.heap.objs.size,_,I.laid (t':=s.toks) (o:=.lst (zp xs lo hi)) (λb ob q=>K3 _ q) (Ld _) ?_,rfl,q _ (I.hok.fresh (Ld _))⟩
 exact⟨LW (uQ xs lo hi) hz,_,0,(r.drop (HT.sIx xs.length 0 lo)).take (HT.sIx xs.length xs.length hi-HT.sIx xs.length 0 lo),Lj _ rfl⟩
theorem aI:jh X (.builtin "len") (λxs H Q=> ∃p ys,xs=[.ref p]/\(SqL X.K H p ys\/SqT X.K H p ys)/\Q (.int ys.length) H):=by
 intro af s σ H xs us Q I r h;obtain⟨p,ys,rfl,hq,q⟩:=h
 obtain⟨u,rfl,rx⟩:=mK r
 cases rx
 have hn:=lZ
 rcases hq with hq|hq
 ·obtain⟨its,r',pl,hz⟩:=I.list hq
  have hlen:=r'.length
  exact Calls.call_len_list pl.isList (by simp only[Lr]<;>omega) ⟨.int ys.length,H,I.tok _,⟨s.toks+1,by rw[Lr,hlen]⟩,q⟩
 ·obtain⟨its,r',pl,hz⟩:=I.tuple hq
  have hlen:=r'.length
  exact len_tuple pl (by simp only[Lr]<;>omega) ⟨.int ys.length,H,I.tok _,⟨s.toks+1,by rw[Lr,hlen]⟩,q⟩
theorem uh:jh X (.type "list") (λxs H Q=> ∃p ys,xs=[.ref p]/\(SqL X.K H p ys\/SqT X.K H p ys)/\ ∀l,H l=none->Q (.ref l) (bI H l (.lst ys))):=by
 intro af s σ H xs us Q I r h;obtain⟨p,ys,rfl,hq,q⟩:=h
 obtain⟨u,rfl,rx⟩:=mK r
 cases rx
 have fin: ∀(its:List KU),Vals ys its->ys.length<=Lm-> ∀(h':Heap) (c':Nat),(∀b o',s.heap.get? b=some o'->h'.get? b=some o')->
  h'.get? s.heap.objs.size=some {cls:=.type "list",dict:=none,data:=.seq its.toArray c',slots:= #[]}->EP X af σ Q (.ref s.heap.objs.size) {s with heap:=h'}:=λits r' hz h' c' kp e=>
  ⟨.ref s.heap.objs.size,_,I.laid (t':=s.toks) kp (Ld _) (show ObjOk X.prog X.w _ h' _ (.lst ys) from⟨hz,its,c',r',e⟩),rfl,q _ (I.hok.fresh (Ld _))⟩
 rcases hq with hq|hq
 ·obtain⟨its,r',pl,hz⟩:=I.list hq
  have hlen:=r'.length
  obtain⟨o,ho,hc,n,hd⟩:=pl.isList
  exact Sx p (.inl rfl) ho hc hd (λh' c' kp e=>fin its r' hz h' c' kp e) (by simp only[Lr]<;>omega)
 ·obtain⟨its,r',pl,hz⟩:=I.tuple hq
  have hlen:=r'.length
  obtain⟨o,ho,hc,n,hd⟩:=pl
  exact Sx p (.inr rfl) ho hc hd (λh' c' kp e=>fin its r' hz h' c' kp e) (by simp only[Lr]<;>omega)
theorem cx:jh X (.type "tuple") (λxs H Q=> ∃p ys,xs=[.ref p]/\((SqL X.K H p ys/\ ∀l,H l=none->Q (.ref l) (bI H l (.tup ys)))\/(SqT X.K H p ys/\Q (.ref p) H))):=by
 intro af s σ H xs us Q I r h;obtain⟨p,ys,rfl,h⟩:=h
 obtain⟨u,rfl,rx⟩:=mK r
 cases rx
 rcases h with⟨hq,q⟩|⟨hq,q⟩
 ·obtain⟨its,r',pl,hz⟩:=I.list hq
  have hlen:=r'.length
  refine call_tuple_list pl.isList (λh' kp=>?_) (by simp only[Lr]<;>omega)
  have I1:Inv X af σ H {s with heap:=h'}:=I.kept (t':=s.toks) kp
  have I2:Inv X af σ (bI H h'.objs.size (.tup ys)) {s with heap:=h'.push {cls:=.type "tuple",data:=.seq its.toArray}}:=
   I1.laid (t':=s.toks) (λb o e=>K3 _ e) (Ld _) (show ObjOk X.prog X.w _ _ _ (.tup ys) from⟨hz,its,r',Xi _ _,_,Lj _ rfl,rfl⟩)
  exact⟨.ref h'.objs.size,_,I2,rfl,q _ (I1.hok.fresh (Ld _))⟩
 ·obtain⟨its,r',pl,hz⟩:=I.tuple hq
  exact call_tuple_same pl ⟨.ref p,H,I,rfl,q⟩
def Kw(K:K7)(T:String)(x:V)(H:Hp):Prop:=match x with
 | .str _=>T="str"
 | .int _=>T="int"
 | .ref p=>(T="list"/\ ∃xs,SqL K H p xs)\/(T="tuple"/\ ∃xs,SqT K H p xs)\/
    (T="dict"/\((∃kvs,H p=some (.dK kvs))\/ ∃kvs,H p=some (.dT kvs)))\/(T="set"/\ ∃S n,H p=some (.set S n))\/(T="set"/\ ∃xs,H p=some (.tst xs))
 |_=>False
theorem Gz {af:List (Addr×Obj)}{σ:St}{H:Hp}{s:KZ}{T:String}{x:V}{v:KU}(I:Inv X af σ H s)(r:RelV x v)(ty:Kw X.K T x H):
 s.TypeIs v T/\ ∀a,v=.ref a-> ∃ob,s.heap.get? a=some ob/\ob.dict=none:=by
 cases x with
 |str z=>
  obtain⟨t,rfl⟩:=r
  cases (show T="str" from ty)
  exact⟨typeIs_str s z t,λ_ e=>nomatch e⟩
 |int i=>
  obtain⟨t,rfl⟩:=r
  cases (show T="int" from ty)
  exact⟨typeIs_int s i t,λ_ e=>nomatch e⟩
 |ref p=>
  cases r
  rcases ty with⟨rfl,xs,hq⟩|⟨rfl,xs,hq⟩|⟨rfl,hk⟩|⟨rfl,S,n,hk⟩|⟨rfl,xs,hk⟩
  ·obtain⟨its,_,pl,_⟩:=I.list hq
   refine⟨pl.isList.typeIs,λa e=>?_⟩
   cases e
   obtain⟨o,n,e,c,hd,_⟩:=pl
   exact⟨o,e,hd⟩
  ·obtain⟨⟨ob,ho,hc⟩,o2,h2,hd⟩:=I.tupleN hq
   refine⟨⟨ob,ho,hc⟩,λa e=>?_⟩
   cases e
   exact⟨o2,h2,hd⟩
  ·have z: ∃o,s.heap.get? p=some o/\o.ExactDict:=by
    rcases hk with⟨kvs,hk⟩|⟨kvs,hk⟩
    ·obtain⟨_,_,_,_,o,_,_,e,ex,_⟩:=I.hok p _ hk
     exact⟨o,e,ex⟩
    ·obtain⟨_,_,_,_,o,_,_,e,ex,_⟩:=I.hok p _ hk
     exact⟨o,e,ex⟩
   obtain⟨o,e,ex⟩:=z
   refine⟨⟨o,e,ex.1⟩,λa e2=>?_⟩
   cases e2
   exact⟨o,e,ex.2.1⟩
  ·obtain⟨o,_,_,_,e,ex,_⟩:=I.hok p _ hk
   refine⟨⟨o,e,ex.1⟩,λa e2=>?_⟩
   cases e2
   exact⟨o,e,ex.2.1⟩
  ·obtain⟨o,_,_,_,e,ex⟩:=I.hok p _ hk
   refine⟨⟨o,e,ex.ex.1⟩,λa e2=>?_⟩
   cases e2
   exact⟨o,e,ex.ex.2.1⟩
 |_=>exact False.elim ty
def KP(K:K7)(T:String)(r:V->List V->Hp->VK->Prop)(to:TE)(t:TA):TE:=λσ H Q=>to σ H λx H1=>Kw K T x H1/\t σ H1 λxs H2=>r x xs H2 Q
variable {o e:Expr}{es:List Expr}{to:TE}{t:TA}{name:Str}{apos cpos:Pos}{T id:String}{r:V->List V->Hp->VK->Prop}
theorem Fo(pa:PlainAttrs T)(slot:Slot T name id)(hty:typeOf (.builtin id)=pure (.type "method_descriptor"))(hm:Kz X id r)(ho:PE X o to)(ha:PA X (e::es) t)
 (hbase:Qs o name X.env (eval o X.env)=eval o X.env:=by rfl)
 (hfew:((M2 cpos (Le (e::es) X.env)).all (λx=> !x.1)&&(UF cpos (Rs [] X.env)).all (λx=>x.1.isSome)
   &&decide ((e::es).length+([]:List QV).length+(if([]:List QV).isEmpty then 0 else 1)<30))=true:=by rfl)
 (hline:(apos.endLine==cpos.line)=true:=by rfl) (hs:Le (e::es) X.env=(false,eval e X.env)::Le es X.env:=by rfl) (hplain:(M2 cpos (Le es X.env)).any (·.1)=false:=by rfl):
 PE X (.Call (.Attribute o name apos) (e::es) [] cpos) (KP X.K T r to t):=by
 intro af s σ H Q I h;refine wpAny_Call_method_late hbase hfew hline rfl (cy (ho af s σ H _ I h) λv s1 hq_=>?_)
 obtain⟨x,H1,I1,r1,ty,q1⟩:=hq_
 obtain⟨h1,h2⟩:=Gz I1 r1 ty
 refine⟨T,id,pa,slot,hty,h1,h2,?_⟩
 have hA:=ha cpos af s1 σ H1 _ I1 q1
 rw[hs] at hA⊢;refine Calls.callWith_builtin (by show(false||(M2 cpos (Le es X.env)).any (·.1))=false;rw[hplain]<;>rfl) (PX ?_)
 exact cy hA λus s2 ⟨vs,H2,I2,r2,q2⟩=>hm af s2 σ H2 x vs v us Q I2 r1 r2 q2
end
def Jm(X:Cx)(id:String)(r:V->List V->Hp->VK->Prop):Prop:=
 ∀(af:List (Addr×Obj)) (s:KZ) (σ:St) (H:Hp) (x:V) (xs:List V) (v:KU) (us:List KU) (Q:VK),Inv X af σ H s->RelV x v->Vals xs us->r x xs H Q->
  Lq (model X.prog X.w) X.A (call (.builtin id) (v::us)) (EP X af σ Q) X.xe s
theorem Vals.one: ∀ {x:V} {us:List KU},Vals [x] us-> ∃u,us=[u]/\RelV x u
 |_,_,.cons r .nil=>⟨_,rfl,r⟩
theorem Vals.eraseIdx: ∀ {xs:List V} {us:List KU} (i:Nat),Vals xs us->Vals (xs.eraseIdx i) (us.eraseIdx i)
 |_,_,_,.nil=>.nil
 |_,_,0,.cons _ t=>t
 |_,_,i+1,.cons r t=>.cons r (Vals.eraseIdx i t)
theorem ss {α:Type}: ∀(l:List α) (i:Nat),(l.eraseIdx i).length<=l.length
 | [],_=>Ld _
 |_::_,0=>Nz _
 |_::r,i+1=>Nat.succ_le_succ (ss r i)
section
variable {X:Cx}{af:List (Addr×Obj)}{σ:St}{H:Hp}{s:KZ}{l b:Addr}{xs ys zs:List V}
theorem Inv.lset {its its':List KU}{n:Nat}{f:Array KU->Array KU}{t':Nat}(I:Inv X af σ H s)(hH:H l=some (.lst xs))
 (e:s.heap.get? l=some {cls:=.type "list",data:=.seq its.toArray n}) (hf:f its.toArray=its'.toArray) (hv:Vals ys its') (hz:ys.length<=Lm):
 Inv X af σ (bI H l (.lst ys)) {s with heap:=s.heap.update l (Po f),toks:=t'}:=by
 have q:=PySem.IsL.update e f
 rw[hf] at q;refine I.write (x:=l) (e:=l) (by rw[hH];exact trivial) (.inl rfl) (λb' u hb hu=>(LR s.heap (Po f) (Lw hb)).trans hu) ⟨_,q⟩ ?_
 exact⟨hz,its',_,hv,q⟩
theorem Inv.lnew {its:List KU}{t':Nat}(I:Inv X af σ H s)(hv:Vals ys its)(hz:ys.length<=Lm):
 Inv X af σ (bI H s.heap.objs.size (.lst ys)) {s with heap:=s.heap.push {cls:=.type "list",data:=.seq its.toArray},toks:=t'}:=
 I.laid (λ_ _ q=>K3 _ q) (Ld _) ⟨hz,its,0,hv,Lj _ rfl⟩
theorem Inv.fresh(I:Inv X af σ H s):H s.heap.objs.size=none:=I.hok.fresh (Ld _)
theorem Inv.lstM(I:Inv X af σ H s)(hH:H l=some (.lst xs)):xs.length<=Lm/\ ∃(its:List KU) (n:Nat),Vals xs its/\xs.length=its.length/\s.heap.get? l=some {cls:=.type "list",data:=.seq its.toArray n}:=by
 obtain⟨z,its,n,r,e⟩:=I.hok l _ hH
 exact⟨z,its,n,r,r.length,e⟩
end
section
variable {X:Cx}
def xD:V->List V->Hp->VK->Prop:=λx vs H Q=> ∃l xs y,x=.ref l/\vs=[y]/\H l=some (.lst xs)/\xs.length<Lm/\Q .non (bI H l (.lst (xs++[y])))
theorem gh:Jm X "list.append" xD:=by
 intro af s σ H x vs v us Q I rx rv h;obtain⟨l,xs,y,rfl,rfl,hH,hz,q⟩:=h
 cases rx
 obtain⟨u,rfl,ru⟩:=rv.one
 obtain⟨z,its,n,r,hl,e⟩:=I.lstM hH
 refine QD MU ⟨_,e,rfl⟩ F.entry_list_append (F.args_list_append_2 _ _) (PySem.list_append l its.toArray n u (by rw[Lr];omega)) ⟨e,?_⟩
 refine⟨.non,_,I.lset (its':=its++[u]) hH e (by simp) (r.append (.cons ru .nil)) ?_,rfl,q⟩
 rw[LJ,Mn];omega
def AF:V->List V->Hp->VK->Prop:=λx vs H Q=> ∃l xs i k y,x=.ref l/\vs=[.int i]/\H l=some (.lst xs)/\ -(2^63)<=i/\i<2^63/\SO i xs.length=some k/\xs[k]? =some y/\Q y (bI H l (.lst (xs.eraseIdx k)))
theorem BW:Jm X "list.pop" AF:=by
 intro af s σ H x vs v us Q I rx rv h;obtain⟨l,xs,i,k,y,rfl,rfl,hH,h1,h2,hk,hy,q⟩:=h
 cases rx
 obtain⟨u,rfl,ru⟩:=rv.one
 obtain⟨t,rfl⟩:=ru
 obtain⟨z,its,n,r,hl,e⟩:=I.lstM hH
 obtain⟨w,hw,rw'⟩:=r.get hy
 refine QD F.slot_list_pop ⟨_,e,rfl⟩ F.entry_list_pop (F.args_list_pop_2 _ _)
  (MeetsSeq.list_pop_at l its.toArray n i t k w (RU h1 h2) (by rw[Lr,<-hl];exact hk) (by rw[<-Array.getElem?_toList];exact hw) (by rw[Lr];omega)) ⟨e,?_⟩
 refine⟨y,_,I.lset (its':=its.eraseIdx k) hH e ?_ (r.eraseIdx k) ?_,rw',q⟩
 ·show its.toArray.eraseIdxIfInBounds k=(its.eraseIdx k).toArray
  rw[List.eraseIdxIfInBounds_toArray]
 ·have:=ss xs k
  omega
end
end L2
namespace Att
open PySem PySem.W PySem.Calls PyProof.Rows
theorem pG {P:Wc}{h:Heap}: ∀(ns:List Int) (vs:List KU),WellAll P h vs (ns.map Xq)->Qb vs ns:=by
 intro ns
 induction ns with
 |nil=>
  intro vs w;rw[QQ] at w;cases w
  exact .nil
 |cons n ns ih=>
  intro vs w;rw[Lf] at w;cases w with
  |cons a b=>
   cases a
   exact .cons _ _ (ih _ b)
theorem zO {l:SQ}{n:Nat}(hn:l.most=some n){P:Wc}{h:Heap}{args:List WData}{vals:List KU}
 (hpre:l.row.toRowW.claim.pre args=true) (hwl:WellAll P h vals args):
 ∃a vs ns,vals=[Mf a]/\args=[WData.list (ns.map Xq)]/\h.get? a=some {cls:=.type "list",data:=.seq vs.toArray}/\Qb vs ns/\ns.length<=n:=by
 have hsh:WShape.hasAll [] args [.list .int]=true:=(pre_splitW hpre).1
 have hc:l.pre.holds [] {args:=args}=true:=(pre_splitW hpre).2
 obtain⟨d,r,rfl,h1,h2⟩:=hasAllW_cons hsh
 obtain rfl:=hasAllW_nil h2
 obtain⟨xs,rfl,h3⟩:=hasW_list h1
 obtain⟨ns,rfl⟩:=items_int h3
 have hlen:ns.length<=n:=by
  unfold OpenLaw.pre at hc;have h4:(WTm.not (.lt (.lit (.int (n:Int))) (.len (.arg 0)))).holds [] {args:=[.list (ns.map .int)]}=true:=by
   have h4:=(holds_andW hc).1
   rw[hn] at h4;exact h4
  have h5:=condW_of h4 (w_not (w_lt w_lit (w_len_list (w_arg rfl))))
  rw[K5] at h5;refine Nat.le_of_not_lt λq=>?_
  have q':(n:Int)<((ns.length:Nat):Int):=by omega
  first
   |(rw[decide_eq_true q'] at h5;exact absurd h5 (by decide))
   |(simp at h5;omega)
 cases hwl with
 |cons w1 w2=>
  cases w2
  cases w1 with
  |list ho hall=>exact⟨_,_,ns,rfl,rfl,ho,pG ns _ hall,hlen⟩
theorem y8(l:SQ)(args:List WData):l.row.toRowW.claim.post args (.bool true) args=true:=
 postW_of (r:=l.row.toRowW) (X:=(true==true))
  (show We [] (.bool true) .bool=true by first|rfl|decide|simp[We,WShape.arms,WShape.armsAll])
  (show(WTm.eq .res (.lit (.bool true))).value [] {args:=args,res:=some (.bool true),after:=args}=some (.bool (true==true)) from w_eq_bool (w_res rfl) w_lit) rfl
theorem attach_call {l:SQ}{n:Nat}{q:LB}{loose:List Str}{XP:(Str->Option KU)->Heap->Prop}{YP:L1->Heap->Prop}{d:DefRec}
 (hn:l.most=some n) (hdf:d.params.defaults=[])
 (call: ∀(w:L1) (s₀ s₁:KZ) (mg mb:Str->Option KU) (fa:Addr) (o:Obj) (pm cd doc:KU) (a:Addr) (vs:List KU) (ns:List Int),
   Ground q loose [] XP w s₀ mg mb s₁.heap->YP w s₁.heap->
   s₁.heap.get? fa=some o->o.data=.func (docDef d.name d.params d.body d.scope pm cd doc)->s₁.heap.CodeRec cd d.name->mg d.name=some (.ref fa)->
   s₁.heap.get? a=some {cls:=.type "list",data:=.seq vs.toArray}->Qb vs ns->ns.length<=n->s₁.gens= #[]->
   Mg (model l.prog w) Pp (.call (.ref fa) ⟨[.ref a],[]⟩) (λr s'=>r=.ok (.ret (.bool true))/\OldK s₁.heap s'.heap/\s'.os=s₁.os/\NI s'.gens) s₁):
 WalkO q loose XP YP l.row.toRowW d [] (λf vs=>RV f vs):=by
 intro w s₀ s₁ mg mb G Y fa o pm cd doc dV kV ho hd hcd hD hmg hg args vals as hpre hlay hrd hwl hlo;obtain rfl:dV=.none:=Dflts.none hD hdf
 obtain rfl:kV=.none:=Dflts.noKw hD
 obtain⟨a,vs,ns,rfl,rfl,hobj,hints,hlen⟩:=zO hn hpre hwl
 refine enter_call (Oc (call w s₀ s₁ mg mb fa o pm cd doc a vs ns G Y ho (fd_plain hd) hcd hmg hobj hints hlen hg) λr s' hq=>?_)
 obtain⟨rfl,h2,h3,h4⟩:=hq
 exact⟨.inl ⟨.bool true,.bool true,[],rfl,λ_=>rfl,.bool true,y8 l _,λ_=>⟨QW,λ_ hm=>(nomatch hm)⟩⟩,h2,h3,h4⟩
end Att
namespace L2
open PySem PySem.Spec PyProof.Rows
theorem rZ: ∀ {vs:List KU} {ns:List Int},Qb vs ns->Vals (ns.map V.int) vs
 |_,_,.nil=>.nil
 |_,_,.cons n t h=>.cons ⟨t,rfl⟩ (rZ h)
def Gq(H:Hp):Prop:= ∀b,H b=none\/ ∃o xs,H b=some (.frz o (.lst xs))
theorem Av {P:LB}{w:L1}{K:K7}{mg mb:Str->Option KU}{CX:xK}{k:Nat}{fa a:Addr}{fd:M5}{x:Str}{sp:Sp}{s₁:KZ}{vs:List KU}{ns:List Int}
 (KX:K.In s₁.heap) (hns:s₁.heap.Ns K8 mg) (hb:s₁.heap.Ns QB mb) (hbb: ∀x:Str,x≠"__name__"->mb x=Nm x) (hlim:s₁.heap.NoLimit) (hg:s₁.gens= #[])
 (ha:s₁.heap.get? a=some {cls:=.type "list",data:=.seq vs.toArray}) (hi:Qb vs ns) (hl:ns.length<=Lm) (hr:Room k Pp)
 (F: ∀base:Heap,K.In base->base.Ns K8 mg->FnOk P w K mg base CX k fa fd [x] sp) (hbind: ∀(s:KZ) (u:KU),QO s fd ⟨[u],[]⟩ [(x,u)])
 (hsp: ∀H:Hp,Gq H->SqL K H a (ns.map V.int)->sp [.ref a] H (λv _=>v=.bl true) λ_ _ _=>False)
 (hCX: ∀H e s',CX [] H s₁ (λ_ _ _=>False) e s'->False):
 Mg (model P w) Pp (.call (.ref fa) ⟨[.ref a],[]⟩) (λr s'=>r=.ok (.ret (.bool true))/\OldK s₁.heap s'.heap/\s'.os=s₁.os/\NI s'.gens) s₁:=by
 have rv:=rZ hi
 have lenV:=hi.length
 have core: ∀H:Hp,Gq H->SqL K H a (ns.map V.int)->HOk P w H s₁.heap->(∀b,H b≠none->b=a)->(H a≠none->K.lookup a=none)->
  Mg (model P w) Pp (.call (.ref fa) ⟨[.ref a],[]⟩) (λr s'=>r=.ok (.ret (.bool true))/\OldK s₁.heap s'.heap/\s'.os=s₁.os/\NI s'.gens) s₁:=by
  intro H hO hS hok hA hK;have base_of: ∀ {b:Addr} {o:Obj},s₁.heap.get? b=some o->H b=none->(uk s₁.heap H).get? b=some o:=λe n=>CN e n
  have noA: ∀ {b:Addr} {o:Obj} {es:Array DictEntry} {ep:Nat},s₁.heap.get? b=some o->o.data=.dict es ep->H b=none:=λ{b o es ep} e d=>by
   cases q:H b with
   |none=>rfl
   |some u=>
    have e':b=a:=hA b (by rw[q];simp)
    subst e';rw[ha] at e;cases e;have d':Data.seq vs.toArray _=Data.dict es ep:=d
    cases d'
  have nsK: ∀ {b:Addr} {m:Str->Option KU},s₁.heap.Ns b m->(uk s₁.heap H).Ns b m:=λ{b m} ⟨o,es,ep,e,d,r⟩=>⟨o,es,ep,base_of e (noA e d),d,r⟩
  have hKb:K.In (uk s₁.heap H):=λb o e=>base_of (KX b o e) (by
   cases q:H b with
   |none=>rfl
   |some u=>
    have e':b=a:=hA b (by rw[q];simp)
    subst e';rw[hK (by rw[q];simp)] at e;cases e)
  have hM:Mod K mg (uk s₁.heap H):=⟨hKb,nsK hns,⟨mb,nsK hb,hbb⟩,let⟨mc,h1,h2⟩:=hlim;⟨mc,nsK h1,h2⟩⟩
  have e0:Env0 P w K mg (uk s₁.heap H) Pp [] s₁ H:=⟨rfl,hM,λb o e=>EZ e,Nat.le_of_eq (yS _ _),trivial,λb hb=>absurd (show b∈([]:List Addr) from hb) (by simp),hok,.of_eq hg⟩
  refine Oc ((F _ hKb (nsK hns)).run Pp [] s₁ H ⟨[.ref a],[]⟩ [.ref a] [.ref a] _ _ hr e0 (hbind s₁ (.ref a)) (.cons rfl .nil) (hsp H hO hS)) λr s' h=>?_
  cases r with
  |error e=>exact(hCX H e s' h).elim
  |ok fl=>
   cases fl with
   |next=>exact False.elim h
   |brk=>exact False.elim h
   |cont=>exact False.elim h
   |ret u=>
    obtain⟨v,H',os,bare,un,hok',r',q⟩:=h
    have q':v=.bl true:=q
    subst q';obtain rfl:u=VX true:=r'
    refine⟨rfl,OldK.of_keep λb o e=>?_,os,bare⟩
    cases q:H b with
    |none=>exact un.keep b o e q (by intro z;exact absurd (show b∈([]:List Addr) from z) (by simp)) (by simp)
    |some u=>
     rcases hO b with z|⟨ob,xs,z⟩
     ·rw[q] at z;cases z
     ·have z2:=un.frzs b ob _ z
      obtain⟨e1,_⟩:=hok b _ z
      obtain⟨e2,_⟩:=hok' b _ z2
      rw[e] at e1;cases e1;exact e2
 cases hk:K.lookup a with
 |some o=>
  have e:=KX a o hk
  rw[ha] at e;cases e
  refine core (λ_=>none) (λ_=>.inl rfl) (.inr ⟨_,vs.toArray,_,hk,rfl,rfl,rfl,by rw[Lr,lenV];exact hl,by simpa using rv⟩) (λb u z=>by have z':(none:Option HO)=some u:=z;cases z') (λb z=>absurd rfl z) λz=>absurd rfl z
 |none=>
  refine core (λb=>if b=a then some (.frz {cls:=.type "list",data:=.seq vs.toArray} (.lst (ns.map V.int))) else none) (λb=>?_) (.inl (.inr ⟨{cls:=.type "list",data:=.seq vs.toArray},if_pos rfl⟩)) (λb u z=>?_) (λb z=>?_) λ_=>hk
  ·by_cases hb:b=a
   ·exact .inr ⟨_,_,if_pos hb⟩
   ·exact .inl (if_neg hb)
  ·by_cases hb:b=a
   ·have z':=(if_pos hb).symm.trans z
    cases z'
    subst hb;exact⟨ha,by rw[K5];exact hl,vs,_,rv,ha⟩
   ·have z':=(if_neg hb).symm.trans z
    cases z'
  ·by_cases hb:b=a
   ·exact hb
   ·exact absurd (if_neg hb) z
theorem walk_of {l:SQ}{n k:Nat}{q:LB}{loose:List Str}{XP:(Str->Option KU)->Heap->Prop}{YP:L1->Heap->Prop}{d:DefRec}{K:Wc->K7}{CX:L1->xK}{sp:L1->Sp}{x:Str}
 (hn:l.most=some n) (hn2:n<=Lm) (hdf:d.params.defaults=[]) (hr:Room k Pp)
 (hY: ∀(w:L1) (h:Heap),YP w h->(K w.params).In h)
 (F: ∀(w:L1) (mg:Str->Option KU) (fa:Addr) (h:Heap),(K w.params).In h->h.Ns K8 mg->mg d.name=some (.ref fa)->
   ∃fd:M5,(∀(s:KZ) (u:KU),QO s fd ⟨[u],[]⟩ [(x,u)])/\
    ∀base:Heap,(K w.params).In base->base.Ns K8 mg->FnOk l.prog w (K w.params) mg base (CX w) k fa fd [x] (sp w))
 (hsp: ∀(w:L1) (H:Hp) (a:Addr) (ns:List Int),ns.length<=n->Gq H->SqL (K w.params) H a (ns.map V.int)->sp w [.ref a] H (λv _=>v=.bl true) λ_ _ _=>False)
 (hCX: ∀(w:L1) (H:Hp) (s:KZ) (e:KU) (s':KZ),CX w [] H s (λ_ _ _=>False) e s'->False):
 W.WalkO q loose XP YP l.row.toRowW d [] (λf vs=>RV f vs):=by
 refine Att.attach_call hn hdf λw s₀ s₁ mg mb fa o pm cd doc a vs ns G Y ho hd hcd hmg hobj hints hlen hg=>?_
 have KX:=hY w _ Y
 obtain⟨fd,hb,hF⟩:=F w mg fa _ KX G.T.g hmg
 exact Av KX G.T.g G.T.b G.T.builtins G.T.nolimit hg hobj hints (LW hlen hn2) hr hF hb (λH hO hS=>hsp w H a ns hlen hO hS) λH e s'=>hCX w H s₁ e s'
def aO(s:Stmt):Arguments:=match s with
 | .FunctionDef _ a _ _ _ _ _ _ _ _=>a
 |_=>{posonlyargs:=[],args:=[],vararg:=none,kwonlyargs:=[],kw_defaults:=[],kwarg:=none,defaults:=[]}
def aK(s:Stmt):List Stmt:=match s with
 | .FunctionDef _ _ b _ _ _ _ _ _ _=>b
 |_=>[]
def aq(s:Stmt):Scope:=match s with
 | .FunctionDef _ _ _ _ _ _ sc _ _ _=>sc
 |_=>{kind:=.function,names:=[],isGenerator:=false,isCoroutine:=false}
abbrev ur:xK:=λ_ _ _ _ _ _=>False
abbrev E0:XK:=λ_ _ _=>False
theorem xA {X:Cx}:v8 ur X E0:=λ_ _ _ _ _ _ _ h=>h.elim
structure Fun(K:K7)(x qual:Str)(st:Stmt)(f:Addr)(fd:M5):Prop where
 ex: ∃(oc:KU) (od:Option Addr) (kV doc pm:KU) (an:Option Addr) (cdv ct:KU) (osl:Array (Option KU)),
  fd=L4 x qual (aO st) (aK st) (aq st) .none kV doc pm an cdv ct/\K.lookup f=some ⟨oc,od,.func fd,osl⟩/\LD K cdv qual=true
 kp:Ly K (.ref f)=true
section
variable {P:LB}{w:L1}{K:K7}{mg:Str->Option KU}{base:Heap}
theorem Fun.ok {x qual:Str}{st:Stmt}{f:Addr}{fd:M5}{N ps:List Str}{k:Nat}{sp:Sp}(F:Fun K x qual st f fd)(S:FnScope N ps (aq st))(len: ∀vs H Q E,sp vs H Q E->vs.length=ps.length)
 (hbody: ∀(cdv:KU) (A:LC) (outer:List Env) (s:KZ) (H:Hp) (vs:List V) (Q:VK) (E:XK),Room k (A.deeper (NF qual (aq st) s.heap.objs.size f cdv))->sp vs H Q E->
   ∃t,PSs (o9 ur P w K mg base N qual (aq st) f cdv A outer s H E).nox (aK st) t/\t {nx:=λ_ H'=>Q .non H',rt:=Q} (start N vs) H):FnOk P w K mg base ur (k+1) f fd ps sp:=by
 obtain⟨oc,od,kV,doc,pm,an,cdv,ct,osl,rfl,lk,hcd⟩:=F.ex
 refine E4 lk hcd S len λA outer s H vs Q E hr hsp=>?_
 obtain⟨t,h,q⟩:=hbody cdv A outer s H vs Q E hr hsp
 exact⟨t,h.nox,q⟩
theorem Fun.binds {x qual:Str}{st:Stmt}{f:Addr}{fd:M5}{ps:List Str}(F:Fun K x qual st f fd)
 (h: ∀(kV doc pm:KU) (an:Option Addr) (cdv ct:KU) (us:List KU),us.length=ps.length->bindArgs (L4 x qual (aO st) (aK st) (aq st) .none kV doc pm an cdv ct) ⟨us,[]⟩=pure (ps.zip us)):Binds K fd ps []:=by
 obtain⟨oc,od,kV,doc,pm,an,cdv,ct,osl,rfl,lk,hcd⟩:=F.ex
 exact .all (h kV doc pm an cdv ct)
theorem bo {x qual:Str}{st:Stmt}{f:Addr}{oc:KU}{od an:Option Addr}{osl:Array (Option KU)}{kV doc pm cdv ct:KU}(l:K.lookup f=some ⟨oc,od,.func (L4 x qual (aO st) (aK st) (aq st) .none kV doc pm an cdv ct),osl⟩)
 (c:LD K cdv qual=true) (k:Ly K (.ref f)=true):Fun K x qual st f (L4 x qual (aO st) (aK st) (aq st) .none kV doc pm an cdv ct):=⟨⟨oc,od,kV,doc,pm,an,cdv,ct,osl,rfl,l,c⟩,k⟩
end
theorem xp {A:LC}{k:Nat}(hr:Room k A):A.units+1<cLine:=N3 (Nat.add_le_add_left (by decide:1<=64) _) hr.units
theorem kq {n:Nat}(h:n<=1000):n<sizeLine:=N3 h (by decide)
section
variable {X:Cx}
theorem pv(i:Nat){x:Str}{pos:Pos}(hN:X.N[i]? =some x:=by rfl)(hv:zg X.env.scope x:=by first|exact MQ rfl|exact Mk (MQ rfl)|exact Mk (Mk rfl))(hd:(x==("__debug__":Str))=false:=by decide)
 (hcd:(x==("__classdict__":Str))=false:=by decide):PE X (.Name x pos) (IG i):=G8 hN hv hd hcd
end
theorem wJ {A B:Prop}(h:B):if false=true then A else B:=by
 rw[if_neg N0];exact h
theorem wb {A B:Prop}(h:A):if true=true then A else B:=by
 rw[if_pos rfl];exact h
def Same(H H':Hp):Prop:= ∀b o,H b=some o->H' b=some o
theorem Same.refl(H:Hp):Same H H:=λ_ _ h=>h
theorem Same.trans {H H1 H2:Hp}(a:Same H H1)(b:Same H1 H2):Same H H2:=λc o h=>b c o (a c o h)
theorem Same.free {H H':Hp}(e:Same H H'){l:Addr}(h:H' l=UI):H l=Option.none:=by
 cases q:H l with
 |none=>rfl
 |some o=>
  rw[e l o q] at h;cases h
theorem Same.seq {K:K7}{H H':Hp}{a:Addr}{xs:List V}(e:Same H H')(h:SqL K H a xs):SqL K H' a xs:=by
 rcases h with(h|⟨o,h⟩)|h
 ·exact .inl (.inl (e _ _ h))
 ·exact .inl (.inr ⟨o,e _ _ h⟩)
 ·exact .inr h
inductive D where
 |non|bl (b:Bool)|int (i:Int)|str (x:Str)|tup (ds:List D)|lst (ds:List D)
 |scr (ds:List D)
def SqR(K:K7)(H:Hp)(a:Addr)(xs:List V):Prop:=
 (∃o,H a=some (.frz o (.lst xs)))\/
   ∃(o:Obj) (its:Array KU) (n:Nat),K.lookup a=some o/\o.cls=.type "list"/\o.dict=none/\o.data=.seq its n/\its.size<=Lm/\Vals xs its.toList
theorem SqR.seq {K:K7}{H:Hp}{a:Addr}{xs:List V}(h:SqR K H a xs):SqL K H a xs:=h.elim (λh=>.inl (.inr h)) .inr
theorem Same.seqR {K:K7}{H H':Hp}{a:Addr}{xs:List V}(e:Same H H')(h:SqR K H a xs):SqR K H' a xs:=h.elim (λ⟨o,h⟩=>.inl ⟨o,e _ _ h⟩) .inr
mutual
inductive Rep (K:K7) (F:Hp):V->D->Prop
 |non:Rep K F .non .non
 |bl {b:Bool}:Rep K F (.bl b) (.bl b)
 |int {i:Int}:Rep K F (.int i) (.int i)
 |str {x:Str}:Rep K F (.str x) (.str x)
 |tup {a:Addr} {xs:List V} {ds:List D}:SqT K F a xs->Reps K F xs ds->Rep K F (.ref a) (.tup ds)
 |lst {a:Addr} {xs:List V} {ds:List D}:F a=some (.lst xs)->Reps K F xs ds->Rep K F (.ref a) (.lst ds)
 |scr {a:Addr} {xs:List V} {ds:List D}:SqR K F a xs->Reps K F xs ds->Rep K F (.ref a) (.scr ds)
inductive Reps (K:K7) (F:Hp):List V->List D->Prop
 |nil:Reps K F [] []
 |cons {x:V} {d:D} {xs:List V} {ds:List D}:Rep K F x d->Reps K F xs ds->Reps K F (x::xs) (d::ds)
end
theorem Same.seqT {K:K7}{H H':Hp}{a:Addr}{xs:List V}(e:Same H H')(h:SqT K H a xs):SqT K H' a xs:=by
 rcases h with(h|⟨o,h⟩)|h
 ·exact .inl (.inl (e _ _ h))
 ·exact .inl (.inr ⟨o,e _ _ h⟩)
 ·exact .inr h
mutual
theorem Rep.mono {K:K7}{F G:Hp}(s:Same F G): ∀ {v:V} {d:D},Rep K F v d->Rep K G v d
 |_,_,.non=>.non
 |_,_,.bl=>.bl
 |_,_,.int=>.int
 |_,_,.str=>.str
 |_,_,.tup h r=>.tup (Same.seqT s h) (Reps.mono s r)
 |_,_,.lst h r=>.lst (s _ _ h) (Reps.mono s r)
 |_,_,.scr h r=>.scr (Same.seqR s h) (Reps.mono s r)
theorem Reps.mono {K:K7}{F G:Hp}(s:Same F G): ∀ {v:List V} {d:List D},Reps K F v d->Reps K G v d
 |_,_,.nil=>.nil
 |_,_,.cons r t=>.cons (Rep.mono s r) (Reps.mono s t)
end
section
variable {K:K7}{F G H:Hp}
theorem Reps.length: ∀ {xs:List V} {ds:List D},Reps K F xs ds->xs.length=ds.length
 |_,_,.nil=>rfl
 |_,_,.cons _ t=>by simp[t.length]
theorem Reps.get: ∀ {xs:List V} {ds:List D} {i:Nat} {d:D},Reps K F xs ds->ds[i]? =some d-> ∃x,xs[i]? =some x/\Rep K F x d
 |_,_,_,_,.nil,e=>by simp at e
 |_,_,0,_,.cons r _,e=>by simp at e;subst e;exact⟨_,rfl,r⟩
 |_,_,i+1,d,.cons _ t,e=>by
  obtain⟨u,h1,h2⟩:=Reps.get (i:=i) (d:=d) t (by simpa using e)
  exact⟨u,by simpa using h1,h2⟩
theorem Reps.get' {xs:List V}{ds:List D}{i:Nat}{x:V}(r:Reps K F xs ds)(e:xs[i]? =some x): ∃d,ds[i]? =some d/\Rep K F x d:=by
 have hl:=r.length
 have hi:=(Lp.mp e).1
 have e2:ds[i]? =some ds[i]:=K0 (by omega)
 obtain⟨y,h1,h2⟩:=r.get e2
 rw[e] at h1;cases h1;exact⟨_,e2,h2⟩
theorem Reps.append: ∀ {xs ys:List V} {us ws:List D},Reps K F xs us->Reps K F ys ws->Reps K F (xs++ys) (us++ws)
 |_,_,_,_,.nil,s=>s
 |_,_,_,_,.cons r t,s=>.cons r (Reps.append t s)
theorem Reps.set {x:V}{u:D}(r:Rep K F x u): ∀ {xs:List V} {us:List D} (i:Nat),Reps K F xs us->Reps K F (xs.set i x) (us.set i u)
 |_,_,_,.nil=>.nil
 |_,_,0,.cons _ t=>.cons r t
 |_,_,i+1,.cons q t=>.cons q (Reps.set r i t)
theorem Reps.eraseIdx: ∀ {xs:List V} {us:List D} (i:Nat),Reps K F xs us->Reps K F (xs.eraseIdx i) (us.eraseIdx i)
 |_,_,_,.nil=>.nil
 |_,_,0,.cons _ t=>t
 |_,_,i+1,.cons q t=>.cons q (Reps.eraseIdx i t)
theorem Reps.take: ∀ {xs:List V} {us:List D} (n:Nat),Reps K F xs us->Reps K F (xs.take n) (us.take n)
 |_,_,0,_=>.nil
 |_,_,_+1,.nil=>.nil
 |_,_,n+1,.cons r t=>.cons r (Reps.take n t)
theorem Reps.drop: ∀ {xs:List V} {us:List D} (n:Nat),Reps K F xs us->Reps K F (xs.drop n) (us.drop n)
 |_,_,0,r=>r
 |_,_,_+1,.nil=>.nil
 |_,_,n+1,.cons _ t=>Reps.drop n t
end
abbrev cj:=Addr->Bool
def vw(H:Hp)(hid:cj):Hp:=λb=>if hid b=true then none else H b
def cM(hid:cj)(a:Addr):cj:=λb=>hid b||decide (b=a)
def iN(hid:cj)(a:Addr):cj:=λb=>hid b&& !decide (b=a)
theorem vw_some {H:Hp}{hid:cj}{b:Addr}{o:HO}:vw H hid b=some o↔hid b=false/\H b=some o:=by
 unfold vw;cases hb:hid b<;>simp
theorem gy(H:Hp)(hid:cj):Same (vw H hid) H:=λb o h=>(vw_some.mp h).2
theorem aV {H H':Hp}{hid:cj}(s:Same H H'):Same (vw H hid) (vw H' hid):=λb o h=>vw_some.mpr ⟨(vw_some.mp h).1,s _ _ (vw_some.mp h).2⟩
theorem xM {H H':Hp}{hid:cj}(s: ∀b o,H b=some o->hid b=false->H' b=some o):Same (vw H hid) (vw H' hid):=λb o h=>vw_some.mpr ⟨(vw_some.mp h).1,s _ _ (vw_some.mp h).2 (vw_some.mp h).1⟩
theorem eY {H:Hp}{hid:cj}{a:Addr}{o:HO}(h:hid a=true):vw (bI H a o) hid=vw H hid:=by
 funext b;unfold vw bI
 by_cases e:b=a
 ·subst e;simp[h]
 ·simp[e]
theorem jT {H:Hp}{hid hid':cj}(h: ∀b,hid' b=true->hid b=true):Same (vw H hid) (vw H hid'):=λb o q=>by
 obtain⟨q1,q2⟩:=vw_some.mp q
 refine vw_some.mpr ⟨?_,q2⟩
 cases e:hid' b with
 |false=>rfl
 |true=>rw[h b e] at q1;cases q1
theorem tT {H:Hp}{hid:cj}{a:Addr}{o:HO}(h:H a=none):vw (bI H a o) (cM hid a)=vw H hid:=by
 funext b;unfold vw bI cM
 by_cases e:b=a
 ·subst e
  cases hb:hid b<;>simp[h]
 ·simp[e]
inductive NO where
 |l (ds:List D)
 |k (kvs:List (cv×D))
inductive Ob where
 |nst (us:List NO)
 |dR (kvs:List (cv×D))
 |dRs (l:List (List (cv×D)))
 |exc (x:Str) (n:Int)
 |dK (kvs:List (cv×D))
 |dT (kvs:List (List cv×D))
 |set (ds:List D)
 |old (d:D)
 |jnk
 |tset (ks:List (List Int))
 |dF (kvs:List (List cv×D))
inductive Sl where
 |no
 |v (d:D)
 |own (ds:List D)
 |arg (ds:List D)
 |ob (b:Ob)
abbrev aJ:=List Sl
structure Ct where
 H₀:Hp
 hid₀:cj
 mu:Addr->Bool
def vC(K:K7)(x:Str)(n:Int)(a:Addr)(h:Heap):Prop:= ∃C o,LN K K8 x=some (some (.ref C))/\h.get? a=some o/\o.cls=.ref C/\o.dict=none/\W.notCls o=true
def IZ:Option HO->Bool
 |some (.lst _)=>true
 |_=>false
def fv(c:Ct)(F:Hp):Hp:=λb=>if(c.H₀ b).isSome=true/\IZ (F b)=true then none else F b
def ov(c:Ct)(F:Hp):Hp:=λb=>if(c.H₀ b).isSome=true then F b else none
theorem fv_some {c:Ct}{F:Hp}{b:Addr}{o:HO}:fv c F b=some o↔(IZ (some o)=true->c.H₀ b=none)/\F b=some o:=by
 unfold fv;constructor
 ·intro h
  split at h
  ·cases h
  ·rename_i hn
   refine⟨λq=>?_,h⟩
   rw[h] at hn;cases hb:c.H₀ b with
   |none=>rfl
   |some u=>exact absurd ⟨by rw[hb];rfl,q⟩ hn
 ·rintro⟨h1,h2⟩
  rw[if_neg,h2]
  rintro⟨q1,q2⟩
  rw[h2] at q2;rw[h1 q2] at q1;cases q1
theorem ov_some {c:Ct}{F:Hp}{b:Addr}{o:HO}:ov c F b=some o↔(∃u,c.H₀ b=some u)/\F b=some o:=by
 unfold ov;cases hb:c.H₀ b<;>simp
theorem Ee {c:Ct}{F G:Hp}(s:Same F G):Same (fv c F) (fv c G):=λb o h=>fv_some.mpr ⟨(fv_some.mp h).1,s _ _ (fv_some.mp h).2⟩
theorem DM {c:Ct}{F G:Hp}(s:Same F G):Same (ov c F) (ov c G):=λb o h=>ov_some.mpr ⟨(ov_some.mp h).1,s _ _ (ov_some.mp h).2⟩
def NOk(K:K7)(c:Ct)(hid:cj)(H:Hp)(p a:Addr):NO->Prop
 | .l ds=>(hid a=true/\c.H₀ a=none)/\ ∃xs:List V,H a=some (.nst p (.lst xs))/\Reps K (vw H hid) xs ds
 | .k kvs=>(hid a=true/\c.H₀ a=none)/\ ∃us:List (cv×V),H a=some (.nst p (.dK us))/\us.map (·.1)=kvs.map (·.1)/\Reps K (vw H hid) (us.map (·.2)) (kvs.map (·.2))
theorem NOk.mono {K:K7}{c:Ct}{hid hid':cj}{H H':Hp}{p a:Addr}{b:NO}(h:NOk K c hid H p a b)(k: ∀u,H a=some (.nst p u)->H' a=some (.nst p u))(s:Same (vw H hid) (vw H' hid'))(w:(∃u,H a=some (.nst p u))->hid' a=true):NOk K c hid' H' p a b:=by
 cases b with
 |l ds=>obtain⟨h1,us,h2,h3⟩:=h;exact⟨⟨w ⟨_,h2⟩,h1.2⟩,us,k _ h2,h3.mono s⟩
 |k kvs=>obtain⟨h1,us,h2,h3,h4⟩:=h;exact⟨⟨w ⟨_,h2⟩,h1.2⟩,us,k _ h2,h3,h4.mono s⟩
def DRd(K:K7)(W:Hp)(a:Addr)(kvs:List (cv×D)):Prop:= ∃o us,W a=some (.frz o (.dK us))/\us.map (·.1)=kvs.map (·.1)/\Reps K W (us.map (·.2)) (kvs.map (·.2))
theorem DRd.mono {K:K7}{W W':Hp}{a:Addr}{kvs:List (cv×D)}(h:DRd K W a kvs)(s:Same W W'):DRd K W' a kvs:=by
 obtain⟨o,us,h1,h2,h3⟩:=h
 exact⟨o,us,s _ _ h1,h2,h3.mono s⟩
def ObOk(K:K7)(c:Ct)(hid:cj)(H:Hp)(a:Addr):Ob->Prop
 | .nst us=>(hid a=true/\c.H₀ a=none)/\ ∃bs:List Addr,H a=some (.lst (bs.map V.ref))/\bs.Nodup/\Paired (NOk K c hid H a) bs us
 | .dR kvs=>DRd K (vw H hid) a kvs
 | .dRs l=> ∃bs:List Addr,vw H hid a=some (.lst (bs.map V.ref))/\Paired (DRd K (vw H hid)) bs l
 | .exc x n=> ∃φ,vw H hid a=some (.ext φ)/\ ∀h,φ h->vC K x n a h
 | .dK kvs=>(hid a=true/\c.H₀ a=none)/\ ∃us:List (cv×V),H a=some (.dK us)/\us.map (·.1)=kvs.map (·.1)/\Reps K (vw H hid) (us.map (·.2)) (kvs.map (·.2))
 | .dT kvs=>(hid a=true/\c.H₀ a=none)/\ ∃us:List (List cv×V),H a=some (.dT us)/\us.map (·.1)=kvs.map (·.1)/\Reps K (vw H hid) (us.map (·.2)) (kvs.map (·.2))
 | .set ds=>(hid a=true/\c.H₀ a=none)/\ ∃xs:List V,H a=some (.lst xs)/\Reps K (fv c (vw H hid)) xs ds
 | .old d=>Rep K (ov c (vw H hid)) (.ref a) d
 | .jnk=>(hid a=true/\c.H₀ a=none)/\ ∃xs:List V,H a=some (.lst xs)
 | .tset ks=>(hid a=true/\c.H₀ a=none)/\ ∃xs:List (List Int×Addr),H a=some (.tst xs)/\(xs.map (·.1)).Perm ks/\Reps K (vw H hid) (xs.map λx=>V.ref x.2) (xs.map λx=>D.tup (x.1.map D.int))
 | .dF kvs=>(hid a=true/\c.H₀ a=none)/\ ∃(o:Obj) (us:List (List cv×V)),H a=some (.frz o (.dT us))/\us.map (·.1)=kvs.map (·.1)/\Reps K (vw H hid) (us.map (·.2)) (kvs.map (·.2))
def sS:Ob->Prop
 | .exc _ _=>False
 | .old _=>False
 | .dR _=>False
 | .dRs _=>False
 |_=>True
def At(H:Hp)(a x:Addr):Prop:=x=a\/ ∃u,H x=some (.nst a u)
theorem At.ne {H:Hp}{a a' x:Addr}{o:HO}(hx:At H a' x)(ne:a'≠a)(ha:H a=some o)(hn: ∀p u,o≠ .nst p u:=by intro _ _ e;cases e):x≠a:=λe=>by
 subst e;rcases hx with rfl|⟨u,hu⟩
 ·exact ne rfl
 ·rw[ha] at hu;cases hu;exact hn _ _ rfl
theorem ObOk.mono {K:K7}{c:Ct}{hid hid':cj}{H H':Hp}{a:Addr}{b:Ob}(h:ObOk K c hid H a b)(k:sS b-> ∀x,At H a x-> ∀o,H x=some o->H' x=some o)(s:Same (vw H hid) (vw H' hid'))(w:sS b-> ∀x,At H a x->hid x=true->hid' x=true):ObOk K c hid' H' a b:=by
 have k1:sS b-> ∀o,H a=some o->H' a=some o:=λo=>k o a (.inl rfl)
 have w1:sS b->hid a=true->hid' a=true:=λo=>w o a (.inl rfl)
 cases b with
 |nst us=>
  obtain⟨h1,bs,h2,h3,h4⟩:=h
  refine⟨⟨w1 trivial h1.1,h1.2⟩,bs,k1 trivial _ h2,h3,Paired.mapP h4 λx y z=>z.mono (λu q=>k trivial x (.inr ⟨u,q⟩) _ q) s λq=>w trivial x (.inr q) ?_⟩
  cases y with
  |l ds=>exact z.1.1
  |k kvs=>exact z.1.1
 |dR kvs=>exact DRd.mono h s
 |dRs l=>obtain⟨bs,h1,h2⟩:=h;exact⟨bs,s _ _ h1,Paired.mapP h2 λ_ _ z=>z.mono s⟩
 |exc x n=>obtain⟨φ,h1,h2⟩:=h;exact⟨φ,s _ _ h1,h2⟩
 |dK kvs=>obtain⟨h1,us,h2,h3,h4⟩:=h;exact⟨⟨w1 trivial h1.1,h1.2⟩,us,k1 trivial _ h2,h3,h4.mono s⟩
 |dT kvs=>obtain⟨h1,us,h2,h3,h4⟩:=h;exact⟨⟨w1 trivial h1.1,h1.2⟩,us,k1 trivial _ h2,h3,h4.mono s⟩
 |set ds=>obtain⟨h1,us,h2,h3⟩:=h;exact⟨⟨w1 trivial h1.1,h1.2⟩,us,k1 trivial _ h2,h3.mono (Ee s)⟩
 |old d=>exact Rep.mono (DM s) h
 |jnk=>obtain⟨h1,us,h2⟩:=h;exact⟨⟨w1 trivial h1.1,h1.2⟩,us,k1 trivial _ h2⟩
 |tset ks=>obtain⟨h1,us,h2,h3,h4⟩:=h;exact⟨⟨w1 trivial h1.1,h1.2⟩,us,k1 trivial _ h2,h3,h4.mono s⟩
 |dF kvs=>obtain⟨h1,o,us,h2,h3,h4⟩:=h;exact⟨⟨w1 trivial h1.1,h1.2⟩,o,us,k1 trivial _ h2,h3,h4.mono s⟩
theorem ObOk.hid {K:K7}{c:Ct}{hid:cj}{H:Hp}{a:Addr}{b:Ob}(h:ObOk K c hid H a b)(o:sS b):hid a=true:=by
 cases b with
 |nst us=>exact h.1.1
 |dR kvs=>exact o.elim
 |dRs l=>exact o.elim
 |exc x n=>exact o.elim
 |dK kvs=>exact h.1.1
 |dT kvs=>exact h.1.1
 |set ds=>exact h.1.1
 |old d=>exact o.elim
 |jnk=>exact h.1.1
 |tset ks=>exact h.1.1
 |dF kvs=>exact h.1.1
def SlOk(K:K7)(c:Ct)(hid:cj)(σ:St)(H:Hp)(i:Nat):Sl->Prop
 | .no=>True
 | .v d=> ∃x,σ[i]? =some (some x)/\Rep K (vw H hid) x d
 | .own ds=> ∃a xs,σ[i]? =some (some (.ref a))/\H a=some (.lst xs)/\hid a=true/\c.H₀ a=none/\Reps K (vw H hid) xs ds
 | .arg ds=> ∃a xs,σ[i]? =some (some (.ref a))/\H a=some (.lst xs)/\hid a=true/\c.mu a=true/\Reps K (vw H hid) xs ds
 | .ob b=> ∃a,σ[i]? =some (some (.ref a))/\ObOk K c hid H a b
def Ow:Option Sl->Prop
 |some (.own _)=>True
 |some (.arg _)=>True
 |some (.ob b)=>sS b
 |_=>False
structure SR(K:K7)(c:Ct)(hid:cj)(ρ:aJ)(σ:St)(H:Hp):Prop where
 tr: ∀b,hid b=true-> ∃o,H b=some o
 ht: ∀b xs,hid b=true->H b≠some (.tup xs)
 h0: ∀b,c.hid₀ b=true->hid b=true
 kp: ∀b o,c.H₀ b=some o->c.mu b=false->H b=some o
 t0: ∀b o,c.H₀ b=some o-> ∃o',H b=some o'
 c0: ∀b,c.hid₀ b=true-> ∃o,c.H₀ b=some o
 m0: ∀b,c.mu b=true->c.hid₀ b=true
 len:σ.length=ρ.length
 sl: ∀(i:Nat) (s:Sl),ρ[i]? =some s->SlOk K c hid σ H i s
 ap: ∀(i j:Nat) (a:Addr),i≠j->Ow ρ[i]? ->Ow ρ[j]? ->σ[i]? =some (some (.ref a))->σ[j]? =some (some (.ref a))->False
section
variable {K:K7}{c:Ct}{hid:cj}{ρ:aJ}{σ:St}{H H':Hp}{i:Nat}
theorem SlOk.ext {s:Sl}(h:SlOk K c hid σ H i s)(e:Same H H'):SlOk K c hid σ H' i s:=by
 cases s with
 |no=>trivial
 |v d=>obtain⟨x,h1,h2⟩:=h;exact⟨x,h1,h2.mono (aV e)⟩
 |own ds=>obtain⟨a,xs,h1,h2,h3,h4,h5⟩:=h;exact⟨a,xs,h1,e _ _ h2,h3,h4,h5.mono (aV e)⟩
 |arg ds=>obtain⟨a,xs,h1,h2,h3,h4,h5⟩:=h;exact⟨a,xs,h1,e _ _ h2,h3,h4,h5.mono (aV e)⟩
 |ob b=>obtain⟨a,h1,h2⟩:=h;exact⟨a,h1,h2.mono (λ_ x _=>e x) (aV e) λ_ _ _ q=>q⟩
theorem SR.ext(h:SR K c hid ρ σ H)(e:Same H H'):SR K c hid ρ σ H' where
 tr:=λb hb=>let⟨o,q⟩:=h.tr b hb;⟨o,e _ _ q⟩
 ht:=λb xs hb q=>let⟨o,w⟩:=h.tr b hb;by have z:=e _ _ w;rw[q] at z;cases z;exact h.ht b xs hb w
 h0:=h.h0
 kp:=λb o q m=>e _ _ (h.kp b o q m)
 t0:=λb o q=>let⟨o',q'⟩:=h.t0 b o q;⟨o',e _ _ q'⟩
 c0:=h.c0
 m0:=h.m0
 len:=h.len
 sl:=λi s q=>(h.sl i s q).ext e
 ap:=h.ap
def Hy(hid:cj)(H:Hp):Prop:=(∀b,hid b=true-> ∃o,H b=some o)/\ ∀b xs,hid b=true->H b≠some (.tup xs)
theorem SR.trk(h:SR K c hid ρ σ H):Hy hid H:=⟨h.tr,h.ht⟩
theorem SR.fresh(h:SR K c hid ρ σ H){a:Addr}(n:H a=none):hid a=false:=by
 cases e:hid a with
 |false=>rfl
 |true=>obtain⟨o,q⟩:=h.tr a e;rw[n] at q;cases q
theorem SR.fresh0(h:SR K c hid ρ σ H){a:Addr}(n:H a=none):c.H₀ a=none:=by
 cases e:c.H₀ a with
 |none=>rfl
 |some o=>obtain⟨o',q⟩:=h.t0 a o e;rw[n] at q;cases q
end
inductive Kd where
 |b|s|n
 deriving DecidableEq
def Rep1(K:K7)(H W:Hp)(v:V)(d:D):Prop:=Rep K W v d\/ ∃a xs ds,v=.ref a/\d=.lst ds/\H a=some (.lst xs)/\Reps K W xs ds
def RN(K:K7)(H H':Hp)(hid:cj)(v:V)(d:D):Prop:= ∃a xs ds,d=.lst ds/\v=.ref a/\H a=none/\H' a=some (.lst xs)/\Reps K (vw H' (cM hid a)) xs ds
def RK(K:K7)(k:Kd)(H H':Hp)(hid:cj)(v:V)(d:D):Prop:=match k with
 | .b=>Rep1 K H' (vw H' hid) v d
 | .s=>Rep K (vw H' hid) v d
 | .n=>RN K H H' hid v d
section
variable {K:K7}{c:Ct}{hid:cj}{ρ:aJ}{σ:St}{H H' H'':Hp}{i:Nat}{v:V}{d:D}
theorem RN.rep(h:RN K H H' hid v d)(hf: ∀a,H a=none->hid a=false):Rep K (vw H' hid) v d:=by
 obtain⟨a,xs,ds,rfl,rfl,h1,h2,h3⟩:=h
 refine .lst (vw_some.mpr ⟨hf a h1,h2⟩) (h3.mono (jT λb q=>?_))
 unfold cM;rw[q];rfl
theorem RK.b(k:Kd)(h:RK K k H H' hid v d)(hf: ∀a,H a=none->hid a=false):Rep1 K H' (vw H' hid) v d:=by
 cases k with
 |b=>exact h
 |s=>exact .inl h
 |n=>exact .inl (RN.rep h hf)
theorem Rep1.ext {hid:cj}(h:Rep1 K H (vw H hid) v d)(e:Same H H'):Rep1 K H' (vw H' hid) v d:=by
 rcases h with h|⟨a,xs,ds,h1,h2,h3,h4⟩
 ·exact .inl (h.mono (aV e))
 ·exact .inr ⟨a,xs,ds,h1,h2,e _ _ h3,h4.mono (aV e)⟩
theorem Rep1.int {i:Int}(h:Rep1 K H (vw H hid) v (.int i)):v=.int i:=by
 rcases h with h|⟨a,xs,ds,h1,h2,_⟩
 ·cases h;rfl
 ·cases h2
theorem Rep1.bl {i:Bool}(h:Rep1 K H (vw H hid) v (.bl i)):v=.bl i:=by
 rcases h with h|⟨a,xs,ds,h1,h2,_⟩
 ·cases h;rfl
 ·cases h2
theorem Rep1.str {i:Str}(h:Rep1 K H (vw H hid) v (.str i)):v=.str i:=by
 rcases h with h|⟨a,xs,ds,h1,h2,_⟩
 ·cases h;rfl
 ·cases h2
theorem Rep1.non(h:Rep1 K H (vw H hid) v .non):v=.non:=by
 rcases h with h|⟨a,xs,ds,h1,h2,_⟩
 ·cases h;rfl
 ·cases h2
theorem Rep1.tup {ds:List D}(h:Rep1 K H (vw H hid) v (.tup ds)): ∃a xs,v=.ref a/\SqT K (vw H hid) a xs/\SqT K H a xs/\Reps K (vw H hid) xs ds:=by
 rcases h with h|⟨a,xs,ds,h1,h2,_⟩
 ·cases h with
  |tup q r=>exact⟨_,_,rfl,q,Same.seqT (gy _ _) q,r⟩
 ·cases h2
theorem Rep1.lst {ds:List D}(h:Rep1 K H (vw H hid) v (.lst ds)): ∃a xs,v=.ref a/\SqL K H a xs/\Reps K (vw H hid) xs ds:=by
 rcases h with h|⟨a,xs,ds,h1,h2,h3,h4⟩
 ·cases h with
  |lst q r=>exact⟨_,_,rfl,SqL.of (gy _ _ _ _ q),r⟩
 ·cases h2
  exact⟨a,xs,h1,SqL.of h3,h4⟩
theorem Rep1.scr {ds:List D}(h:Rep1 K H (vw H hid) v (.scr ds)): ∃a xs,v=.ref a/\SqL K H a xs/\Reps K (vw H hid) xs ds:=by
 rcases h with h|⟨a,xs,ds,h1,h2,h3,h4⟩
 ·cases h with
  |scr q r=>exact⟨_,_,rfl,(gy _ _).seq q.seq,r⟩
 ·cases h2
end
theorem PE.imp {X:Cx}{e:Expr}{t t':TE}(h:PE X e t)(i: ∀σ H Q,t' σ H Q->t σ H Q):PE X e t':=λaf s σ H Q I q=>h af s σ H Q I (i σ H Q q)
theorem PT.imp {X:Cx}{e:Expr}{t t':TT}(h:PT X e t)(i: ∀σ H Q,t' σ H Q->t σ H Q):PT X e t':=λaf s σ H Q I q=>h af s σ H Q I (i σ H Q q)
theorem PW.imp {X:Cx}{e:Expr}{t t':TT}(h:PW X e t)(i: ∀σ H Q,t' σ H Q->t σ H Q):PW X e t':=λwh af s σ H Q I q=>h wh af s σ H Q I (i σ H Q q)
theorem PA.imp {X:Cx}{e:List Expr}{t t':TA}(h:PA X e t)(i: ∀σ H Q,t' σ H Q->t σ H Q):PA X e t':=λp af s σ H Q I q=>h p af s σ H Q I (i σ H Q q)
theorem PS.imp {X:Cx}{e:Stmt}{t t':TS}(h:PS X e t)(i: ∀D σ H,t' D σ H->t D σ H):PS X e t':=λaf s σ H D I q=>h af s σ H D I (i D σ H q)
theorem PSs.imp {X:Cx}{e:List Stmt}{t t':TS}(h:PSs X e t)(i: ∀D σ H,t' D σ H->t D σ H):PSs X e t':=λaf s σ H D I q=>h af s σ H D I (i D σ H q)
abbrev FE:=aJ->Option D
abbrev FT:=aJ->Option Bool
abbrev FA:=aJ->Option (List D)
def C0(K:K7)(c:Ct)(hid:cj)(k:Kd)(f:FE)(ρ:aJ):TE:=λσ H Q=>SR K c hid ρ σ H/\ ∃d,f ρ=some d/\ ∀v H',Same H H'->RK K k H H' hid v d->Q v H'
def JS(K:K7)(c:Ct)(hid:cj)(f:FT)(ρ:aJ):TT:=λσ H Q=>SR K c hid ρ σ H/\ ∃d,f ρ=some d/\ ∀H',Same H H'->Q d H'
def KH(K:K7)(c:Ct)(hid:cj)(f:FA)(ρ:aJ):TA:=λσ H Q=>SR K c hid ρ σ H/\ ∃d,f ρ=some d/\ ∀vs H',Same H H'->Reps K (vw H' hid) vs d->Q vs H'
def DP(X:Cx)(c:Ct)(k:Kd)(e:Expr)(f:FE):Prop:= ∀hid ρ,PE X e (C0 X.K c hid k f ρ)
def DT(X:Cx)(c:Ct)(e:Expr)(f:FT):Prop:= ∀hid ρ,PT X e (JS X.K c hid f ρ)
def DW(X:Cx)(c:Ct)(e:Expr)(f:FT):Prop:= ∀hid ρ,PW X e (JS X.K c hid f ρ)
def DA(X:Cx)(c:Ct)(es:List Expr)(f:FA):Prop:= ∀hid ρ,PA X es (KH X.K c hid f ρ)
section
variable {X:Cx}{c:Ct}{e a b:Expr}{es:List Expr}{f g:FE}{k:Kd}{pos:Pos}
theorem DP.toS(h:DP X c .n e f):DP X c .s e f:=λhid ρ=>PE.imp (h hid ρ) λσ H Q ⟨sr,d,hd,q⟩=>⟨sr,d,hd,λv H' s r=>q v H' s (RN.rep r λa n=>sr.fresh n)⟩
def ai(i:Nat):FE:=λρ=>match ρ[i]? with
 |some (.v d)=>some d
 |_=>none
def fI(i:Nat):FE:=λρ=>match ρ[i]? with
 |some (.v d)=>some d
 |some (.own ds)=>some (.lst ds)
 |some (.arg ds)=>some (.lst ds)
 |_=>none
theorem ag(i:Nat){x:Str}(hN:X.N[i]? =some x:=by rfl)(hv:zg X.env.scope x:=by first|exact MQ rfl|exact Mk (MQ rfl)|exact Mk (Mk rfl))(hd:(x==("__debug__":Str))=false:=by decide)
 (hcd:(x==("__classdict__":Str))=false:=by decide):DP X c .s (.Name x pos) (ai i):=λhid ρ=>PE.imp (pv i hN hv hd hcd) λσ H Q hq_=>by
 obtain⟨sr,d,hd,q⟩:=hq_
 unfold ai at hd;split at hd
 ·rename_i d' e'
  cases hd
  obtain⟨x,h1,h2⟩:=sr.sl i _ e'
  exact⟨x,h1,q x H (Same.refl _) h2⟩
 ·cases hd
theorem fL(i:Nat){x:Str}(hN:X.N[i]? =some x:=by rfl)(hv:zg X.env.scope x:=by first|exact MQ rfl|exact Mk (MQ rfl)|exact Mk (Mk rfl))(hd:(x==("__debug__":Str))=false:=by decide)
 (hcd:(x==("__classdict__":Str))=false:=by decide):DP X c .b (.Name x pos) (fI i):=λhid ρ=>PE.imp (pv i hN hv hd hcd) λσ H Q hq_=>by
 obtain⟨sr,d,hd,q⟩:=hq_
 unfold fI at hd;split at hd
 ·rename_i d' e'
  cases hd
  obtain⟨x,h1,h2⟩:=sr.sl i _ e'
  exact⟨x,h1,q x H (Same.refl _) (.inl h2)⟩
 ·rename_i d' e'
  cases hd
  obtain⟨a,xs,h1,h2,h3,h4,h5⟩:=sr.sl i _ e'
  exact⟨_,h1,q _ H (Same.refl _) (.inr ⟨a,xs,_,rfl,rfl,h2,h5⟩)⟩
 ·rename_i d' e'
  cases hd
  obtain⟨a,xs,h1,h2,h3,h4,h5⟩:=sr.sl i _ e'
  exact⟨_,h1,q _ H (Same.refl _) (.inr ⟨a,xs,_,rfl,rfl,h2,h5⟩)⟩
 ·cases hd
def aA(d:D):FE:=λ_=>some d
theorem ax {i:Int}{j pos}:DP X c .s (.Constant (.int i) j pos) (aA (.int i)):=λhid ρ=>PE.imp GW λσ H Q hq_=>by
 obtain⟨sr,d,hd,q⟩:=hq_
 cases hd;exact q _ H (Same.refl _) .int
theorem pz {i:Bool}{j pos}:DP X c .s (.Constant (.bool i) j pos) (aA (.bl i)):=λhid ρ=>PE.imp HR λσ H Q hq_=>by
 obtain⟨sr,d,hd,q⟩:=hq_
 cases hd;exact q _ H (Same.refl _) .bl
theorem eA {i:Str}{j pos}:DP X c .s (.Constant (.str i) j pos) (aA (.str i)):=λhid ρ=>PE.imp FI λσ H Q hq_=>by
 obtain⟨sr,d,hd,q⟩:=hq_
 cases hd;exact q _ H (Same.refl _) .str
theorem wU {j pos}:DP X c .s (.Constant .none j pos) (aA .non):=λhid ρ=>PE.imp Gb λσ H Q hq_=>by
 obtain⟨sr,d,hd,q⟩:=hq_
 cases hd;exact q _ H (Same.refl _) .non
def av(F:D->D->Option D)(f g:FE):FE:=λρ=>(f ρ).bind λx=>(g ρ).bind λy=>F x y
theorem vb {F:D->D->Option D}{ρ:aJ}{d:D}(h:av F f g ρ=some d): ∃x y,f ρ=some x/\g ρ=some y/\F x y=some d:=by
 unfold av at h;cases e1:f ρ with
 |none=>rw[e1] at h;cases h
 |some x=>
  cases e2:g ρ with
  |none=>rw[e1,e2] at h;cases h
  |some y=>rw[e1,e2] at h;exact⟨x,y,rfl,rfl,h⟩
def pg(K:K7)(k:Kd)(r:R2)(F:D->D->Option D):Prop:= ∀(H:Hp) (hid:cj) (v u:V) (x y d:D) (Q:VK),(∀a,H a=none->hid a=false)->F x y=some d->Rep1 K H (vw H hid) v x->Rep1 K H (vw H hid) u y->
 (∀w H',Same H H'->RK K k H H' hid w d->Q w H')->r v u H Q
theorem RK.left {K:K7}{H H1 H':Hp}{hid:cj}{v:V}{d:D}(s:Same H H1)(h:RK K k H1 H' hid v d):RK K k H H' hid v d:=by
 cases k with
 |b=>exact h
 |s=>exact h
 |n=>
  obtain⟨a,xs,ds,h1,h2,h3,h4⟩:=h
  exact⟨a,xs,ds,h1,h2,s.free h3,h4⟩
theorem Jf {r:R2}{F:D->D->Option D}{k1 k2:Kd}{hid:cj}{ρ:aJ}(hF:pg X.K k r F){σ:St}{H:Hp}{Q:VK}(h:C0 X.K c hid k (av F f g) ρ σ H Q):Hw r (C0 X.K c hid k1 f ρ) (C0 X.K c hid k2 g ρ) σ H Q:=by
 obtain⟨sr,d,hd,q⟩:=h
 obtain⟨x,y,e1,e2,e3⟩:=vb hd
 refine⟨sr,x,e1,λv H1 s1 r1=>⟨sr.ext s1,y,e2,λu H2 s2 r2=>?_⟩⟩
 have b1:=(RK.b k1 r1 λa n=>sr.fresh n).ext s2
 have b2:=RK.b k2 r2 λa n=>(sr.ext s1).fresh n
 exact hF H2 hid v u x y d Q (λa n=>((sr.ext s1).ext s2).fresh n) e3 b1 b2 λw H' s3 r3=>q w H' ((s1.trans s2).trans s3) (RK.left (s1.trans s2) r3)
theorem qy {op:UD}{r:R2}{F:D->D->Option D}{k1 k2:Kd}(ho:md X (N9 op) r)(hF:pg X.K k r F)(ha:DP X c k1 a f)(hb:DP X c k2 b g):DP X c k (.BinOp a op b pos) (av F f g):=λhid ρ=>
 PE.imp (E3 ho (ha hid ρ) (hb hid ρ)) λσ H Q h=>Jf hF h
theorem lP {op:Rp}{r:R2}{F:D->D->Option D}{k1 k2:Kd}(ho:md X (Mp op) r)(hF:pg X.K .s r F)(ha:DP X c k1 a f)(hb:DP X c k2 b g)(hm:NT op b=false):DP X c .s (.Compare a [op] [b] pos) (av F f g):=λhid ρ=>
 PE.imp (D6 ho (ha hid ρ) (hb hid ρ) hm) λσ H Q h=>Jf hF h
def vo:Option D->Option Bool
 |some (.bl b)=>some b
 |_=>none
theorem bD {op:Rp}{r:R2}{F:D->D->Option D}{k1 k2:Kd}(ho:md X (Mp op) r)(hF:pg X.K .s r F)(ha:DP X c k1 a f)(hb:DP X c k2 b g)(hm:NT op b=false):DT X c (.Compare a [op] [b] pos) (λρ=>vo (av F f g ρ)):=λhid ρ=>
 PT.imp (Es ho (ha hid ρ) (hb hid ρ) hm) λσ H Q hq_=>by
  obtain⟨sr,d,hd,q⟩:=hq_
  refine Jf (X:=X) (k:=.s) (F:=F) hF ?_
  dsimp only at hd;cases e:av F f g ρ with
  |none=>rw[e] at hd;cases hd
  |some x=>
   rw[e] at hd;cases x with
   |bl z=>
    cases hd
    refine⟨sr,_,e,λv H' s r=>⟨d,?_,q H' s⟩⟩
    cases r;rfl
   |_=>cases hd
theorem aT {r:R2}{F:D->D->Option D}{k1 k2:Kd}(hr:IxR X r)(hF:pg X.K k r F)(ha:DP X c k1 a f)(hb:DP X c k2 b g)(hs:me b):DP X c k (.Subscript a b pos) (av F f g):=λhid ρ=>
 PE.imp (yJ hr (ha hid ρ) (hb hid ρ) hs) λσ H Q h=>Jf hF h
end
def i2(C:Int->Int->Bool)(G:Int->Int->D):D->D->Option D
 | .int i,.int j=>if C i j=true then some (G i j) else none
 |_,_=>none
section
variable {K:K7}
theorem tI {C:Int->Int->Bool}{G:Int->Int->D}{x y d:D}(h:i2 C G x y=some d): ∃i j,x=.int i/\y=.int j/\C i j=true/\d=G i j:=by
 unfold i2 at h;split at h
 ·split at h
  ·cases h;exact⟨_,_,rfl,rfl, ‹_›,rfl⟩
  ·cases h
 ·cases h
theorem D8 {C:Int->Int->Prop}{B:Int->Int->Bool}{g:Int->Int->Int}(hC: ∀i j,B i j=true->C i j):pg K .s (rI C λi j=>.int (g i j)) (i2 B λi j=>.int (g i j)):=by
 intro H hid v u x y d Q hf h r1 r2 q;obtain⟨i,j,rfl,rfl,hc,rfl⟩:=tI h
 cases r1.int;cases r2.int
 exact⟨i,j,rfl,rfl,hC i j hc,q _ H (Same.refl _) .int⟩
theorem Cn {g:Int->Int->Int}:pg K .s (CU λi j=>.int (g i j)) (i2 (λ_ _=>true) λi j=>.int (g i j)):=by
 intro H hid v u x y d Q hf h r1 r2 q;obtain⟨i,j,rfl,rfl,hc,rfl⟩:=tI h
 cases r1.int;cases r2.int
 exact⟨i,j,rfl,rfl,q _ H (Same.refl _) .int⟩
theorem gm {g:Int->Int->Bool}:pg K .s (CU λi j=>.bl (g i j)) (i2 (λ_ _=>true) λi j=>.bl (g i j)):=by
 intro H hid v u x y d Q hf h r1 r2 q;obtain⟨i,j,rfl,rfl,hc,rfl⟩:=tI h
 cases r1.int;cases r2.int
 exact⟨i,j,rfl,rfl,q _ H (Same.refl _) .bl⟩
end
section
variable {X:Cx}{c:Ct}{e a b:Expr}{es rest:List Expr}{f g:FE}{p q:FT}{k:Kd}{pos:Pos}
def HV:D->Option Bool
 | .non=>some false
 | .bl b=>some b
 | .int i=>some (i !=0)
 | .str y=>if y.length<=Lm then some ((y.length:Int) !=0) else none
 | .lst ds=>some (!ds.isEmpty)
 | .tup ds=>some (!ds.isEmpty)
 | .scr ds=>some (!ds.isEmpty)
theorem Reps.isEmpty {K:K7}{F:Hp}{xs:List V}{ds:List D}(r:Reps K F xs ds):xs.isEmpty=ds.isEmpty:=by cases r<;>rfl
theorem Gi {K:K7}{H:Hp}{hid:cj}{v:V}{d:D}{b:Bool}(h:HV d=some b)(r:Rep1 K H (vw H hid) v d):Gw K v H b:=by
 cases d with
 |non=>cases r.non;cases h;rfl
 |bl x=>cases r.bl;cases h;rfl
 |int i=>cases r.int;cases h;rfl
 |str y=>
  cases r.str
  have h':(if y.length<=Lm then some ((y.length:Int) !=0) else none)=some b:=h
  split at h'
  ·cases h';exact⟨‹_›,rfl⟩
  ·cases h'
 |lst ds=>
  obtain⟨a,xs,rfl,h1,h2⟩:=r.lst
  cases h
  exact .inl ⟨xs,h1,by rw[h2.isEmpty]⟩
 |tup ds=>
  obtain⟨a,xs,rfl,_,h1,h2⟩:=r.tup
  cases h
  exact .inr (.inl ⟨xs,h1,by rw[h2.isEmpty]⟩)
 |scr ds=>
  obtain⟨a,xs,rfl,h1,h2⟩:=r.scr
  cases h
  exact .inl ⟨xs,h1,by rw[h2.isEmpty]⟩
def fZ(f:FE):FT:=λρ=>(f ρ).bind HV
theorem lv(ha:DP X c k a f)(he: ∀whole,isTrue a X.env whole=(do let v <-whole;NJ a.pos;N8 [v] (truthy v)):=by intro _;rfl):DT X c a (fZ f):=λhid ρ=>
 PT.imp (Cg (ha hid ρ) he) λσ H Q hq_=>by
  obtain⟨sr,d,hd,q⟩:=hq_
  unfold fZ at hd;cases e:f ρ with
  |none=>rw[e] at hd;cases hd
  |some x=>
   rw[e] at hd;exact⟨sr,x,e,λv H' s r=>⟨d,Gi hd (RK.b k r λa n=>sr.fresh n),q H' s⟩⟩
def qt(p q:FT):FT:=λρ=>(p ρ).bind λb=>if b=true then q ρ else some false
def rj(p q:FT):FT:=λρ=>(p ρ).bind λb=>if b=true then some true else q ρ
def fJ(p:FT):FT:=λρ=>(p ρ).map (!·)
theorem tx(ha:DT X c a p):DW X c (.BoolOp .Or [a] pos) p:=λhid ρ=>pw_or1 (ha hid ρ)
theorem uX(ha:DT X c a p)(hb:DW X c (.BoolOp .Or (b::rest) pos) q):DW X c (.BoolOp .Or (a::b::rest) pos) (rj p q):=λhid ρ=>
 PW.imp (pw_or (ha hid ρ) (hb hid ρ)) λσ H Q hq_=>by
  obtain⟨sr,d,hd,hq⟩:=hq_
  unfold rj at hd;cases e:p ρ with
  |none=>rw[e] at hd;cases hd
  |some x=>
   rw[e] at hd;refine⟨sr,x,e,λH1 s1=>?_⟩
   cases x with
   |false=>exact wJ ⟨sr.ext s1,d,hd,λH2 s2=>hq H2 (s1.trans s2)⟩
   |true=>cases hd;exact wb (hq H1 s1)
theorem DW.dt(h:DW X c e p):DT X c e p:=λhid ρ=>(h hid ρ).pt
theorem j6(ha:DT X c a p):DT X c (.UnaryOp .Not a pos) (fJ p):=λhid ρ=>
 PT.imp (Gn (ha hid ρ)) λσ H Q hq_=>by
  obtain⟨sr,d,hd,hq⟩:=hq_
  unfold fJ at hd;cases e:p ρ with
  |none=>rw[e] at hd;cases hd
  |some x=>rw[e] at hd;cases hd;exact⟨sr,x,e,λH1 s1=>hq H1 s1⟩
def Fw(p:FT):FE:=λρ=>(p ρ).map D.bl
def bL(f:FE):FT:=λρ=>vo (f ρ)
theorem qm {ρ:aJ}{b:Bool}(h:bL f ρ=some b):f ρ=some (.bl b):=by
 unfold bL vo at h;split at h
 ·cases h;assumption
 ·cases h
theorem Cu(ha:DP X c .s a f)(hb:DP X c .s (.BoolOp .And (b::rest) pos) g):DP X c .s (.BoolOp .And (a::b::rest) pos) (Fw (qt (bL f) (bL g))):=λhid ρ=>
 PE.imp (FM (ha hid ρ) (hb hid ρ)) λσ H Q hq_=>by
  obtain⟨sr,d,hd,hq⟩:=hq_
  unfold Fw qt at hd;cases e:bL f ρ with
  |none=>rw[e] at hd;cases hd
  |some x=>
   rw[e] at hd;refine⟨sr,_,qm e,λv H1 s1 r=>?_⟩
   cases r
   refine⟨x,rfl,?_⟩
   cases x with
   |true=>
    refine wb ?_
    cases e2:bL g ρ with
    |none=>rw[show(some true:Option Bool).bind (λb=>if b=true then bL g ρ else some false)=bL g ρ from rfl,e2] at hd;cases hd
    |some y=>
     rw[show(some true:Option Bool).bind (λb=>if b=true then bL g ρ else some false)=bL g ρ from rfl,e2] at hd;cases hd
     exact⟨sr.ext s1,_,qm e2,λv2 H2 s2 r2=>hq v2 H2 (s1.trans s2) r2⟩
   |false=>cases hd;exact wJ (hq _ H1 s1 .bl)
theorem A7 {op}(h:DP X c k a f):DP X c k (.BoolOp op [a] pos) f:=λhid ρ=>GP (h hid ρ)
def Ae(p:FT)(f g:FE):FE:=λρ=>(p ρ).bind λb=>if b=true then f ρ else g ρ
theorem Ax {t:Expr}(hk:k≠ .n)(ht:DT X c t p)(ha:DP X c k a f)(hb:DP X c k b g):DP X c k (.IfExp t a b pos) (Ae p f g):=λhid ρ=>
 PE.imp (CD (ht hid ρ) (ha hid ρ) (hb hid ρ)) λσ H Q hq_=>by
  obtain⟨sr,d,hd,hq⟩:=hq_
  unfold Ae at hd;cases e:p ρ with
  |none=>rw[e] at hd;cases hd
  |some x=>
   rw[e] at hd;refine⟨sr,x,e,λH1 s1=>?_⟩
   have lf: ∀ {v H2},RK X.K k H1 H2 hid v d->RK X.K k H H2 hid v d:=λ{v H2} r=>RK.left s1 r
   cases x with
   |true=>exact wb ⟨sr.ext s1,d,hd,λv H2 s2 r=>hq v H2 (s1.trans s2) (lf r)⟩
   |false=>exact wJ ⟨sr.ext s1,d,hd,λv H2 s2 r=>hq v H2 (s1.trans s2) (lf r)⟩
variable {r r':R2}{h:FE}{e3:Expr}
def rh(F G:D->D->Option D)(f g h:FE):FE:=λρ=>(f ρ).bind λx=>(g ρ).bind λy=>(vo (F x y)).bind λk=>if k=true then(h ρ).bind λz=>G y z else some (.bl false)
theorem Cm {F G:D->D->Option D}{k1 k2 k3:Kd}{hid:cj}{ρ:aJ}(hF:pg X.K .s r F)(hG:pg X.K .s r' G){σ:St}{H:Hp}{Q:VK}(hh:C0 X.K c hid .s (rh F G f g h) ρ σ H Q):
 wy r r' (C0 X.K c hid k1 f ρ) (C0 X.K c hid k2 g ρ) (C0 X.K c hid k3 h ρ) σ H Q:=by
 obtain⟨sr,d,hd,q⟩:=hh
 unfold rh at hd;cases e1:f ρ with
 |none=>rw[e1] at hd;cases hd
 |some x=>
  cases e2:g ρ with
  |none=>rw[e1,e2] at hd;cases hd
  |some y=>
   rw[e1,e2] at hd;have hd':(vo (F x y)).bind (λk=>if k=true then(h ρ).bind λz=>G y z else some (.bl false))=some d:=hd
   cases e3:F x y with
   |none=>rw[e3] at hd';cases hd'
   |some z=>
    cases z with
    |bl kk=>
     rw[e3] at hd';refine⟨sr,x,e1,λv H1 s1 r1=>⟨sr.ext s1,y,e2,λu H2 s2 r2=>?_⟩⟩
     have b1:=(RK.b k1 r1 λa n=>sr.fresh n).ext s2
     have b2:=RK.b k2 r2 λa n=>(sr.ext s1).fresh n
     have fr: ∀a,H2 a=none->hid a=false:=λa n=>((sr.ext s1).ext s2).fresh n
     refine hF H2 hid v u x y _ _ fr e3 b1 b2 λw H3 s3 r3=>?_
     cases r3
     refine⟨kk,rfl,?_⟩
     cases kk with
     |false=>cases hd';exact wJ (q _ H3 ((s1.trans s2).trans s3) .bl)
     |true=>
      refine wb ?_
      cases e4:h ρ with
      |none=>rw[e4] at hd';cases hd'
      |some z=>
       rw[e4] at hd';have hd2:G y z=some d:=hd'
       refine⟨((sr.ext s1).ext s2).ext s3,z,e4,λw' H4 s4 r4=>?_⟩
       have b3:=RK.b k3 r4 λa n=>(((sr.ext s1).ext s2).ext s3).fresh n
       exact hG H4 hid u w' y z d Q (λa n=>((((sr.ext s1).ext s2).ext s3).ext s4).fresh n) hd2 ((b2.ext s3).ext s4) b3 λw2 H5 s5 r5=>q w2 H5 ((((s1.trans s2).trans s3).trans s4).trans s5) r5
    |_=>rw[e3] at hd';cases hd'
theorem Fp {op op':Rp}{F G:D->D->Option D}{k1 k2 k3:Kd}(ho:md X (Mp op) r)(ho':md X (Mp op') r')(hF:pg X.K .s r F)(hG:pg X.K .s r' G)(ha:DP X c k1 a f)(hb:DP X c k2 b g)(hc:DP X c k3 e3 h)
 (hm:Rc [op,op'] [b,e3]=false:=by with_unfolding_all rfl):DP X c .s (.Compare a [op,op'] [b,e3] pos) (rh F G f g h):=λhid ρ=>
 PE.imp (AT ho ho' (ha hid ρ) (hb hid ρ) (hc hid ρ) hm) λσ H Q hh=>Cm hF hG hh
theorem yj {op op':Rp}{F G:D->D->Option D}{k1 k2 k3:Kd}(ho:md X (Mp op) r)(ho':md X (Mp op') r')(hF:pg X.K .s r F)(hG:pg X.K .s r' G)(ha:DP X c k1 a f)(hb:DP X c k2 b g)(hc:DP X c k3 e3 h)
 (hm:Rc [op,op'] [b,e3]=false:=by with_unfolding_all rfl):DT X c (.Compare a [op,op'] [b,e3] pos) (bL (rh F G f g h)):=λhid ρ=>
 PT.imp (A9 ho ho' (ha hid ρ) (hb hid ρ) (hc hid ρ) hm) λσ H Q hq_=>by
  obtain⟨sr,d,hd,q⟩:=hq_
  refine Cm (X:=X) (F:=F) (G:=G) hF hG ⟨sr,_,qm hd,λv H' s r=>⟨d,?_,q H' s⟩⟩
  cases r;rfl
end
section
variable {X:Cx}{c:Ct}{e a b:Expr}{es rest:List Expr}{f g:FE}{fs:FA}{k:Kd}{pos:Pos}
def aj:FA:=λ_=>some []
def ae(f:FE)(fs:FA):FA:=λρ=>(f ρ).bind λd=>(fs ρ).map λr=>d::r
theorem qM {ρ:aJ}{ds:List D}(h:ae f fs ρ=some ds): ∃d r,f ρ=some d/\fs ρ=some r/\ds=d::r:=by
 unfold ae at h;cases e1:f ρ with
 |none=>rw[e1] at h;cases h
 |some d=>
  cases e2:fs ρ with
  |none=>rw[e1,e2] at h;cases h
  |some r=>rw[e1,e2] at h;cases h;exact⟨d,r,rfl,rfl,rfl⟩
theorem au:DA X c [] aj:=λhid ρ=>PA.imp mL λσ H Q ⟨sr,d,hd,q⟩=>by cases hd;exact q [] H (Same.refl _) .nil
theorem ah(ha:DP X c .s e f)(hr:DA X c es fs)(hs:Le (e::es) X.env=(false,eval e X.env)::Le es X.env:=by rfl):DA X c (e::es) (ae f fs):=λhid ρ=>
 PA.imp (il (ha hid ρ) (hr hid ρ) hs) λσ H Q hq_=>by
  obtain⟨sr,d,hd,q⟩:=hq_
  obtain⟨d1,r,e1,e2,rfl⟩:=qM hd
  exact⟨sr,d1,e1,λv H1 s1 r1=>⟨sr.ext s1,r,e2,λvs H2 s2 r2=>q _ H2 (s1.trans s2) (.cons (Rep.mono (aV s2) r1) r2)⟩⟩
def bF(fs:FA):FE:=λρ=>(fs ρ).bind λds=>if ds.length<=Lm then some (.tup ds) else none
def dZ(fs:FA):FE:=λρ=>(fs ρ).bind λds=>if ds.length<=Lm then some (.lst ds) else none
theorem yY {ρ:aJ}{d:D}(h:bF fs ρ=some d): ∃ds,fs ρ=some ds/\ds.length<=Lm/\d=.tup ds:=by
 unfold bF at h;cases e1:fs ρ with
 |none=>rw[e1] at h;cases h
 |some ds=>
  rw[e1] at h;have h':(if ds.length<=Lm then some (D.tup ds) else none)=some d:=h
  split at h'
  ·cases h';exact⟨ds,rfl, ‹_›,rfl⟩
  ·cases h'
theorem yT {ρ:aJ}{d:D}(h:dZ fs ρ=some d): ∃ds,fs ρ=some ds/\ds.length<=Lm/\d=.lst ds:=by
 unfold dZ at h;cases e1:fs ρ with
 |none=>rw[e1] at h;cases h
 |some ds=>
  rw[e1] at h;have h':(if ds.length<=Lm then some (D.lst ds) else none)=some d:=h
  split at h'
  ·cases h';exact⟨ds,rfl, ‹_›,rfl⟩
  ·cases h'
theorem bM {H:Hp}{p:Addr}(h:H p=none)(o:HO):Same H (bI H p o):=λb u q=>by rw[aF (bT q h)];exact q
theorem nX {K:K7}{H:Hp}{hid:cj}{p:Addr}{xs:List V}{ds:List D}(hn:H p=none)(hf:hid p=false)(r:Reps K (vw H hid) xs ds):Rep K (vw (bI H p (.tup xs)) hid) (.ref p) (.tup ds):=
 .tup (SqT.of (vw_some.mpr ⟨hf,aP⟩)) (r.mono (aV (bM hn _)))
theorem oE {K:K7}{H H0:Hp}{hid:cj}{p:Addr}{xs:List V}{ds:List D}(hn:H p=none)(s:Same H0 H)(r:Reps K (vw H hid) xs ds):RN K H0 (bI H p (.lst xs)) hid (.ref p) (.lst ds):=
 ⟨p,xs,ds,rfl,rfl,s.free hn,aP,by rw[tT hn];exact r⟩
theorem ee {x1}(h:DA X c es fs):DP X c .s (.Tuple es x1 pos) (bF fs):=λhid ρ=>PE.imp (Gk (h hid ρ)) λσ H Q hq_=>by
 obtain⟨sr,d,hd,q⟩:=hq_
 obtain⟨ds,e1,hz,rfl⟩:=yY hd
 exact⟨sr,ds,e1,λvs H1 s1 r1=>⟨by rw[r1.length];exact hz,λp hp=>q _ _ (s1.trans (bM hp _)) (nX hp ((sr.ext s1).fresh hp) r1)⟩⟩
theorem iG(h:DA X c es fs):DP X c .n (.List es pos) (dZ fs):=λhid ρ=>PE.imp (GR (h hid ρ)) λσ H Q hq_=>by
 obtain⟨sr,d,hd,q⟩:=hq_
 obtain⟨ds,e1,hz,rfl⟩:=yT hd
 exact⟨sr,ds,e1,λvs H1 s1 r1=>⟨by rw[r1.length];exact hz,λp hp=>q _ _ (s1.trans (bM hp _)) (oE hp s1 r1)⟩⟩
abbrev Reps1(K:K7)(H W:Hp):List V->List D->Prop:=Paired (Rep1 K H W)
def Ks(K:K7)(c:Ct)(hid:cj)(f:FA)(ρ:aJ):TA:=λσ H Q=>SR K c hid ρ σ H/\ ∃d,f ρ=some d/\ ∀vs H',Same H H'->Reps1 K H' (vw H' hid) vs d->Q vs H'
def DB(X:Cx)(c:Ct)(es:List Expr)(f:FA):Prop:= ∀hid ρ,PA X es (Ks X.K c hid f ρ)
theorem be:DB X c [] aj:=λhid ρ=>PA.imp mL λσ H Q ⟨sr,d,hd,q⟩=>by cases hd;exact q [] H (Same.refl _) .nil
theorem aM(ha:DP X c k e f)(hr:DB X c es fs)(hs:Le (e::es) X.env=(false,eval e X.env)::Le es X.env:=by rfl):DB X c (e::es) (ae f fs):=λhid ρ=>
 PA.imp (il (ha hid ρ) (hr hid ρ) hs) λσ H Q hq_=>by
  obtain⟨sr,d,hd,q⟩:=hq_
  obtain⟨d1,r,e1,e2,rfl⟩:=qM hd
  exact⟨sr,d1,e1,λv H1 s1 r1=>⟨sr.ext s1,r,e2,λvs H2 s2 r2=>q _ H2 (s1.trans s2) (.cons ((RK.b k r1 λa n=>sr.fresh n).ext s2) r2)⟩⟩
def lC(K:K7)(k:Kd)(r:List V->Hp->VK->Prop)(F:List D->Option D):Prop:= ∀(H:Hp) (hid:cj) (vs:List V) (ds:List D) (d:D) (Q:VK),(∀a,H a=none->hid a=false)->F ds=some d->Reps1 K H (vw H hid) vs ds->
 (∀w H',Same H H'->RK K k H H' hid w d->Q w H')->r vs H Q
def ak(F:List D->Option D)(fs:FA):FE:=λρ=>(fs ρ).bind F
theorem qe {F:List D->Option D}{ρ:aJ}{d:D}(h:ak F fs ρ=some d): ∃ds,fs ρ=some ds/\F ds=some d:=by
 unfold ak at h;cases e1:fs ρ with
 |none=>rw[e1] at h;cases h
 |some ds=>rw[e1] at h;exact⟨ds,rfl,h⟩
theorem Ia {r:List V->Hp->VK->Prop}{F:List D->Option D}{hid:cj}{ρ:aJ}(hF:lC X.K k r F){σ:St}{H:Hp}{Q:VK}(h:C0 X.K c hid k (ak F fs) ρ σ H Q):JQ r (Ks X.K c hid fs ρ) σ H Q:=by
 obtain⟨sr,d,hd,q⟩:=h
 obtain⟨ds,e1,e2⟩:=qe hd
 exact⟨sr,ds,e1,λvs H1 s1 r1=>hF H1 hid vs ds d Q (λa n=>(sr.ext s1).fresh n) e2 r1 λw H' s2 r2=>q w H' (s1.trans s2) (RK.left s1 r2)⟩
variable {x:Str}{p:Pos}{id T:String}{r:List V->Hp->VK->Prop}{F:List D->Option D}
theorem aQ(hc:jh X (.builtin id) r)(hF:lC X.K k r F)(hm:X.mg x=none)(ha:DB X c (e::es) fs)(hg:Gl X x:=by rfl)(hv:Nm x=some (.builtin id):=by first|exact PySem.boot_len|rfl|kernel_rfl)(hn:x≠"__name__":=by decide)(hdb:(x==("__debug__":Str))=false:=by decide)
 (he:Le (e::es) X.env=(false,eval e X.env)::Le es X.env:=by rfl) (hpl:(M2 pos (Le es X.env)).any (·.1)=false:=by rfl):DP X c k (.Call (.Name x p) (e::es) [] pos) (ak F fs):=λhid ρ=>
 PE.imp (Cj hc hg hm hv (ha hid ρ) hn hdb he hpl) λσ H Q h=>Ia hF h
theorem eO(hc:jh X (.type T) r)(hF:lC X.K k r F)(hm:X.mg x=none)(ha:DB X c (e::es) fs)(hg:Gl X x:=by rfl)(hv:Nm x=some (.type T):=by first|rfl|kernel_rfl)(hn:x≠"__name__":=by decide)(hdb:(x==("__debug__":Str))=false:=by decide)
 (he:Le (e::es) X.env=(false,eval e X.env)::Le es X.env:=by rfl) (hpl:(M2 pos (Le es X.env)).any (·.1)=false:=by rfl):DP X c k (.Call (.Name x p) (e::es) [] pos) (ak F fs):=λhid ρ=>
 PE.imp (oN hc hg hm hv (ha hid ρ) hn hdb he hpl) λσ H Q h=>Ia hF h
end
section
variable {K:K7}
theorem Reps1.one {H W:Hp}{v:List V}{d:D}(r:Reps1 K H W v [d]): ∃x,v=[x]/\Rep1 K H W x d:=by
 cases r with
 |cons r t=>cases t;exact⟨_,rfl,r⟩
theorem Reps1.two {H W:Hp}{v:List V}{d d':D}(r:Reps1 K H W v [d,d']): ∃x y,v=[x,y]/\Rep1 K H W x d/\Rep1 K H W y d':=by
 cases r with
 |cons r t=>cases t with
  |cons r' t=>cases t;exact⟨_,_,rfl,r,r'⟩
def bu:List D->Option D
 | [.lst ds]=>some (.int ds.length)
 | [.tup ds]=>some (.int ds.length)
 | [.scr ds]=>some (.int ds.length)
 |_=>none
theorem cb:lC K .s (λxs H Q=> ∃p ys,xs=[.ref p]/\(SqL K H p ys\/SqT K H p ys)/\Q (.int ys.length) H) bu:=by
 intro H hid vs ds d Q hf h r q;unfold bu at h;split at h
 ·cases h
  obtain⟨x,rfl,r1⟩:=Reps1.one r
  obtain⟨a,xs,rfl,h1,h2⟩:=r1.lst
  exact⟨a,xs,rfl,.inl h1,by rw[h2.length];exact q _ H (Same.refl _) .int⟩
 ·cases h
  obtain⟨x,rfl,r1⟩:=Reps1.one r
  obtain⟨a,xs,rfl,_,h1,h2⟩:=r1.tup
  exact⟨a,xs,rfl,.inr h1,by rw[h2.length];exact q _ H (Same.refl _) .int⟩
 ·cases h
  obtain⟨x,rfl,r1⟩:=Reps1.one r
  obtain⟨a,xs,rfl,h1,h2⟩:=r1.scr
  exact⟨a,xs,rfl,.inl h1,by rw[h2.length];exact q _ H (Same.refl _) .int⟩
 ·cases h
def vf:List D->Option D
 | [.int i]=>some (.int (if i<0 then -i else i))
 |_=>none
theorem GG:lC K .s (λxs H Q=> ∃i,xs=[.int i]/\Q (.int (if i<0 then -i else i)) H) vf:=by
 intro H hid vs ds d Q hf h r q;unfold vf at h;split at h
 ·cases h
  obtain⟨x,rfl,r1⟩:=Reps1.one r
  cases r1.int
  exact⟨_,rfl,q _ H (Same.refl _) .int⟩
 ·cases h
def rX:List D->Option D
 | [.int i,.int j]=>some (.int (if j>i then j else i))
 |_=>none
theorem xP:lC K .s (λxs H Q=> ∃i j,xs=[.int i,.int j]/\Q (.int (if j>i then j else i)) H) rX:=by
 intro H hid vs ds d Q hf h r q;unfold rX at h;split at h
 ·cases h
  obtain⟨x,y,rfl,r1,r2⟩:=Reps1.two r
  cases r1.int;cases r2.int
  exact⟨_,_,rfl,q _ H (Same.refl _) .int⟩
 ·cases h
def lQ:List D->Option D
 | [.int i,.int j]=>some (.int (if j<i then j else i))
 |_=>none
theorem ui:lC K .s (λxs H Q=> ∃i j,xs=[.int i,.int j]/\Q (.int (if j<i then j else i)) H) lQ:=by
 intro H hid vs ds d Q hf h r q;unfold lQ at h;split at h
 ·cases h
  obtain⟨x,y,rfl,r1,r2⟩:=Reps1.two r
  cases r1.int;cases r2.int
  exact⟨_,_,rfl,q _ H (Same.refl _) .int⟩
 ·cases h
def yu:List D->Option D
 | [.lst ds]=>some (.lst ds)
 | [.tup ds]=>some (.lst ds)
 |_=>none
theorem Dv:lC K .n (λxs H Q=> ∃p ys,xs=[.ref p]/\(SqL K H p ys\/SqT K H p ys)/\ ∀l,H l=none->Q (.ref l) (bI H l (.lst ys))) yu:=by
 intro H hid vs ds d Q hf h r q;unfold yu at h;split at h
 ·cases h
  obtain⟨x,rfl,r1⟩:=Reps1.one r
  obtain⟨a,xs,rfl,h1,h2⟩:=r1.lst
  exact⟨a,xs,rfl,.inl h1,λl hl=>q _ _ (bM hl _) (oE hl (Same.refl _) h2)⟩
 ·cases h
  obtain⟨x,rfl,r1⟩:=Reps1.one r
  obtain⟨a,xs,rfl,_,h1,h2⟩:=r1.tup
  exact⟨a,xs,rfl,.inr h1,λl hl=>q _ _ (bM hl _) (oE hl (Same.refl _) h2)⟩
 ·cases h
def dC:List D->Option D
 | [.lst ds]=>some (.tup ds)
 | [.tup ds]=>some (.tup ds)
 |_=>none
theorem gD:lC K .s (λxs H Q=> ∃p ys,xs=[.ref p]/\((SqL K H p ys/\ ∀l,H l=none->Q (.ref l) (bI H l (.tup ys)))\/(SqT K H p ys/\Q (.ref p) H))) dC:=by
 intro H hid vs ds d Q hf h r q;unfold dC at h;split at h
 ·cases h
  obtain⟨x,rfl,r1⟩:=Reps1.one r
  obtain⟨a,xs,rfl,h1,h2⟩:=r1.lst
  exact⟨a,xs,rfl,.inl ⟨h1,λl hl=>q _ _ (bM hl _) (nX hl (hf l hl) h2)⟩⟩
 ·cases h
  obtain⟨x,rfl,r1⟩:=Reps1.one r
  obtain⟨a,xs,rfl,h0,h1,h2⟩:=r1.tup
  exact⟨a,xs,rfl,.inr ⟨h1,q _ H (Same.refl _) (.tup h0 h2)⟩⟩
 ·cases h
def aW:D->D->Option D
 | .lst ds,.int i=>pU ds i
 | .tup ds,.int i=>pU ds i
 | .scr ds,.int i=>pU ds i
 |_,_=>none
theorem pR {F:Hp}{xs:List V}{ds:List D}{i:Int}{d:D}(r:Reps K F xs ds)(h:pU ds i=some d): ∃x,pU xs i=some x/\Rep K F x d:=by
 unfold pU at h⊢;rw[r.length];cases e:rl ds.length i with
 |none=>rw[e] at h;cases h
 |some j=>
  rw[e] at h;obtain⟨x,h1,h2⟩:=r.get (i:=j) h
  exact⟨x,h1,h2⟩
theorem aS:pg K .s (Kt K) aW:=by
 intro H hid v u x y d Q hf h r1 r2 q;unfold aW at h;split at h
 ·cases r2.int
  obtain⟨a,xs,rfl,h1,h2⟩:=r1.lst
  obtain⟨z,h3,h4⟩:=pR h2 h
  exact .inl ⟨a,xs,_,z,rfl,rfl,h1,h3,q _ H (Same.refl _) h4⟩
 ·cases r2.int
  obtain⟨a,xs,rfl,_,h1,h2⟩:=r1.tup
  obtain⟨z,h3,h4⟩:=pR h2 h
  exact .inr (.inl ⟨a,xs,_,z,rfl,rfl,h1,h3,q _ H (Same.refl _) h4⟩)
 ·cases r2.int
  obtain⟨a,xs,rfl,h1,h2⟩:=r1.scr
  obtain⟨z,h3,h4⟩:=pR h2 h
  exact .inl ⟨a,xs,_,z,rfl,rfl,h1,h3,q _ H (Same.refl _) h4⟩
 ·cases h
end
abbrev GE:=aJ->Option (D×aJ)
abbrev GA:=aJ->Option (List D×aJ)
def Kept(hid:cj)(H H':Hp):Prop:= ∀b o,H b=some o->hid b=false->H' b=some o
theorem Kept.of {hid:cj}{H H':Hp}(s:Same H H'):Kept hid H H':=λb o q _=>s b o q
theorem Kept.trans {hid:cj}{H H1 H2:Hp}(a:Kept hid H H1)(b:Kept hid H1 H2):Kept hid H H2:=λc o q h=>b c o (a c o q h) h
theorem Kept.vw {hid:cj}{H H':Hp}(a:Kept hid H H'):Same (vw H hid) (vw H' hid):=xM a
def PostE(K:K7)(c:Ct)(hid:cj)(k:Kd)(ρ':aJ)(σ:St)(H H':Hp)(v:V)(d:D):Prop:=Kept hid H H'/\match k with
 | .n=> ∃a xs ds,d=.lst ds/\v=.ref a/\H a=none/\H' a=some (.lst xs)/\c.H₀ a=none/\hid a=false/\SR K c (cM hid a) ρ' σ H'/\Reps K (vw H' (cM hid a)) xs ds/\ ∀i:Nat,Ow ρ'[i]? ->σ[i]? ≠some (some (.ref a))
 |_=>SR K c hid ρ' σ H'/\Rep K (vw H' hid) v d
def Ji(K:K7)(c:Ct)(hid:cj)(k:Kd)(f:GE)(ρ:aJ):TE:=λσ H Q=>SR K c hid ρ σ H/\ ∃d ρ',f ρ=some (d,ρ')/\ ∀v H',PostE K c hid k ρ' σ H H' v d->Q v H'
def DE(X:Cx)(c:Ct)(k:Kd)(e:Expr)(f:GE):Prop:= ∀hid ρ,PE X e (Ji X.K c hid k f ρ)
def pu(f:FE):GE:=λρ=>(f ρ).map λd=>(d,ρ)
theorem Dw {f:FE}{ρ ρ':aJ}{d:D}(h:pu f ρ=some (d,ρ')):f ρ=some d/\ρ'=ρ:=by
 unfold pu at h;cases e:f ρ with
 |none=>rw[e] at h;cases h
 |some x=>rw[e] at h;cases h;exact⟨rfl,rfl⟩
section
variable {K:K7}{c:Ct}{hid hid':cj}{ρ:aJ}{σ:St}{H H':Hp}{i:Nat}{a:Addr}
theorem fD {hid:cj}{a b:Addr}(h:hid b=true):cM hid a b=true:=by unfold cM;rw[h];rfl
theorem fF {hid:cj}{a:Addr}:cM hid a a=true:=by unfold cM;simp
theorem SR.hide(h:SR K c hid ρ σ H)(e:Same H H')(n:H a=none){o:HO}(ho:H' a=some o)(hn: ∀xs,o≠ .tup xs:=by intro _ e;cases e):SR K c (cM hid a) ρ σ H':=by
 have sm:Same (vw H hid) (vw H' (cM hid a)):=λb o q=>by
  obtain⟨q1,q2⟩:=vw_some.mp q
  refine vw_some.mpr ⟨?_,e _ _ q2⟩
  unfold cM;rw[q1];have:b≠a:=bT q2 n
  simp[this]
 refine⟨λb hb=>?_,λb xs hb q=>by
  by_cases eb:b=a
  ·subst eb;rw[ho] at q;exact hn _ (LH q)
  ·unfold cM at hb
   exact(h.ext e).ht b xs (by simpa [eb] using hb) q,λb q=>fD (h.h0 b q),(h.ext e).kp,(h.ext e).t0,h.c0,h.m0,h.len,λi s q=>?_,h.ap⟩
 ·by_cases eb:b=a
  ·subst eb;exact⟨_,ho⟩
  ·unfold cM at hb
   have:hid b=true:=by simpa [eb] using hb
   obtain⟨o',q⟩:=h.tr b this
   exact⟨o',e _ _ q⟩
 ·have z:=h.sl i s q
  cases s with
  |no=>trivial
  |v d=>obtain⟨x,h1,h2⟩:=z;exact⟨x,h1,h2.mono sm⟩
  |own ds=>obtain⟨a',xs,h1,h2,h3,h4,h5⟩:=z;exact⟨a',xs,h1,e _ _ h2,fD h3,h4,h5.mono sm⟩
  |arg ds=>obtain⟨a',xs,h1,h2,h3,h4,h5⟩:=z;exact⟨a',xs,h1,e _ _ h2,fD h3,h4,h5.mono sm⟩
  |ob b=>obtain⟨a',h1,h2⟩:=z;exact⟨a',h1,h2.mono (λ_ x _=>e x) sm λ_ _ _=>fD⟩
theorem SR.show (h:SR K c (cM hid a) ρ σ H)(h0: ∀b,c.hid₀ b=true->hid b=true)(no: ∀i:Nat,Ow ρ[i]? ->σ[i]? ≠some (some (.ref a))){o:HO}(ha:H a=some o)(hn: ∀p u,o≠ .nst p u:=by intro _ _ e;cases e):SR K c hid ρ σ H:=by
 have sm:Same (vw H (cM hid a)) (vw H hid):=jT λb q=>fD q
 have un: ∀b,b≠a->cM hid a b=true->hid b=true:=λb nb hb=>by unfold cM at hb;simpa [nb] using hb
 refine⟨λb hb=>h.tr b (fD hb),λb xs hb=>h.ht b xs (fD hb),h0,h.kp,h.t0,h.c0,h.m0,h.len,λi s q=>?_,h.ap⟩
 have z:=h.sl i s q
 cases s with
 |no=>trivial
 |v d=>obtain⟨x,h1,h2⟩:=z;exact⟨x,h1,h2.mono sm⟩
 |own ds=>
  obtain⟨a',xs,h1,h2,h3,h4,h5⟩:=z
  have:a'≠a:=λe=>by subst e;exact no i (by rw[q];trivial) h1
  exact⟨a',xs,h1,h2,un a' this h3,h4,h5.mono sm⟩
 |arg ds=>
  obtain⟨a',xs,h1,h2,h3,h4,h5⟩:=z
  have:a'≠a:=λe=>by subst e;exact no i (by rw[q];trivial) h1
  exact⟨a',xs,h1,h2,un a' this h3,h4,h5.mono sm⟩
 |ob b=>
  obtain⟨a',h1,h2⟩:=z
  exact⟨a',h1,h2.mono (λ_ _ _ _ q=>q) sm λow x hx=>un x (hx.ne (λe=>by subst e;exact no i (by rw[q];exact ow) h1) ha hn)⟩
theorem SR.notOw(h:SR K c hid ρ σ H)(n:hid a=false)(i:Nat)(o:Ow ρ[i]?):σ[i]? ≠some (some (.ref a)):=λe=>by
 cases q:ρ[i]? with
 |none=>rw[q] at o;exact o
 |some s=>
  rw[q] at o;have z:=h.sl i s q
  cases s with
  |no=>exact o
  |v d=>exact o
  |own ds=>obtain⟨a',xs,h1,h2,h3,_⟩:=z;rw[e] at h1;cases h1;rw[n] at h3;cases h3
  |arg ds=>obtain⟨a',xs,h1,h2,h3,_⟩:=z;rw[e] at h1;cases h1;rw[n] at h3;cases h3
  |ob b=>obtain⟨a',h1,h2⟩:=z;rw[e] at h1;cases h1;have:=h2.hid o;rw[n] at this;cases this
theorem SR.post {k:Kd}{v:V}{d:D}(h:SR K c hid ρ σ H)(e:Same H H')(r:RK K k H H' hid v d)(hk:k≠ .b):PostE K c hid k ρ σ H H' v d:=by
 cases k with
 |b=>exact absurd rfl hk
 |s=>exact⟨.of e,h.ext e,r⟩
 |n=>
  obtain⟨a,xs,ds,h1,h2,h3,h4,h5⟩:=r
  exact⟨.of e,a,xs,ds,h1,h2,h3,h4,h.fresh0 h3,h.fresh h3,h.hide e h3 h4,h5,h.notOw (h.fresh h3)⟩
theorem PostE.left {k:Kd}{ρ':aJ}{H1:Hp}{v:V}{d:D}(s:Kept hid H H1)(p:PostE K c hid k ρ' σ H1 H' v d):PostE K c hid k ρ' σ H H' v d:=by
 cases k with
 |b=>exact⟨s.trans p.1,p.2⟩
 |s=>exact⟨s.trans p.1,p.2⟩
 |n=>
  obtain⟨kp,a,xs,ds,h1,h2,hn,h3,h4,h5,h6⟩:=p
  refine⟨s.trans kp,a,xs,ds,h1,h2,?_,h3,h4,h5,h6⟩
  cases e:H a with
  |none=>rfl
  |some o=>rw[s a o e h5] at hn;cases hn
theorem PostE.toS {ρ':aJ}{v:V}{d:D}(h0: ∀b,c.hid₀ b=true->hid b=true)(p:PostE K c hid .n ρ' σ H H' v d):PostE K c hid .s ρ' σ H H' v d:=by
 obtain⟨kp,a,xs,ds,rfl,rfl,hn,h1,h2,h3,h4,h5,h6⟩:=p
 exact⟨kp,h4.show h0 h6 h1,.lst (vw_some.mpr ⟨h3,h1⟩) (h5.mono (jT λb q=>fD q))⟩
end
section
variable {X:Cx}{c:Ct}{e a b:Expr}{es rest:List Expr}{f g:GE}{k:Kd}{pos:Pos}
theorem DP.ef {f:FE}(h:DP X c k e f)(hk:k≠ .b:=by decide):DE X c k e (pu f):=λhid ρ=>PE.imp (h hid ρ) λσ H Q hq_=>by
 obtain⟨sr,d,ρ',hd,q⟩:=hq_
 obtain⟨h1,rfl⟩:=Dw hd
 exact⟨sr,d,h1,λv H' s r=>q v H' (sr.post s r hk)⟩
theorem DE.toS(h:DE X c .n e f):DE X c .s e f:=λhid ρ=>PE.imp (h hid ρ) λσ H Q ⟨sr,d,ρ',hd,q⟩=>⟨sr,d,ρ',hd,λv H' p=>q v H' (p.toS sr.h0)⟩
def bE {α:Type}(f:GE)(g:D->aJ->Option α):aJ->Option α:=λρ=>(f ρ).bind λp=>g p.1 p.2
theorem sT {α:Type}{g:D->aJ->Option α}{ρ:aJ}{z:α}(h:bE f g ρ=some z): ∃d ρ',f ρ=some (d,ρ')/\g d ρ'=some z:=by
 unfold bE at h;cases e:f ρ with
 |none=>rw[e] at h;cases h
 |some p=>rw[e] at h;exact⟨p.1,p.2,rfl,h⟩
def p7(F:D->D->Option D)(f g:GE):GE:=bE f λx=>bE g λy ρ=>(F x y).map λd=>(d,ρ)
theorem zj {F:D->D->Option D}{ρ ρ':aJ}{d:D}(h:p7 F f g ρ=some (d,ρ')): ∃x ρ1 y,f ρ=some (x,ρ1)/\g ρ1=some (y,ρ')/\F x y=some d:=by
 obtain⟨x,ρ1,h1,h2⟩:=sT h
 obtain⟨y,ρ2,h3,h4⟩:=sT h2
 cases e:F x y with
 |none=>rw[e] at h4;cases h4
 |some z=>rw[e] at h4;cases h4;exact⟨x,ρ1,y,h1,h3,e⟩
theorem JJ {r:R2}{F:D->D->Option D}{hid:cj}{ρ:aJ}(hF:pg X.K k r F)(hk:k≠ .b){σ:St}{H:Hp}{Q:VK}(h:Ji X.K c hid k (p7 F f g) ρ σ H Q):Hw r (Ji X.K c hid .s f ρ) (λσ H Q=> ∃ρ1,Ji X.K c hid .s g ρ1 σ H Q) σ H Q:=by
 obtain⟨sr,d,ρ',hd,q⟩:=h
 obtain⟨x,ρ1,y,e1,e2,e3⟩:=zj hd
 refine⟨sr,x,ρ1,e1,λv H1 ⟨k1,s1,r1⟩=>⟨ρ1,s1,y,ρ',e2,λu H2 ⟨k2,s2,r2⟩=>?_⟩⟩
 exact hF H2 hid v u x y d Q (λa n=>s2.fresh n) e3 (.inl (r1.mono k2.vw)) (.inl r2) λw H' s3 r3=>q w H' (PostE.left (k1.trans k2) (s2.post s3 r3 hk))
theorem nT {α:Type}{t:α->TE}(h: ∀z,PE X e (t z)):PE X e (λσ H Q=> ∃z,t z σ H Q):=λaf s σ H Q I ⟨z,q⟩=>h z af s σ H Q I q
theorem HB {op:UD}{r:R2}{F:D->D->Option D}(ho:md X (N9 op) r)(hF:pg X.K k r F)(ha:DE X c .s a f)(hb:DE X c .s b g)(hk:k≠ .b:=by decide):DE X c k (.BinOp a op b pos) (p7 F f g):=λhid ρ=>
 PE.imp (E3 ho (ha hid ρ) (nT λρ1=>hb hid ρ1)) λσ H Q h=>JJ hF hk h
def KQ(K:K7)(c:Ct)(hid:cj)(f:GA)(ρ:aJ):TA:=λσ H Q=>SR K c hid ρ σ H/\ ∃d ρ',f ρ=some (d,ρ')/\ ∀vs H',Kept hid H H'->SR K c hid ρ' σ H'->Reps K (vw H' hid) vs d->Q vs H'
def DG(X:Cx)(c:Ct)(es:List Expr)(f:GA):Prop:= ∀hid ρ,PA X es (KQ X.K c hid f ρ)
def dU(f:FA):GA:=λρ=>(f ρ).map λd=>(d,ρ)
theorem u8 {f:FA}{ρ ρ':aJ}{d:List D}(h:dU f ρ=some (d,ρ')):f ρ=some d/\ρ'=ρ:=by
 unfold dU at h;cases e:f ρ with
 |none=>rw[e] at h;cases h
 |some x=>rw[e] at h;cases h;exact⟨rfl,rfl⟩
theorem DA.gf {f:FA}(h:DA X c es f):DG X c es (dU f):=λhid ρ=>PA.imp (h hid ρ) λσ H Q hq_=>by
 obtain⟨sr,d,ρ',hd,q⟩:=hq_
 obtain⟨h1,rfl⟩:=u8 hd
 exact⟨sr,d,h1,λv H' s r=>q v H' (.of s) (sr.ext s) r⟩
def gj(f:GE)(fs:GA):GA:=bE f λd ρ=>(fs ρ).map λp=>(d::p.1,p.2)
theorem Il {α:Type}{t:α->TA}(h: ∀z,PA X es (t z)):PA X es (λσ H Q=> ∃z,t z σ H Q):=λp af s σ H Q I ⟨z,q⟩=>h z p af s σ H Q I q
theorem oe {fs:GA}(ha:DE X c .s e f)(hr:DG X c es fs)(hs:Le (e::es) X.env=(false,eval e X.env)::Le es X.env:=by rfl):DG X c (e::es) (gj f fs):=λhid ρ=>
 PA.imp (il (ha hid ρ) (Il λρ1=>hr hid ρ1) hs) λσ H Q hq_=>by
  obtain⟨sr,d,ρ',hd,q⟩:=hq_
  obtain⟨d1,ρ1,e1,h2⟩:=sT hd
  cases e2:fs ρ1 with
  |none=>rw[e2] at h2;cases h2
  |some p=>
   rw[e2] at h2;obtain⟨ds,ρ2⟩:=p
   cases h2
   exact⟨sr,d1,ρ1,e1,λv H1 ⟨k1,s1,r1⟩=>⟨ρ1,s1,ds,_,e2,λvs H2 k2 s2 r2=>q _ H2 (k1.trans k2) s2 (.cons (r1.mono k2.vw) r2)⟩⟩
end
def dS(K:K7)(k:Kd)(n:Nat)(P:List D->Option D):Sp:=λvs H Q _=> ∃hid ds,Hy hid H/\Reps K (vw H hid) vs ds/\ds.length=n/\ ∃d,P ds=some d/\ ∀v H',Same H H'->RK K k H H' hid v d->Q v H'
def Ic(K:K7)(k:Kd)(hid:cj)(H H':Hp)(v:V)(d:D)(xs':List V)(bs':List D):Prop:=match k with
 | .n=> ∃p ys es,d=.lst es/\v=.ref p/\H p=none/\H' p=some (.lst ys)/\Reps K (vw H' (cM hid p)) ys es/\Reps K (vw H' (cM hid p)) xs' bs'
 |_=>Rep K (vw H' hid) v d/\Reps K (vw H' hid) xs' bs'
def vX(K:K7)(k:Kd)(n:Nat)(M:List D->List D->Option (D×List D)):Sp:=λvs H Q _=> ∃hid a xs bs us ds,vs=.ref a::us/\Hy hid H/\hid a=true/\H a=some (.lst xs)/\Reps K (vw H hid) xs bs/\
 Reps K (vw H hid) us ds/\ds.length=n/\ ∃d bs',M bs ds=some (d,bs')/\ ∀v H' xs',(∀b o,H b=some o->b≠a->H' b=some o)->H' a=some (.lst xs')->Ic K k hid H H' v d xs' bs'->Q v H'
section
variable {X:Cx}{c:Ct}{e a b:Expr}{es rest:List Expr}{k:Kd}{pos p:Pos}{x:Str}{f:Addr}{fd:M5}{ps:List Str}{j n:Nat}
theorem Ek {P:List D->Option D}{fs:FA}(F:FnOk X.prog X.w X.K X.mg X.base ur j f fd ps (dS X.K k n P))(hr:Room j X.A)(hm:X.mg x=some (.ref f))(hk:Ly X.K (.ref f)=true)(hb:Binds X.K fd ps [])
 (ha:DA X c (e::es) fs) (hg:Gl X x:=by rfl) (hdb:(x==("__debug__":Str))=false:=by decide) (he:Le (e::es) X.env=(false,eval e X.env)::Le es X.env:=by rfl) (hpl:(M2 pos (Le es X.env)).any (·.1)=false:=by rfl):
 DP X c k (.Call (.Name x p) (e::es) [] pos) (ak (λds=>if ds.length=n then P ds else none) fs):=λhid ρ=>
 PE.imp (pW F hr hg hm hk hb .nil (xA (X:=X)) (ha hid ρ) hdb he hpl) λσ H Q hq_=>by
  obtain⟨sr,d,hd,q⟩:=hq_
  obtain⟨ds,e1,e2⟩:=qe hd
  have e2':(if ds.length=n then P ds else none)=some d:=e2
  split at e2'
  ·refine⟨sr,ds,e1,λvs H1 s1 r1=>?_⟩
   show dS X.K k n P (vs++[]) H1 Q E0;rw[Me];exact⟨hid,ds,(sr.ext s1).trk,r1, ‹_›,d,e2',λv H' s2 r2=>q v H' (s1.trans s2) (RK.left s1 r2)⟩
  ·cases e2'
def j9(i:Nat)(bs:List D)(ρ:aJ):aJ:=match ρ[i]? with
 |some (.own _)=>ρ.set i (.own bs)
 |some (.arg _)=>ρ.set i (.arg bs)
 |_=>ρ
def kN(i:Nat)(ρ:aJ):Option (List D):=match ρ[i]? with
 |some (.own ds)=>some ds
 |some (.arg ds)=>some ds
 |_=>none
theorem kC {i:Nat}{ρ:aJ}{bs:List D}(h:kN i ρ=some bs):ρ[i]? =some (.own bs)\/ρ[i]? =some (.arg bs):=by
 unfold kN at h;split at h
 ·cases h;exact .inl ‹_›
 ·cases h;exact .inr ‹_›
 ·cases h
theorem SR.held {K:K7}{hid:cj}{ρ:aJ}{σ:St}{H:Hp}{i:Nat}{bs:List D}(h:SR K c hid ρ σ H)(hg:kN i ρ=some bs): ∃a xs,σ[i]? =some (some (.ref a))/\H a=some (.lst xs)/\hid a=true/\Reps K (vw H hid) xs bs/\(c.mu a=true\/c.H₀ a=none):=by
 rcases kC hg with e|e
 ·obtain⟨a,xs,h1,h2,h3,h4,h5⟩:=h.sl i _ e
  exact⟨a,xs,h1,h2,h3,h5,.inr h4⟩
 ·obtain⟨a,xs,h1,h2,h3,h4,h5⟩:=h.sl i _ e
  exact⟨a,xs,h1,h2,h3,h5,.inl h4⟩
theorem mI {i j:Nat}{ρ:aJ}{bs:List D}(h:j≠i):(j9 i bs ρ)[j]? =ρ[j]? :=by
 unfold j9;split
 ·rw[K9 (Lw h)]
 ·rw[K9 (Lw h)]
 ·rfl
theorem BG {i:Nat}{ρ:aJ}{bs:List D}:(j9 i bs ρ).length=ρ.length:=by
 unfold j9;split
 ·simp
 ·simp
 ·rfl
theorem tG {i j:Nat}{ρ:aJ}{bs:List D}(h:Ow (j9 i bs ρ)[j]?):Ow ρ[j]? :=by
 by_cases e:j=i
 ·subst e
  unfold j9 at h;split at h
  ·rw[‹ρ[j]? =_›];trivial
  ·rw[‹ρ[j]? =_›];trivial
  ·exact h
 ·rw[mI e] at h;exact h
theorem SR.put {K:K7}{hid:cj}{ρ:aJ}{σ:St}{H H':Hp}{i:Nat}{bs bs':List D}{a:Addr}{xs':List V}(h:SR K c hid ρ σ H)(hg:kN i ρ=some bs)(ha:σ[i]? =some (some (.ref a)))(kp: ∀b o,H b=some o->b≠a->H' b=some o)
 (hx:H' a=some (.lst xs')) (r:Reps K (vw H' hid) xs' bs'):SR K c hid (j9 i bs' ρ) σ H':=by
 obtain⟨a1,xs,h1,h2,h3,h4,h5⟩:=h.held hg
 rw[ha] at h1;cases h1;have sm:Same (vw H hid) (vw H' hid):=xM λb o q hb=>kp b o q (λe=>by subst e;rw[h3] at hb;cases hb)
 have tr': ∀b o,H b=some o-> ∃o',H' b=some o':=λb o q=>by
  by_cases e:b=a
  ·subst e;exact⟨_,hx⟩
  ·exact⟨o,kp b o q e⟩
 refine⟨λb hb=>let⟨o,q⟩:=h.tr b hb;tr' b o q,λb xs hb q=>by
  by_cases e:b=a
  ·subst e;rw[hx] at q;cases q
  ·obtain⟨o,w⟩:=h.tr b hb
   have z:=kp b o w e
   rw[q] at z;cases z;exact h.ht b xs hb w,h.h0,λb o q m=>?_,λb o q=>let⟨o',q'⟩:=h.t0 b o q;tr' b o' q',h.c0,h.m0,by rw[BG];exact h.len,λj s q=>?_,λj l z n o1 o2=>h.ap j l z n (tG o1) (tG o2)⟩
 ·refine kp b o (h.kp b o q m) λe=>?_
  subst e;rcases h5 with h5|h5
  ·rw[h5] at m;cases m
  ·rw[h5] at q;cases q
 ·by_cases e:j=i
  ·subst e
   rcases kC hg with w|w
   ·have lt:=(Lp.mp w).1
    unfold j9 at q;rw[w] at q;dsimp only at q;rw[Lg lt] at q;cases q
    obtain⟨a2,xs2,g1,g2,g3,g4,g5⟩:=h.sl j _ w
    rw[ha] at g1;cases g1;exact⟨_,xs',ha,hx,g3,g4,r⟩
   ·have lt:=(Lp.mp w).1
    unfold j9 at q;rw[w] at q;dsimp only at q;rw[Lg lt] at q;cases q
    obtain⟨a2,xs2,g1,g2,g3,g4,g5⟩:=h.sl j _ w
    rw[ha] at g1;cases g1;exact⟨_,xs',ha,hx,g3,g4,r⟩
  ·rw[mI e] at q
   have z:=h.sl j s q
   cases s with
   |no=>trivial
   |v d=>obtain⟨x,h1,h2⟩:=z;exact⟨x,h1,h2.mono sm⟩
   |own ds=>
    obtain⟨a',xs,z1,z2,z3,z4,z5⟩:=z
    have ne:a'≠a:=λe'=>by
     subst e';refine h.ap j i a' e (by rw[q];trivial) ?_ z1 ha
     rcases kC hg with w|w<;>rw[w]<;>trivial
    exact⟨a',xs,z1,kp _ _ z2 ne,z3,z4,z5.mono sm⟩
   |arg ds=>
    obtain⟨a',xs,z1,z2,z3,z4,z5⟩:=z
    have ne:a'≠a:=λe'=>by
     subst e';refine h.ap j i a' e (by rw[q];trivial) ?_ z1 ha
     rcases kC hg with w|w<;>rw[w]<;>trivial
    exact⟨a',xs,z1,kp _ _ z2 ne,z3,z4,z5.mono sm⟩
   |ob b=>
    obtain⟨a',z1,z2⟩:=z
    refine⟨a',z1,z2.mono (λow x hx o w=>kp _ _ w (hx.ne (λe'=>?_) h2)) sm λ_ _ _ w=>w⟩
    subst e';refine h.ap j i a' e (by rw[q];exact ow) ?_ z1 ha
    rcases kC hg with w|w<;>rw[w]<;>trivial
def bn(i n:Nat)(M:List D->List D->Option (D×List D))(fs:GA):GE:=λρ=>match kN i ρ with
 |none=>none
 |some _=>match fs ρ with
  |none=>none
  |some (ds,ρ1)=>match kN i ρ1 with
   |none=>none
   |some bs=>if ds.length=n then match M bs ds with
     |none=>none
     |some (d,bs')=>some (d,j9 i bs' ρ1) else none
theorem qx {i:Nat}{M:List D->List D->Option (D×List D)}{fs:GA}{ρ ρ':aJ}{d:D}(h:bn i n M fs ρ=some (d,ρ')): ∃bs0 ds ρ1 bs bs',kN i ρ=some bs0/\fs ρ=some (ds,ρ1)/\kN i ρ1=some bs/\ds.length=n/\M bs ds=some (d,bs')/\ρ'=j9 i bs' ρ1:=by
 unfold bn at h;split at h
 ·cases h
 ·split at h
  ·cases h
  ·split at h
   ·cases h
   ·split at h
    ·split at h
     ·cases h
     ·cases h;exact⟨_,_,_,_,_, ‹_›, ‹_›, ‹_›, ‹_›, ‹_›,rfl⟩
    ·cases h
theorem A5(i:Nat){y:Str}{py:Pos}{M:List D->List D->Option (D×List D)}{fs:GA}(F:FnOk X.prog X.w X.K X.mg X.base ur j f fd ps (vX X.K k n M))(hr:Room j X.A)(hm:X.mg x=some (.ref f))(hk:Ly X.K (.ref f)=true)(hb:Binds X.K fd ps [])
 (ha:DG X c es fs) (hkb:k≠ .b:=by decide) (hN:X.N[i]? =some y:=by rfl) (hv:zg X.env.scope y:=by first|exact MQ rfl|exact Mk (MQ rfl)|exact Mk (Mk rfl)) (hd:(y==("__debug__":Str))=false:=by decide)
 (hcd:(y==("__classdict__":Str))=false:=by decide) (hs:Le (.Name y py::es) X.env=(false,eval (.Name y py) X.env)::Le es X.env:=by rfl) (hg:Gl X x:=by rfl) (hdb:(x==("__debug__":Str))=false:=by decide) (hpl:(M2 pos (Le es X.env)).any (·.1)=false:=by rfl):
 DE X c k (.Call (.Name x p) (.Name y py::es) [] pos) (bn i n M fs):=λhid ρ=>
 PE.imp (pW F hr hg hm hk hb .nil (xA (X:=X)) (il (pv i hN hv hd hcd) (ha hid ρ) hs) hdb hs hpl) λσ H Q hq_=>by
  obtain⟨sr,d,ρ',hd',q⟩:=hq_
  obtain⟨bs0,ds,ρ1,bs,bs',e0,e1,e2,e3,e4,rfl⟩:=qx hd'
  obtain⟨a,xs0,a1,_,a3,_,_⟩:=sr.held e0
  refine⟨.ref a,a1,sr,ds,ρ1,e1,λus H1 k1 s1 r1=>?_⟩
  obtain⟨a',xs,b1,b2,b3,b4,b5⟩:=s1.held e2
  rw[a1] at b1;cases b1;show vX X.K k n M ((.ref a::us)++[]) H1 Q E0;rw[Me];refine⟨hid,a,xs,bs,us,ds,rfl,s1.trk,b3,b2,b4,r1,e3,d,bs',e4,λv H' xs' kp hx hr'=>q v H' ?_⟩
  have kp':Kept hid H1 H':=λb o q hb=>kp b o q λe=>by subst e;rw[b3] at hb;cases hb
  cases k with
  |b=>exact absurd rfl hkb
  |s=>exact⟨k1.trans kp',s1.put e2 a1 kp hx hr'.2,hr'.1⟩
  |n=>
   obtain⟨p',ys,es',rfl,rfl,h1,h2,h3,h4⟩:=hr'
   have np:hid p'=false:=s1.fresh h1
   have na:a≠p':=λe=>by subst e;rw[b2] at h1;cases h1
   have sB:SR X.K c (cM hid p') ρ1 σ (bI H1 p' (.lst ys)):=s1.hide (bM h1 _) h1 aP
   have kp2: ∀b o,(bI H1 p' (.lst ys)) b=some o->b≠a->H' b=some o:=λb o z hb=>by
    by_cases e:b=p'
    ·subst e;rw[aP] at z;cases z;exact h2
    ·rw[aF e] at z;exact kp b o z hb
   have sC:SR X.K c (cM hid p') (j9 i bs' ρ1) σ H':=sB.put e2 a1 kp2 hx h4
   have hn:H p'=none:=by
    cases e:H p' with
    |none=>rfl
    |some o=>rw[k1 p' o e np] at h1;cases h1
   refine⟨k1.trans kp',p',ys,es',rfl,rfl,hn,h2,s1.fresh0 h1,np,sC,h3,λm hm hσ=>?_⟩
   have:=s1.notOw np m (tG hm)
   exact this hσ
end
inductive Out where
 |nx (ρ:aJ)|rt (d:D) (ρ:aJ)|bk (ρ:aJ)|ct (ρ:aJ)|no
abbrev FS:=aJ->Out
def JE(c:Ct)(k:Kd)(v:V):cj:=match k,v with
 | .n,.ref a=>cM c.hid₀ a
 |_,_=>c.hid₀
structure Ret(K:K7)(c:Ct)(k:Kd)(ρ':aJ)(H':Hp)(v:V)(d:D):Prop where
 kp: ∀b o,c.H₀ b=some o->c.mu b=false->H' b=some o
 val:match k with
  | .n=> ∃a xs ds,d=.lst ds/\v=.ref a/\c.H₀ a=none/\H' a=some (.lst xs)/\Reps K (vw H' (cM c.hid₀ a)) xs ds
  |_=>Rep K (vw H' c.hid₀) v d
 arg: ∀(i:Nat) (bs:List D),ρ'[i]? =some (Sl.arg bs)-> ∃a xs,c.mu a=true/\H' a=some (.lst xs)/\Reps K (vw H' (JE c k v)) xs bs
def EndOk(K:K7)(c:Ct)(k:Kd)(D:Ends)(W:Hp):Out->Prop
 | .nx ρ'=> ∀σ' H' hid',SR K c hid' ρ' σ' H'->Same W (vw H' hid')->D.nx σ' H'
 | .rt d ρ'=> ∀v H',Ret K c k ρ' H' v d->D.rt v H'
 | .bk ρ'=> ∀σ' H' hid',SR K c hid' ρ' σ' H'->Same W (vw H' hid')->D.bk σ' H'
 | .ct ρ'=> ∀σ' H' hid',SR K c hid' ρ' σ' H'->Same W (vw H' hid')->D.ct σ' H'
 | .no=>False
theorem EndOk.mono {K:K7}{c:Ct}{k:Kd}{D:Ends}{W W':Hp}{o:Out}(h:EndOk K c k D W o)(s:Same W W'):EndOk K c k D W' o:=by
 cases o with
 |nx ρ=>exact λσ' H' hid' z w=>h σ' H' hid' z (s.trans w)
 |rt d ρ=>exact h
 |bk ρ=>exact λσ' H' hid' z w=>h σ' H' hid' z (s.trans w)
 |ct ρ=>exact λσ' H' hid' z w=>h σ' H' hid' z (s.trans w)
 |no=>exact h
def Kr(K:K7)(c:Ct)(k:Kd)(t:FS)(ρ:aJ):TS:=λD σ H=> ∃hid,SR K c hid ρ σ H/\EndOk K c k D (vw H hid) (t ρ)
def DS(X:Cx)(c:Ct)(k:Kd)(st:Stmt)(t:FS):Prop:= ∀ρ,PS X st (Kr X.K c k t ρ)
def vV(X:Cx)(c:Ct)(k:Kd)(st:List Stmt)(t:FS):Prop:= ∀ρ,PSs X st (Kr X.K c k t ρ)
section
variable {X:Cx}{c:Ct}{k:Kd}{st:Stmt}{sts rest:List Stmt}{t u:FS}{e:Expr}{pos:Pos}
theorem xL {α:Type}{t:α->TS}(h: ∀z,PSs X sts (t z)):PSs X sts (λD σ H=> ∃z,t z D σ H):=λaf s σ H D I ⟨z,q⟩=>h z af s σ H D I q
theorem Hq {α:Type}{t:α->TT}(h: ∀z,PT X e (t z)):PT X e (λD σ H=> ∃z,t z D σ H):=λaf s σ H D I ⟨z,q⟩=>h z af s σ H D I q
def skip:FS:=λρ=>.nx ρ
def aD(t u:FS):FS:=λρ=>match t ρ with
 | .nx ρ'=>u ρ'
 | .rt d ρ'=>.rt d ρ'
 | .bk ρ'=>.bk ρ'
 | .ct ρ'=>.ct ρ'
 | .no=>.no
theorem cw:vV X c k [] skip:=λρ=>PSs.imp x9 λD σ H ⟨hid,sr,q⟩=>q σ H hid sr (Same.refl _)
theorem aB(h:DS X c k st t):vV X c k [st] t:=λρ=>x5 (h ρ)
theorem ar(h1:DS X c k st t)(h2:vV X c k rest u):vV X c k (st::rest) (aD t u):=λρ=>
 PSs.imp (uy (h1 ρ) (xL λρ1=>h2 ρ1)) λD σ H hq_=>by
  obtain⟨hid,sr,q⟩:=hq_
  refine⟨hid,sr,?_⟩
  unfold aD at q;cases e:t ρ with
  |nx ρ1=>rw[e] at q;exact λσ1 H1 hid1 sr1 v1=>⟨ρ1,hid1,sr1,EndOk.mono q v1⟩
  |rt d ρ1=>rw[e] at q;exact q
  |bk ρ1=>rw[e] at q;exact q
  |ct ρ1=>rw[e] at q;exact q
  |no=>rw[e] at q;exact q
def fS(p:FT)(t u:FS):FS:=λρ=>match p ρ with
 |some true=>t ρ
 |some false=>u ρ
 |none=>.no
theorem fN {p:FT}{a b:List Stmt}(hp:DT X c e p)(ha:vV X c k a t)(hb:vV X c k b u):DS X c k (.If e a b pos) (fS p t u):=λρ=>
 PS.imp (Ft (Hq λhid=>hp hid ρ) (ha ρ) (hb ρ)) λD σ H hq_=>by
  obtain⟨hid,sr,q⟩:=hq_
  cases e1:p ρ with
  |none=>unfold fS at q;rw[e1] at q;exact q.elim
  |some x=>
   refine⟨hid,sr,x,e1,λH1 s1=>?_⟩
   unfold fS at q;rw[e1] at q;cases x with
   |true=>exact wb ⟨hid,sr.ext s1,EndOk.mono q (aV s1)⟩
   |false=>exact wJ ⟨hid,sr.ext s1,EndOk.mono q (aV s1)⟩
def aZ(f:FE):FS:=λρ=>match f ρ with
 |some d=>.rt d ρ
 |none=>.no
theorem Bx {K:K7}{hid:cj}{ρ':aJ}{σ:St}{H H':Hp}{v:V}{d:D}(hk:k≠ .b)(p:PostE K c hid k ρ' σ H H' v d)(h0: ∀b,c.hid₀ b=true->hid b=true):Ret K c k ρ' H' v d:=by
 cases k with
 |b=>exact absurd rfl hk
 |s=>
  obtain⟨_,sr,r⟩:=p
  refine⟨sr.kp,r.mono (jT sr.h0),λi bs e=>?_⟩
  obtain⟨a,xs,z1,z2,z3,z4,z5⟩:=sr.sl i _ e
  refine⟨a,xs,z4,z2,?_⟩
  show Reps K (vw H' c.hid₀) xs bs;exact z5.mono (jT sr.h0)
 |n=>
  obtain⟨_,a,xs,ds,rfl,rfl,_,h1,h2,h3,sr,h5,h6⟩:=p
  have le:Same (vw H' (cM hid a)) (vw H' (cM c.hid₀ a)):=jT λb q=>by
   unfold cM at q⊢;cases e:c.hid₀ b with
   |true=>rw[h0 b e];rfl
   |false=>rw[e] at q;rw[NY];right;simpa using q
  refine⟨sr.kp,⟨a,xs,ds,rfl,rfl,h2,h1,h5.mono le⟩,λi bs e=>?_⟩
  obtain⟨a',xs',z1,z2,z3,z4,z5⟩:=sr.sl i _ e
  exact⟨a',xs',z4,z2,z5.mono le⟩
theorem aY {f:FE}(he:DP X c k e f)(hk:k≠ .b:=by decide):DS X c k (.Return (some e) pos) (aZ f):=λρ=>PS.imp (wE (nT λhid=>he hid ρ)) λD σ H hq_=>by
 obtain⟨hid,sr,q⟩:=hq_
 unfold aZ at q;cases e1:f ρ with
 |none=>rw[e1] at q;exact q.elim
 |some z=>rw[e1] at q;exact⟨hid,sr,_,e1,λv H' s r=>q v H' (Bx hk (sr.post s r hk) sr.h0)⟩
def v4:Option Sl->Option (List D)
 |some (.own ds)=>some ds
 |_=>none
def rS(i:Nat):FS:=λρ=>match v4 ρ[i]? with
 |some ds=>.rt (.lst ds) ρ
 |none=>.no
theorem sf {o:Option Sl}{ds:List D}(h:v4 o=some ds):o=some (.own ds):=by
 unfold v4 at h;split at h
 ·cases h;rfl
 ·cases h
theorem pY(i:Nat){x:Str}{pos':Pos}(hN:X.N[i]? =some x:=by rfl)(hv:zg X.env.scope x:=by first|exact MQ rfl|exact Mk (MQ rfl)|exact Mk (Mk rfl))(hd:(x==("__debug__":Str))=false:=by decide)
 (hcd:(x==("__classdict__":Str))=false:=by decide):DS X c .n (.Return (some (.Name x pos')) pos) (rS i):=λρ=>PS.imp (wE (pv i hN hv hd hcd)) λD σ H hq_=>by
 obtain⟨hid,sr,q⟩:=hq_
 unfold rS at q;cases e0:v4 ρ[i]? with
 |none=>rw[e0] at q;exact q.elim
 |some ds=>
  rw[e0] at q;have e:=sf e0
  obtain⟨a,xs,z1,z2,z3,z4,z5⟩:=sr.sl i _ e
  have le:Same (vw H hid) (vw H (cM c.hid₀ a)):=jT λb w=>by
   unfold cM at w;cases e:c.hid₀ b with
   |true=>exact sr.h0 b e
   |false=>
    rw[e] at w;have:b=a:=by simpa using w
    rw[this];exact z3
  refine⟨_,z1,q _ H ⟨sr.kp,⟨a,xs,ds,rfl,rfl,z4,z2,z5.mono le⟩,λj bs e'=>?_⟩⟩
  obtain⟨a',xs',w1,w2,w3,w4,w5⟩:=sr.sl j _ e'
  exact⟨a',xs',w4,w2,w5.mono le⟩
end
section
variable {K:K7}{c:Ct}{hid:cj}{ρ:aJ}{σ:St}{H H':Hp}{i:Nat}{a:Addr}{v:V}{d:D}
theorem SR.setV(h:SR K c hid ρ σ H)(r:Rep K (vw H hid) v d)(i:Nat):SR K c hid (ρ.set i (.v d)) (σ.set i (some v)) H:=by
 refine⟨h.tr,h.ht,h.h0,h.kp,h.t0,h.c0,h.m0,by simp[h.len],λj s q=>?_,λj l z n o1 o2 q1 q2=>?_⟩
 ·by_cases e:j=i
  ·subst e
   have lt:j<ρ.length:=by
    have:=(Lp.mp q).1
    simpa using this
   rw[Lg lt] at q;cases q
   exact⟨v,Lg (by rw[h.len];exact lt),r⟩
  ·rw[K9 (Lw e)] at q
   have w:=h.sl j s q
   have es:(σ.set i (some v))[j]? =σ[j]? :=K9 (Lw e)
   cases s with
   |no=>trivial
   |v d=>obtain⟨x,h1,h2⟩:=w;exact⟨x,es.trans h1,h2⟩
   |own ds=>obtain⟨a,xs,h1,h2⟩:=w;exact⟨a,xs,es.trans h1,h2⟩
   |arg ds=>obtain⟨a,xs,h1,h2⟩:=w;exact⟨a,xs,es.trans h1,h2⟩
   |ob b=>obtain⟨a,h1,h2⟩:=w;exact⟨a,es.trans h1,h2⟩
 ·have nj: ∀m,Ow (ρ.set i (.v d))[m]? ->m≠i:=λm o e=>by
   subst e
   by_cases lt:m<ρ.length
   ·rw[Lg lt] at o;exact o
   ·rw[LP (by simpa using lt)] at o;exact o
  have e1:=nj j o1
  have e2:=nj l o2
  rw[K9 (Lw e1)] at o1 q1;rw[K9 (Lw e2)] at o2 q2;exact h.ap j l z n o1 o2 q1 q2
theorem SR.setO {xs:List V}{ds:List D}(h:SR K c hid ρ σ H)(ha:H a=some (.lst xs))(hh:hid a=true)(h0:c.H₀ a=none)(r:Reps K (vw H hid) xs ds)(no: ∀i:Nat,Ow ρ[i]? ->σ[i]? ≠some (some (.ref a)))(i:Nat):
 SR K c hid (ρ.set i (.own ds)) (σ.set i (some (.ref a))) H:=by
 refine⟨h.tr,h.ht,h.h0,h.kp,h.t0,h.c0,h.m0,by simp[h.len],λj s q=>?_,λj l z n o1 o2 q1 q2=>?_⟩
 ·by_cases e:j=i
  ·subst e
   have lt:j<ρ.length:=by
    have:=(Lp.mp q).1
    simpa using this
   rw[Lg lt] at q;cases q
   exact⟨a,xs,Lg (by rw[h.len];exact lt),ha,hh,h0,r⟩
  ·rw[K9 (Lw e)] at q
   have w:=h.sl j s q
   have es:(σ.set i (some (V.ref a)))[j]? =σ[j]? :=K9 (Lw e)
   cases s with
   |no=>trivial
   |v d=>obtain⟨x,h1,h2⟩:=w;exact⟨x,es.trans h1,h2⟩
   |own ds=>obtain⟨a,xs,h1,h2⟩:=w;exact⟨a,xs,es.trans h1,h2⟩
   |arg ds=>obtain⟨a,xs,h1,h2⟩:=w;exact⟨a,xs,es.trans h1,h2⟩
   |ob b=>obtain⟨a,h1,h2⟩:=w;exact⟨a,es.trans h1,h2⟩
 ·by_cases e1:j=i
  ·subst e1
   have e2:l≠j:=λe=>n e.symm
   rw[K9 (Lw e2)] at o2 q2
   by_cases lt:j<σ.length
   ·rw[Lg lt] at q1;cases q1;exact no l o2 q2
   ·rw[LP (by simpa using lt)] at q1;cases q1
  ·rw[K9 (Lw e1)] at o1 q1
   by_cases e2:l=i
   ·subst e2
    by_cases lt:l<σ.length
    ·rw[Lg lt] at q2;cases q2;exact no j o1 q1
    ·rw[LP (by simpa using lt)] at q2;cases q2
   ·rw[K9 (Lw e2)] at o2 q2
    exact h.ap j l z n o1 o2 q1 q2
end
section
variable {X:Cx}{c:Ct}{k:Kd}{st:Stmt}{sts rest:List Stmt}{t u:FS}{e:Expr}{es:List Expr}{pos pos':Pos}{x:Str}{i:Nat}
def jD(i:Nat)(f:GE):FS:=λρ=>match f ρ with
 |some (d,ρ')=>.nx (ρ'.set i (.v d))
 |none=>.no
def bj(i:Nat)(f:FE):FS:=λρ=>match f ρ with
 |some d=>.nx (ρ.set i (.v d))
 |none=>.no
def J7:D->Option (List D)
 | .lst ds=>some ds
 |_=>none
def wt(i:Nat)(f:GE):FS:=λρ=>match f ρ with
 |some (d,ρ')=>(match J7 d with
  |some ds=>.nx (ρ'.set i (.own ds))
  |none=>.no)
 |none=>.no
def fK(i:Nat)(f:FE):FS:=λρ=>match f ρ with
 |some d=>(match J7 d with
  |some ds=>.nx (ρ.set i (.own ds))
  |none=>.no)
 |none=>.no
theorem jc(i:Nat){f:GE}(hn:X.N.Nodup)(he:DE X c .s e f)(hi:X.N[i]? =some x:=by rfl)(hx:BK X.env.scope x:=by first|exact MQ rfl|exact Mk rfl)(hs:MS e (some (.Name x pos')) pos.line X.env=pure false:=by rfl)
 (hf:X.fn x=true\/X.env.scope.names.lookup x=some .local:=by first|exact .inl rfl|exact .inr rfl|assumption):DS X c k (.Assign [.Name x pos'] e pos) (jD i f):=λρ=>PS.imp (qL hn hi hx (nT λhid=>he hid ρ) hs hf) λD σ H hq_=>by
 obtain⟨hid,sr,q⟩:=hq_
 unfold jD at q;cases e1:f ρ with
 |none=>rw[e1] at q;exact q.elim
 |some z=>
  rw[e1] at q;exact⟨hid,sr,z.1,z.2,e1,λv H' ⟨kp,s',r⟩=>q _ H' hid (s'.setV r i) kp.vw⟩
theorem bp(i:Nat){f:FE}(hn:X.N.Nodup)(he:DP X c .s e f)(hi:X.N[i]? =some x:=by rfl)(hx:BK X.env.scope x:=by first|exact MQ rfl|exact Mk rfl)(hs:MS e (some (.Name x pos')) pos.line X.env=pure false:=by rfl)
 (hf:X.fn x=true\/X.env.scope.names.lookup x=some .local:=by first|exact .inl rfl|exact .inr rfl|assumption):DS X c k (.Assign [.Name x pos'] e pos) (bj i f):=λρ=>PS.imp (qL hn hi hx (nT λhid=>he hid ρ) hs hf) λD σ H hq_=>by
 obtain⟨hid,sr,q⟩:=hq_
 unfold bj at q;cases e1:f ρ with
 |none=>rw[e1] at q;exact q.elim
 |some z=>
  rw[e1] at q;exact⟨hid,sr,z,e1,λv H' s' r=>q _ H' hid ((sr.ext s').setV r i) (aV s')⟩
theorem GU {K:K7}{hid:cj}{ρ':aJ}{σ:St}{H H':Hp}{v:V}{d:D}{D:Ends}(p:PostE K c hid .n ρ' σ H H' v d)(q:EndOk K c k D (vw H hid) (match J7 d with
 |some ds=>.nx (ρ'.set i (.own ds))
 |none=>.no)):D.nx (σ.set i (some v)) H':=by
 obtain⟨kp,a,xs,ds,rfl,rfl,hn,h1,h2,h3,h4,h5,h6⟩:=p
 refine q _ H' (cM hid a) (h4.setO h1 fF h2 h5 h6 i) λb o w=>?_
 obtain⟨w1,w2⟩:=vw_some.mp w
 refine vw_some.mpr ⟨?_,kp b o w2 w1⟩
 unfold cM;rw[w1];have:b≠a:=bT w2 hn
 simp[this]
theorem EE(i:Nat){f:GE}(hn:X.N.Nodup)(he:DE X c .n e f)(hi:X.N[i]? =some x:=by rfl)(hx:BK X.env.scope x:=by first|exact MQ rfl|exact Mk rfl)(hs:MS e (some (.Name x pos')) pos.line X.env=pure false:=by rfl)
 (hf:X.fn x=true\/X.env.scope.names.lookup x=some .local:=by first|exact .inl rfl|exact .inr rfl|assumption):DS X c k (.Assign [.Name x pos'] e pos) (wt i f):=λρ=>PS.imp (qL hn hi hx (nT λhid=>he hid ρ) hs hf) λD σ H hq_=>by
 obtain⟨hid,sr,q⟩:=hq_
 unfold wt at q;cases e1:f ρ with
 |none=>rw[e1] at q;exact q.elim
 |some z=>
  rw[e1] at q;exact⟨hid,sr,z.1,z.2,e1,λv H' p=>GU p q⟩
theorem jW(i:Nat){f:FE}(hn:X.N.Nodup)(he:DP X c .n e f)(hi:X.N[i]? =some x:=by rfl)(hx:BK X.env.scope x:=by first|exact MQ rfl|exact Mk rfl)(hs:MS e (some (.Name x pos')) pos.line X.env=pure false:=by rfl)
 (hf:X.fn x=true\/X.env.scope.names.lookup x=some .local:=by first|exact .inl rfl|exact .inr rfl|assumption):DS X c k (.Assign [.Name x pos'] e pos) (fK i f):=λρ=>PS.imp (qL hn hi hx (nT λhid=>he hid ρ) hs hf) λD σ H hq_=>by
 obtain⟨hid,sr,q⟩:=hq_
 unfold fK at q;cases e1:f ρ with
 |none=>rw[e1] at q;exact q.elim
 |some z=>
  rw[e1] at q;exact⟨hid,sr,z,e1,λv H' s r=>GU (sr.post s r (by decide)) q⟩
def zx(i:Nat)(ρ:aJ):aJ:=match v4 ρ[i]? with
 |some ds=>ρ.set i (.v (.lst ds))
 |none=>ρ
theorem SR.freeze {K:K7}{hid:cj}{ρ:aJ}{σ:St}{H:Hp}(h:SR K c hid ρ σ H)(i:Nat): ∃hid',SR K c hid' (zx i ρ) σ H/\Same (vw H hid) (vw H hid'):=by
 unfold zx;cases e0:v4 ρ[i]? with
 |none=>exact⟨hid,h,Same.refl _⟩
 |some ds=>
  have e:=sf e0
  obtain⟨a,xs,z1,z2,z3,z4,z5⟩:=h.sl i _ e
  have sm:Same (vw H hid) (vw H (iN hid a)):=jT λb w=>by unfold iN at w;rw[Lk] at w;exact w.1
  have un: ∀b,b≠a->hid b=true->iN hid a b=true:=λb n w=>by unfold iN;rw[w];simp[n]
  have na:c.hid₀ a=false:=by
   cases q:c.hid₀ a with
   |false=>rfl
   |true=>obtain⟨o,w⟩:=h.c0 a q;rw[z4] at w;cases w
  refine⟨iN hid a,⟨λb w=>h.tr b (by unfold iN at w;rw[Lk] at w;exact w.1),λb xs w=>h.ht b xs (by unfold iN at w;rw[Lk] at w;exact w.1),λb w=>un b (λe=>by subst e;rw[na] at w;cases w) (h.h0 b w),h.kp,h.t0,h.c0,h.m0,by simp[h.len],λj s q=>?_,λj l z n o1 o2 q1 q2=>?_⟩,sm⟩
  ·by_cases ej:j=i
   ·subst ej
    rw[Lg (Lp.mp e).1] at q;cases q
    exact⟨_,z1,.lst (vw_some.mpr ⟨by unfold iN;simp,z2⟩) (z5.mono sm)⟩
   ·rw[K9 (Lw ej)] at q
    have w:=h.sl j s q
    cases s with
    |no=>trivial
    |v d=>obtain⟨x,h1,h2⟩:=w;exact⟨x,h1,h2.mono sm⟩
    |own ds=>
     obtain⟨a',xs,h1,h2,h3,h4,h5⟩:=w
     exact⟨a',xs,h1,h2,un a' (λe'=>by subst e';exact h.ap j i _ ej (by rw[q];trivial) (by rw[e];trivial) h1 z1) h3,h4,h5.mono sm⟩
    |arg ds=>
     obtain⟨a',xs,h1,h2,h3,h4,h5⟩:=w
     exact⟨a',xs,h1,h2,un a' (λe'=>by subst e';exact h.ap j i _ ej (by rw[q];trivial) (by rw[e];trivial) h1 z1) h3,h4,h5.mono sm⟩
    |ob b=>
     obtain⟨a',h1,h2⟩:=w
     exact⟨a',h1,h2.mono (λ_ _ _ _ q=>q) sm λow x hx=>un x (hx.ne (λe'=>by subst e';exact h.ap j i _ ej (by rw[q];exact ow) (by rw[e];trivial) h1 z1) z2)⟩
  ·have nj: ∀m,Ow (ρ.set i (.v (.lst ds)))[m]? ->m≠i:=λm o e'=>by
    subst e'
    by_cases lt:m<ρ.length
    ·rw[Lg lt] at o;exact o
    ·rw[LP (by simpa using lt)] at o;exact o
   have e1:=nj j o1
   have e2:=nj l o2
   rw[K9 (Lw e1)] at o1;rw[K9 (Lw e2)] at o2;exact h.ap j l z n o1 o2 q1 q2
theorem Hk(i:Nat)(h:DS X c k st t):DS X c k st (λρ=>t (zx i ρ)):=λρ=>PS.imp (h (zx i ρ)) λD σ H hq_=>by
 obtain⟨hid,sr,q⟩:=hq_
 obtain⟨hid',sr',sm⟩:=sr.freeze i
 exact⟨hid',sr',EndOk.mono q sm⟩
def eX(f:GE):FS:=λρ=>match f ρ with
 |some (_,ρ')=>.nx ρ'
 |none=>.no
theorem kO {f:GE}(he:DE X c .s e f)(hs:MS e none pos.line X.env=pure false:=by rfl):DS X c k (.Expr e pos) (eX f):=λρ=>PS.imp (Dp (nT λhid=>he hid ρ) hs) λD σ H hq_=>by
 obtain⟨hid,sr,q⟩:=hq_
 unfold eX at q;cases e1:f ρ with
 |none=>rw[e1] at q;exact q.elim
 |some z=>
  rw[e1] at q;exact⟨hid,sr,z.1,z.2,e1,λv H' ⟨kp,s',_⟩=>q _ H' hid s' kp.vw⟩
def ID(K:K7)(r:V->List V->Hp->VK->Prop)(n:Nat)(M:List D->List D->Option (D×List D)):Prop:= ∀(H:Hp) (hid:cj) (a:Addr) (xs us:List V) (bs ds bs':List D) (d:D) (Q:VK),H a=some (.lst xs)->hid a=true->Reps K (vw H hid) xs bs->Reps K (vw H hid) us ds->
 ds.length=n->M bs ds=some (d,bs')->(∀w xs',Reps K (vw H hid) xs' bs'->Rep K (vw H hid) w d->Q w (bI H a (.lst xs')))->r (.ref a) us H Q
theorem HY {K:K7}{r:V->List V->Hp->VK->Prop}{n:Nat}{M:List D->List D->Option (D×List D)}(hM:ID K r n M){hid:cj}{ρ1:aJ}{σ:St}{H H1:Hp}{a:Addr}{us:List V}{bs ds bs':List D}{d:D}{Q:VK}(k1:Kept hid H H1)(s1:SR K c hid ρ1 σ H1)(e2:kN i ρ1=some bs)
 (ha:σ[i]? =some (some (.ref a))) (r1:Reps K (vw H1 hid) us ds) (hn:ds.length=n) (hm:M bs ds=some (d,bs')) (q: ∀v H',PostE K c hid .s (j9 i bs' ρ1) σ H H' v d->Q v H'):r (.ref a) us H1 Q:=by
 obtain⟨a',xs,b1,b2,b3,b4,b5⟩:=s1.held e2
 rw[ha] at b1;cases b1;refine hM H1 hid a xs us bs ds bs' d Q b2 b3 b4 r1 hn hm λw xs' rx rw'=>q w _ ⟨k1.trans λb o z hb=>?_,?_,?_⟩
 ·rw[aF (λe=>by subst e;rw[b3] at hb;cases hb)];exact z
 ·exact s1.put e2 ha (λb o z hb=>by rw[aF hb];exact z) aP (by rw[eY b3];exact rx)
 ·rw[eY b3];exact rw'
variable {n:Nat}{M:List D->List D->Option (D×List D)}{fs:GA}{r:V->List V->Hp->VK->Prop}{y name:Str}{py apos:Pos}{id:String}
theorem jS(i:Nat)(hM:ID X.K r n M)(hm:Jm X id r)(slot:Slot "list" name id)(hty:typeOf (.builtin id)=pure (.type "method_descriptor"))(ha:DG X c (e::es) fs)
 (hN:X.N[i]? =some y:=by rfl) (hv:zg X.env.scope y:=by first|exact MQ rfl|exact Mk (MQ rfl)|exact Mk (Mk rfl)) (hd:(y==("__debug__":Str))=false:=by decide) (hcd:(y==("__classdict__":Str))=false:=by decide)
 (hbase:Qs (.Name y py) name X.env (eval (.Name y py) X.env)=eval (.Name y py) X.env:=by rfl)
 (hfew:((M2 pos (Le (e::es) X.env)).all (λx=> !x.1)&&(UF pos (Rs [] X.env)).all (λx=>x.1.isSome)
   &&decide ((e::es).length+([]:List QV).length+(if([]:List QV).isEmpty then 0 else 1)<30))=true:=by rfl)
 (hline:(apos.endLine==pos.line)=true:=by rfl) (hs:Le (e::es) X.env=(false,eval e X.env)::Le es X.env:=by rfl) (hplain:(M2 pos (Le es X.env)).any (·.1)=false:=by rfl):
 DE X c .s (.Call (.Attribute (.Name y py) name apos) (e::es) [] pos) (bn i n M fs):=λhid ρ=>
 PE.imp (Fo PySem.F.plainAttrs_list slot hty hm (pv i hN hv hd hcd) (ha hid ρ) hbase hfew hline hs hplain) λσ H Q hq_=>by
  obtain⟨sr,d,ρ',hd',q⟩:=hq_
  obtain⟨bs0,ds,ρ1,bs,bs',e0,e1,e2,e3,e4,rfl⟩:=qx hd'
  obtain⟨a,xs0,a1,a2,a3,_,_⟩:=sr.held e0
  exact⟨.ref a,a1,.inl ⟨rfl,_,SqL.of a2⟩,sr,ds,ρ1,e1,λus H1 k1 s1 r1=>HY hM k1 s1 e2 a1 r1 e3 e4 q⟩
end
section
variable {K:K7}
def la:List D->List D->Option (D×List D):=λbs ds=>match ds with
 | [d]=>if bs.length<Lm then some (.non,bs++[d]) else none
 |_=>none
theorem ko:ID K xD 1 la:=by
 intro H hid a xs us bs ds bs' d Q h1 h2 h3 h4 h5 h6 q;unfold la at h6;split at h6
 ·split at h6
  ·cases h6
   cases h4 with
   |cons r t=>
    cases t
    exact⟨a,xs,_,rfl,rfl,h1,by rw[h3.length];assumption,q _ _ (h3.append (.cons r .nil)) .non⟩
  ·cases h6
 ·cases h6
def rR:List D->List D->Option (D×List D):=λbs ds=>match ds with
 | [.int i]=>match (if bs.length<=Lm then rl bs.length i else none) with
   |some j=>(bs[j]?).map λd=>(d,bs.eraseIdx j)
   |none=>none
 |_=>none
theorem GC:ID K AF 1 rR:=by
 intro H hid a xs us bs ds bs' d Q h1 h2 h3 h4 h5 h6 q;unfold rR at h6;split at h6
 ·split at h6
  ·rename_i i _ j e
   cases e1:bs[j]? with
   |none=>rw[e1] at h6;cases h6
   |some z=>
    rw[e1] at h6;cases h6;cases h4 with
    |cons r t=>
     cases t
     cases r
     obtain⟨x,g1,g2⟩:=h3.get e1
     split at e
     ·obtain⟨w1,w2,w3,w4⟩:=tP e
      have hl:=h3.length
      have l63:=lZ
      refine⟨a,xs,i,j,x,rfl,rfl,h1,by omega,by omega,by rw[hl];exact w1,g1,q _ _ (h3.eraseIdx j) g2⟩
     ·cases e
  ·cases h6
 ·cases h6
end
abbrev FG:=D->aJ->Option aJ
abbrev uo:=List D->aJ->Option aJ
def OwK(ρ ρ':aJ)(σ σ':St):Prop:= ∀i:Nat,Ow ρ'[i]? ->Ow ρ[i]? /\σ'[i]? =σ[i]?
theorem OwK.trans {ρ ρ1 ρ2:aJ}{σ σ1 σ2:St}(a:OwK ρ ρ1 σ σ1)(b:OwK ρ1 ρ2 σ1 σ2):OwK ρ ρ2 σ σ2:=λi o=>⟨(a i (b i o).1).1,(b i o).2.trans (a i (b i o).1).2⟩
def JB {ι:Type}(IR:Hp->V->ι->Prop)(K:K7)(c:Ct)(hid:cj)(g:ι->aJ->Option aJ)(ρ:aJ)(d:ι):TG:=λv σ H Q=>SR K c hid ρ σ H/\IR (vw H hid) v d/\ ∃ρ',g d ρ=some ρ'/\ ∀σ',SR K c hid ρ' σ' H->OwK ρ ρ' σ σ'->Q σ' H
def Jk {ι:Type}(IR:Hp->V->ι->Prop)(X:Cx)(c:Ct)(tg:Expr)(g:ι->aJ->Option aJ):Prop:= ∀hid ρ d,PG X tg (JB IR X.K c hid g ρ d)
abbrev pO(X:Cx)(c:Ct)(tg:Expr)(g:FG):Prop:=Jk (Rep X.K) X c tg g
def Jy(K:K7)(c:Ct)(hid:cj)(g:uo)(ρ:aJ)(d:List D):Bb:=λv σ H Q=>SR K c hid ρ σ H/\Reps K (vw H hid) v d/\ ∃ρ',g d ρ=some ρ'/\ ∀σ',SR K c hid ρ' σ' H->OwK ρ ρ' σ σ'->Q σ' H
def Jl(X:Cx)(c:Ct)(tg:List Expr)(g:uo):Prop:= ∀hid ρ d,PGs X tg (Jy X.K c hid g ρ d)
theorem PG.imp {X:Cx}{e:Expr}{t t':TG}(h:PG X e t)(i: ∀v σ H Q,t' v σ H Q->t v σ H Q):PG X e t':=λaf s σ H v u Q I r q=>h af s σ H v u Q I r (i v σ H Q q)
theorem PGs.imp {X:Cx}{e:List Expr}{t t':Bb}(h:PGs X e t)(i: ∀v σ H Q,t' v σ H Q->t v σ H Q):PGs X e t':=λaf s σ H v u Q I r q=>h af s σ H v u Q I r (i v σ H Q q)
theorem By {X:Cx}{e:Expr}{α:Type}{t:α->TG}(h: ∀z,PG X e (t z)):PG X e (λv σ H Q=> ∃z,t z v σ H Q):=λaf s σ H v u Q I r ⟨z,q⟩=>h z af s σ H v u Q I r q
theorem xo {X:Cx}{e:List Expr}{α:Type}{t:α->Bb}(h: ∀z,PGs X e (t z)):PGs X e (λv σ H Q=> ∃z,t z v σ H Q):=λaf s σ H v u Q I r ⟨z,q⟩=>h z af s σ H v u Q I r q
section
variable {X:Cx}{c:Ct}{k:Kd}{st:Stmt}{sts body:List Stmt}{t u:FS}{e tg iter:Expr}{es:List Expr}{pos pos':Pos}{x:Str}{i:Nat}
def gN(i:Nat):FG:=λd ρ=>some (ρ.set i (.v d))
theorem ay(i:Nat)(hn:X.N.Nodup)(hi:X.N[i]? =some x:=by rfl)(hx:BK X.env.scope x:=by first|exact MQ rfl|exact Mk rfl)(hf:X.fn x=true\/X.env.scope.names.lookup x=some .local:=by first|exact .inl rfl|exact .inr rfl|assumption):
 pO X c (.Name x pos) (gN i):=λhid ρ d=>PG.imp (EY (i:=i) hn hi hx hf) λv σ H Q hq_=>by
 obtain⟨sr,r,ρ',e,q⟩:=hq_
 cases e
 refine q _ (sr.setV r i) λj o=>?_
 have ne:j≠i:=λe=>by
  subst e
  by_cases lt:j<ρ.length
  ·rw[Lg lt] at o;exact o
  ·rw[LP (by simpa using lt)] at o;exact o
 rw[K9 (Lw ne)] at o⊢;exact⟨o,rfl⟩
def iC:uo:=λds ρ=>match ds with
 | []=>some ρ
 |_=>none
def cA(g:FG)(gs:uo):uo:=λds ρ=>match ds with
 | []=>none
 |d::r=>(g d ρ).bind λρ'=>gs r ρ'
theorem cO:Jl X c [] iC:=λhid ρ d=>PGs.imp ya λv σ H Q hq_=>by
 obtain⟨sr,r,ρ',e,q⟩:=hq_
 unfold iC at e;split at e
 ·cases e;cases r;exact⟨rfl,q σ sr λi o=>⟨o,rfl⟩⟩
 ·cases e
theorem aL {g:FG}{gs:uo}(h1:pO X c e g)(h2:Jl X c es gs)(hs:(MA (e::es) X.env).map (·.2)=Nq e X.env::(MA es X.env).map (·.2):=by rfl):Jl X c (e::es) (cA g gs):=λhid ρ d=>
 PGs.imp (vN (By λd=>h1 hid ρ d) (xo λz:aJ×List D=>h2 hid z.1 z.2) hs) λv σ H Q hq_=>by
  obtain⟨sr,r,ρ',e,q⟩:=hq_
  cases d with
  |nil=>cases e
  |cons d1 ds=>
   cases r with
   |cons r1 r2=>
    have e:(g d1 ρ).bind (λρ'=>gs ds ρ')=some ρ':=e
    cases e1:g d1 ρ with
    |none=>rw[e1] at e;cases e
    |some ρ1=>
     rw[e1] at e;exact⟨_,_,rfl,d1,sr,r1,ρ1,e1,λσ1 s1 o1=>⟨(ρ1,ds),s1,r2,ρ',e,λσ2 s2 o2=>q σ2 s2 (o1.trans o2)⟩⟩
def gT(n:Nat)(gs:uo):FG:=λd ρ=>match d with
 | .tup ds=>if ds.length=n then gs ds ρ else none
 |_=>none
theorem cR {gs:uo}{kk n:Nat}(hc:X.calm=true)(h:Jl X c es gs)(hn:(MA es X.env).length=n:=by rfl)(hst:(MA es X.env).findIdx? (·.1)=none:=by rfl):pO X c (.Tuple es kk pos) (gT n gs):=λhid ρ d=>
 PG.imp (Bm hc (xo λds=>h hid ρ ds) hn hst) λv σ H Q hq_=>by
  obtain⟨sr,r,ρ',e,q⟩:=hq_
  unfold gT at e;split at e
  ·split at e
   ·cases r with
    |tup h1 h2=>exact⟨_,_,rfl,Same.seqT (gy _ _) h1,by rw[h2.length];assumption,_,sr,h2,ρ',e,q⟩
   ·cases e
  ·cases e
def Hb:Option aJ->Out
 |some ρ=>.nx ρ
 |none=>.no
def dc(g:FG)(f:GE):FS:=λρ=>match f ρ with
 |some z=>Hb (g z.1 z.2)
 |none=>.no
theorem gL {g:FG}{f:GE}(he:DE X c .s e f)(hg:pO X c tg g)(hs:Ox [tg] e pos.line X.env=pure false:=by rfl)(hw:Oy [tg] e X.env=pure none:=by rfl)
 (h1:(MA [tg] X.env).map (·.2)=[Nq tg X.env]:=by rfl):DS X c k (.Assign [tg] e pos) (dc g f):=λρ=>
 PS.imp (CC (nT λhid=>he hid ρ) (By λz:cj×aJ×D=>hg z.1 z.2.1 z.2.2) hs hw h1) λD σ H hq_=>by
  obtain⟨hid,sr,q⟩:=hq_
  unfold dc at q;cases e1:f ρ with
  |none=>rw[e1] at q;exact q.elim
  |some z=>
   rw[e1] at q;cases e2:g z.1 z.2 with
   |none=>dsimp only at q;rw[e2] at q;exact q.elim
   |some ρ2=>
    dsimp only at q;rw[e2] at q;exact⟨hid,sr,z.1,z.2,e1,λv H' ⟨kp,s',r⟩=>⟨(hid,z.2,z.1),s',r,ρ2,e2,λσ' s2 _=>q σ' H' hid s2 kp.vw⟩⟩
def ft(i:Nat)(fi:FE)(d:D)(ρ:aJ):Option aJ:=match kN i ρ with
 |some bs=>(match fi ρ with
  |some (.int j)=>(match rl bs.length j with
   |some m=>some (j9 i (bs.set m d) ρ)
   |none=>none)
  |_=>none)
 |none=>none
theorem wq {fi:FE}{d:D}{ρ ρ':aJ}(h:ft i fi d ρ=some ρ'): ∃bs j m,kN i ρ=some bs/\fi ρ=some (.int j)/\rl bs.length j=some m/\ρ'=j9 i (bs.set m d) ρ:=by
 unfold ft at h;split at h
 ·split at h
  ·split at h
   ·cases h;exact⟨_,_,_, ‹_›, ‹_›, ‹_›,rfl⟩
   ·cases h
  ·cases h
 ·cases h
def JT(K:K7)(c:Ct)(hid:cj)(g:FG)(ρ:aJ)(d:D):TG:=λv σ H Q=>SR K c hid ρ σ H/\Rep K (vw H hid) v d/\ ∃ρ',g d ρ=some ρ'/\ ∀H',Kept hid H H'->SR K c hid ρ' σ H'->Q σ H'
def Jd(X:Cx)(c:Ct)(tg:Expr)(g:FG):Prop:= ∀hid ρ d,PG X tg (JT X.K c hid g ρ d)
theorem kT(i:Nat){y:Str}{py:Pos}{ix:Expr}{fi:FE}{k1:Kd}(hi:DP X c k1 ix fi)(hN:X.N[i]? =some y:=by rfl)(hv:zg X.env.scope y:=by first|exact MQ rfl|exact Mk (MQ rfl)|exact Mk (Mk rfl))(hd:(y==("__debug__":Str))=false:=by decide)(hcd:(y==("__classdict__":Str))=false:=by decide)
 (ha: ∀v,Nq (.Subscript (.Name y py) ix pos) X.env v=(do
   let ov <-N8 [v] (eval (.Name y py) X.env)
   let iv <-N8 [v,ov] (eval ix X.env)
   NJ pos
   N8 [v,ov,iv] (S8 ov iv v)
   release [v,ov,iv] []):=by intro _;rfl):Jd X c (.Subscript (.Name y py) ix pos) (ft i fi):=λhid ρ d=>
 PG.imp (FH (pv i hN hv hd hcd) (hi hid ρ) vE ha) λv σ H Q hq_=>by
  obtain⟨sr,r,ρ',e,q⟩:=hq_
  obtain⟨bs,j,m,e1,e2,e3,rfl⟩:=wq e
  obtain⟨a,xs,a1,a2,a3,a4,a5⟩:=sr.held e1
  refine⟨.ref a,a1,sr,_,e2,λw H1 s1 r1=>?_⟩
  have b1:=(RK.b k1 r1 λa n=>sr.fresh n).int
  cases b1
  have a4':=a4.mono (aV (hid:=hid) s1)
  refine⟨a,xs,j,m,rfl,rfl,s1 _ _ a2,by rw[a4.length];exact e3,q _ (λb o z hb=>?_) ?_⟩
  ·rw[aF (λe=>by subst e;rw[a3] at hb;cases hb)];exact s1 _ _ z
  ·exact(sr.ext s1).put e1 a1 (λb o z hb=>by rw[aF hb];exact z) aP (by rw[eY a3];exact Reps.set (r.mono (aV s1)) m a4')
theorem qd {g:FG}{f:GE}(he:DE X c .s e f)(hg:Jd X c tg g)(hs:Ox [tg] e pos.line X.env=pure false:=by rfl)(hw:Oy [tg] e X.env=pure none:=by rfl)
 (h1:(MA [tg] X.env).map (·.2)=[Nq tg X.env]:=by rfl):DS X c k (.Assign [tg] e pos) (dc g f):=λρ=>
 PS.imp (CC (nT λhid=>he hid ρ) (By λz:cj×aJ×D=>hg z.1 z.2.1 z.2.2) hs hw h1) λD σ H hq_=>by
  obtain⟨hid,sr,q⟩:=hq_
  unfold dc at q;cases e1:f ρ with
  |none=>rw[e1] at q;exact q.elim
  |some z=>
   rw[e1] at q;cases e2:g z.1 z.2 with
   |none=>dsimp only at q;rw[e2] at q;exact q.elim
   |some ρ2=>
    dsimp only at q;rw[e2] at q;exact⟨hid,sr,z.1,z.2,e1,λv H' ⟨kp,s',r⟩=>⟨(hid,z.2,z.1),s',r,ρ2,e2,λH2 k2 s2=>q σ H2 hid s2 (kp.trans k2).vw⟩⟩
def JN(K:K7)(c:Ct)(hid:cj)(g:uo)(ρ:aJ)(d:List D):Bb:=λv σ H Q=>SR K c hid ρ σ H/\Reps K (vw H hid) v d/\ ∃ρ',g d ρ=some ρ'/\ ∀H',Kept hid H H'->SR K c hid ρ' σ H'->Q σ H'
def Jn(X:Cx)(c:Ct)(tg:List Expr)(g:uo):Prop:= ∀hid ρ d,PGs X tg (JN X.K c hid g ρ d)
theorem yo:Jn X c [] iC:=λhid ρ d=>PGs.imp ya λv σ H Q hq_=>by
 obtain⟨sr,r,ρ',e,q⟩:=hq_
 unfold iC at e;split at e
 ·cases e;cases r;exact⟨rfl,q H (.of (Same.refl _)) sr⟩
 ·cases e
theorem nQ {g:FG}{gs:uo}(h1:Jd X c e g)(h2:Jn X c es gs)(hs:(MA (e::es) X.env).map (·.2)=Nq e X.env::(MA es X.env).map (·.2):=by rfl):Jn X c (e::es) (cA g gs):=λhid ρ d=>
 PGs.imp (vN (By λd=>h1 hid ρ d) (xo λz:aJ×List D=>h2 hid z.1 z.2) hs) λv σ H Q hq_=>by
  obtain⟨sr,r,ρ',e,q⟩:=hq_
  cases d with
  |nil=>cases e
  |cons d1 ds=>
   cases r with
   |cons r1 r2=>
    have e:(g d1 ρ).bind (λρ'=>gs ds ρ')=some ρ':=e
    cases e1:g d1 ρ with
    |none=>rw[e1] at e;cases e
    |some ρ1=>
     rw[e1] at e;exact⟨_,_,rfl,d1,sr,r1,ρ1,e1,λH1 k1 s1=>⟨(ρ1,ds),s1,r2.mono k1.vw,ρ',e,λH2 k2 s2=>q H2 (k1.trans k2) s2⟩⟩
theorem xy {gs:uo}{kk n:Nat}(hc:X.calm=true)(h:Jn X c es gs)(hn:(MA es X.env).length=n:=by rfl)(hst:(MA es X.env).findIdx? (·.1)=none:=by rfl):Jd X c (.Tuple es kk pos) (gT n gs):=λhid ρ d=>
 PG.imp (Bm hc (xo λds=>h hid ρ ds) hn hst) λv σ H Q hq_=>by
  obtain⟨sr,r,ρ',e,q⟩:=hq_
  unfold gT at e;split at e
  ·split at e
   ·cases r with
    |tup h1 h2=>exact⟨_,_,rfl,Same.seqT (gy _ _) h1,by rw[h2.length];assumption,_,sr,h2,ρ',e,q⟩
   ·cases e
  ·cases e
def ItOk(K:K7)(W:Hp)(J:It)(ds:List D):Prop:=
 (∀(i:Nat) (d:D) (H:Hp),ds[i]? =some d->Same W H->J.go i H/\ ∀x H',J.yld i H x H'->Same H H'/\ ∀hid:cj,(∀b,hid b=true-> ∃o,H b=some o)->Same W (vw H hid)->Rep K (vw H' hid) x d)/\ ∀H,Same W H->J.stop ds.length H
def KO(K:K7)(c:Ct)(hid:cj)(f:GA)(ρ:aJ):TI:=λσ H R=>SR K c hid ρ σ H/\ ∃ds ρ',f ρ=some (ds,ρ')/\ ∀J H',Kept hid H H'->SR K c hid ρ' σ H'->ItOk K (vw H' hid) J ds->R J H'
def DI(X:Cx)(c:Ct)(tg iter:Expr)(f:GA):Prop:= ∀hid ρ,PI X tg iter (KO X.K c hid f ρ)
theorem PI.imp {t t':TI}(h:PI X tg iter t)(i: ∀σ H Q,t' σ H Q->t σ H Q):PI X tg iter t':=λaf s σ H R I q=>h af s σ H R I (i σ H R q)
theorem JY {α:Type}{t:α->TI}(h: ∀z,PI X tg iter (t z)):PI X tg iter (λσ H R=> ∃z,t z σ H R):=λaf s σ H R I ⟨z,q⟩=>h z af s σ H R I q
theorem Cf {K:K7}{W:Hp}{a:Addr}{xs:List V}{ds:List D}(h:SqT K W a xs)(r:Reps K W xs ds):ItOk K W (JH K a) ds:=by
 refine⟨λi d H e s=>?_,λH s=>⟨xs,Same.seqT s h,by rw[r.length];exact Ld _⟩⟩
 obtain⟨x,e1,r1⟩:=r.get e
 refine⟨⟨xs,x,Same.seqT s h,e1⟩,λy H' ⟨e2,e3⟩=>?_⟩
 subst e2;have:=e3 xs (Same.seqT s h)
 rw[e1] at this;cases this;exact⟨Same.refl _,λhid _ sw=>r1.mono sw⟩
def vp(lo:Int)(n:Nat):List D:=(KW n).map λ(i:Nat)=>D.int (lo+i)
theorem qv {K:K7}{W:Hp}{lo:Int}{n:Nat}:ItOk K W (HJ lo n) (vp lo n):=by
 refine⟨λi d H e s=>?_,λH s=>by show n<=(vp lo n).length;simp[vp]⟩
 unfold vp at e;rw[Ln] at e;cases e1:(KW n)[i]? with
 |none=>rw[e1] at e;cases e
 |some j=>
  rw[e1] at e;obtain⟨h1,h2⟩:=Lp.mp e1
  simp at h1 h2;subst h2;cases e
  refine⟨h1,λy H' ⟨e2,e3⟩=>?_⟩
  subst e2 e3;exact⟨Same.refl _,λhid _ sw=>.int⟩
def fh(g:FG)(b:FS):List D->FS
 | [],ρ=>.nx ρ
 |d::r,ρ=>match g d ρ with
  |none=>.no
  |some ρ1=>match b ρ1 with
   | .nx ρ2=>fh g b r ρ2
   | .ct ρ2=>fh g b r ρ2
   | .bk ρ2=>.nx ρ2
   | .rt d ρ2=>.rt d ρ2
   | .no=>.no
def gW(f:GA)(g:FG)(b:FS):FS:=λρ=>match f ρ with
 |some (ds,ρ')=>fh g b ds ρ'
 |none=>.no
theorem iX {f:GA}{g:FG}{tb:FS}(hp:Rb (model X.prog X.w) X.A X.env X.xe)(hc:X.calm=true)(hi:DI X c tg iter f)(hg:pO X c tg g)(hb:vV X c k body tb)
 (hs: ∀x,Lz iter X.env x=pure x:=by intro _;rfl):DS X c k (.For tg iter body [] pos) (gW f g tb):=λρ=>
 PS.imp (FL hp hc (JY λhid=>hi hid ρ) (By λz:cj×aJ×D=>hg z.1 z.2.1 z.2.2) (xL λρ=>hb ρ) hs) λD σ H hq_=>by
  obtain⟨hid,sr,q⟩:=hq_
  unfold gW at q;cases e1:f ρ with
  |none=>rw[e1] at q;exact q.elim
  |some z=>
   obtain⟨ds,ρ0⟩:=z
   rw[e1] at q;have q':EndOk X.K c k D (vw H hid) (fh g tb ds ρ0):=q
   refine⟨hid,sr,ds,ρ0,e1,λJ H1 kp s1 it=>?_⟩
   refine⟨λi m σ H=>m=ds.length-i/\i<=ds.length/\ ∃hid2 ρ2,SR X.K c hid2 ρ2 σ H/\Same (vw H1 hid) (vw H hid2)/\EndOk X.K c k D (vw H hid2) (fh g tb (ds.drop i) ρ2),⟨ds.length,by simp,Na _,hid,ρ0,s1,Same.refl _,EndOk.mono q' kp.vw⟩,?_⟩
   rintro i m σ2 H2 ⟨rfl,hi',hid2,ρ2,s2,w2,q2⟩
   have wH:Same (vw H1 hid) H2:=w2.trans (gy _ _)
   by_cases hlt:i<ds.length
   ·have hd:ds[i]? =some ds[i]:=K0 hlt
    have e2:ds.drop i=ds[i]::ds.drop (i+1):=Ni hlt
    rw[e2] at q2;unfold fh at q2;obtain⟨go,yl⟩:=it.1 i ds[i] H2 hd wH
    refine .inr ⟨go,λσ' H'=> ∃hid3 ρ3,SR X.K c hid3 ρ3 σ' H'/\Same (vw H1 hid) (vw H' hid3)/\EndOk X.K c k D (vw H' hid3) (fh g tb (ds.drop (i+1)) ρ3),λσ' H' n3=>⟨ds.length- (i+1),by omega,rfl,hlt,n3⟩,λx H3 y=>?_⟩
    obtain⟨s3,rp⟩:=yl x H3 y
    have rx:=rp hid2 s2.tr w2
    cases e3:g ds[i] ρ2 with
    |none=>rw[e3] at q2;exact q2.elim
    |some ρ3=>
     rw[e3] at q2;refine⟨(hid2,ρ2,ds[i]),s2.ext s3,rx,ρ3,e3,λσ4 s4 _=>⟨ρ3,hid2,s4,?_⟩⟩
     have w3:Same (vw H2 hid2) (vw H3 hid2):=aV s3
     dsimp only at q2;cases e4:tb ρ3 with
     |nx ρ5=>rw[e4] at q2;exact λσ' H' hid' z w=>⟨hid',ρ5,z,(w2.trans w3).trans w,EndOk.mono q2 (w3.trans w)⟩
     |ct ρ5=>rw[e4] at q2;exact λσ' H' hid' z w=>⟨hid',ρ5,z,(w2.trans w3).trans w,EndOk.mono q2 (w3.trans w)⟩
     |bk ρ5=>rw[e4] at q2;exact λσ' H' hid' z w=>q2 σ' H' hid' z (w3.trans w)
     |rt d ρ5=>rw[e4] at q2;exact q2
     |no=>rw[e4] at q2;exact q2.elim
   ·have e:i=ds.length:=by omega
    subst e;rw[M8 (Ld _)] at q2;exact .inl ⟨it.2 H2 wH,q2 σ2 H2 hid2 s2 (Same.refl _)⟩
def pV(p:FT)(b:FS):Nat->FS
 |0,_=>.no
 |n+1,ρ=>match p ρ with
  |none=>.no
  |some false=>.nx ρ
  |some true=>match b ρ with
   | .nx ρ2=>pV p b n ρ2
   | .ct ρ2=>pV p b n ρ2
   | .bk ρ2=>.nx ρ2
   | .rt d ρ2=>.rt d ρ2
   | .no=>.no
theorem rf(n:Nat){p:FT}{tb:FS}(hp:Rb (model X.prog X.w) X.A X.env X.xe)(hc:DT X c e p)(hb:vV X c k body tb):DS X c k (.While e body [] pos) (pV p tb n):=λρ=>
 PS.imp (BZ hp (Hq λz:cj×aJ=>hc z.1 z.2) (xL λρ=>hb ρ)) λD σ H hq_=>by
  obtain⟨hid,sr,q⟩:=hq_
  refine⟨λm σ H=> ∃hid2 ρ2,SR X.K c hid2 ρ2 σ H/\EndOk X.K c k D (vw H hid2) (pV p tb m ρ2),⟨n,hid,ρ,sr,q⟩,?_⟩
  rintro m σ2 H2 ⟨hid2,ρ2,s2,q2⟩
  cases m with
  |zero=>exact q2.elim
  |succ m=>
   unfold pV at q2;cases e1:p ρ2 with
   |none=>rw[e1] at q2;exact q2.elim
   |some b=>
    rw[e1] at q2;refine⟨(hid2,ρ2),s2,b,e1,λH3 s3=>?_⟩
    cases b with
    |false=>exact wJ (q2 σ2 H3 hid2 (s2.ext s3) (aV s3))
    |true=>
     refine wb ⟨λσ' H'=> ∃hid3 ρ3,SR X.K c hid3 ρ3 σ' H'/\EndOk X.K c k D (vw H' hid3) (pV p tb m ρ3),λσ' H' n3=>⟨m,LY _,n3⟩,ρ2,hid2,s2.ext s3,?_⟩
     have w3:Same (vw H2 hid2) (vw H3 hid2):=aV s3
     dsimp only at q2;cases e4:tb ρ2 with
     |nx ρ5=>rw[e4] at q2;exact λσ' H' hid' z w=>⟨hid',ρ5,z,EndOk.mono q2 (w3.trans w)⟩
     |ct ρ5=>rw[e4] at q2;exact λσ' H' hid' z w=>⟨hid',ρ5,z,EndOk.mono q2 (w3.trans w)⟩
     |bk ρ5=>rw[e4] at q2;exact λσ' H' hid' z w=>q2 σ' H' hid' z (w3.trans w)
     |rt d ρ5=>rw[e4] at q2;exact q2
     |no=>rw[e4] at q2;exact q2.elim
end
def fO(n:Nat)(ds:List D):aJ:=ds.map Sl.v++K1 (n-ds.length) .no
def gr(kd:Kd)(n:Nat)(t:FS)(ds:List D):Option D:=match t (fO n ds) with
 | .rt d _=>some d
 | .nx _=>(match kd with
   | .n=>none
   |_=>some .non)
 |_=>none
def rB(n:Nat)(bs ds:List D):aJ:=.arg bs::(ds.map Sl.v++K1 (n-1-ds.length) .no)
def qw:aJ->Option (List D)
 | .arg bs::_=>some bs
 |_=>none
def vY(kd:Kd)(n:Nat)(t:FS)(bs ds:List D):Option (D×List D):=match t (rB n bs ds) with
 | .rt d ρ=>(qw ρ).map λb=>(d,b)
 | .nx ρ=>(match kd with
   | .n=>none
   |_=>(qw ρ).map λb=>(.non,b))
 |_=>none
theorem A0 {K:K7}{c:Ct}{hid:cj}{H:Hp}(m:Nat): ∀ {vs:List V} {ds:List D},Reps K (vw H hid) vs ds-> ∀(i:Nat) (s:Sl),(ds.map Sl.v++K1 m .no)[i]? =some s->SlOk K c hid (vs.map some++K1 m none) H i s:=by
 intro vs ds r i s e;have hl:=r.length
 by_cases hi:i<ds.length
 ·rw[LG (by simpa using hi),Ln] at e
  have e2:ds[i]? =some ds[i]:=K0 hi
  rw[e2] at e;cases e
  obtain⟨x,h1,h2⟩:=r.get e2
  exact⟨x,by rw[LG (by simp;omega),Ln,h1];rfl,h2⟩
 ·rw[LQ (by simpa using hi),LV] at e
  split at e
  ·cases e;trivial
  ·cases e
theorem FR {ds:List D}{m i:Nat}: ¬Ow (ds.map Sl.v++K1 m Sl.no)[i]? :=λo=>by
 by_cases hi:i<ds.length
 ·rw[LG (by simpa using hi),Ln,K0 hi] at o
  exact o
 ·rw[LQ (by simpa using hi),LV] at o
  split at o<;>exact o
theorem SR.begins {K:K7}{hid:cj}{H:Hp}{N:List Str}{vs:List V}{ds:List D}(tr:Hy hid H)(r:Reps K (vw H hid) vs ds):SR K ⟨H,hid,λ_=>false⟩ hid (fO N.length ds) (start N vs) H:=by
 have hl:=r.length
 unfold start fO;rw[hl];exact⟨tr.1,tr.2,λ_ h=>h,λ_ _ h _=>h,λb o h=>⟨o,h⟩,tr.1,(λ_ h=>nomatch h),by simp[hl],λi s e=>A0 _ r i s e,λi j a _ o=>absurd o FR⟩
section
variable {P:LB}{w:L1}{K:K7}{mg:Str->Option KU}{base:Heap}{x qual:Str}{st:Stmt}{f:Addr}{fd:M5}{N ps:List Str}{k:Nat}{t:FS}{kd:Kd}
theorem yN(F:Fun K x qual st f fd)(S:FnScope N ps (aq st))(hkd:kd≠ .b)
 (body: ∀(cdv:KU) (A:LC) (outer:List Env) (s:KZ) (H:Hp) (hid:cj) (E:XK),Room k (A.deeper (NF qual (aq st) s.heap.objs.size f cdv))->
   vV (o9 ur P w K mg base N qual (aq st) f cdv A outer s H E).nox ⟨H,hid,λ_=>false⟩ kd (aK st) t):
 FnOk P w K mg base ur (k+1) f fd ps (dS K kd ps.length (gr kd N.length t)):=by
 refine F.ok S (λvs H Q E h=>?_) (λcdv A outer s H vs Q E hr h=>?_)
 ·obtain⟨hid,ds,_,r,hl,_⟩:=h
  rw[r.length,hl]
 ·obtain⟨hid,ds,tr,r,hl,d,hP,q⟩:=h
  refine⟨_,body cdv A outer s H hid E hr (fO N.length ds),hid,SR.begins tr r,?_⟩
  unfold gr at hP;cases e:t (fO N.length ds) with
  |nx ρ=>
   rw[e] at hP;intro σ' H' hid' sr _;have sm:Same H H':=λb o z=>sr.kp b o z rfl
   cases kd with
   |b=>exact absurd rfl hkd
   |s=>cases hP;exact q _ H' sm .non
   |n=>cases hP
  |rt d' ρ=>
   rw[e] at hP;cases hP
   intro v H' R;have sm:Same H H':=λb o z=>R.kp b o z rfl
   cases kd with
   |b=>exact absurd rfl hkd
   |s=>exact q v H' sm R.val
   |n=>exact q v H' sm R.val
  |bk ρ=>rw[e] at hP;cases hP
  |ct ρ=>rw[e] at hP;cases hP
  |no=>rw[e] at hP;cases hP
theorem SR.beginsE {hid:cj}{H:Hp}{a:Addr}{xs us:List V}{bs ds:List D}(tr:Hy hid H)(ha:hid a=true)(hx:H a=some (.lst xs))(rb:Reps K (vw H hid) xs bs)(r:Reps K (vw H hid) us ds)(hN:0<N.length):
 SR K ⟨H,hid,λb=>decide (b=a)⟩ hid (rB N.length bs ds) (start N (.ref a::us)) H:=by
 have hl:=r.length
 have es:start N (.ref a::us)=some (V.ref a)::(us.map some++K1 (N.length-1-ds.length) none):=by
  unfold start;rw[Lf,List.cons_append,LM,hl];congr 3
  omega
 rw[es];unfold rB;refine⟨tr.1,tr.2,λ_ h=>h,λ_ _ h _=>h,λb o h=>⟨o,h⟩,tr.1,λb h=>?_,by simp[hl],λi s e=>?_,λi j z n o1 o2 q1 q2=>?_⟩
 ·have:b=a:=by simpa using h
  rw[this];exact ha
 ·cases i with
  |zero=>
   cases e
   exact⟨a,xs,rfl,hx,ha,by simp,rb⟩
  |succ i=>
   have z:=A0 (c:=⟨H,hid,λb=>decide (b=a)⟩) (N.length-1-ds.length) r i s (by simpa using e)
   cases s with
   |no=>trivial
   |v d=>obtain⟨x,h1,h2⟩:=z;exact⟨x,by simpa using h1,h2⟩
   |own ds=>obtain⟨x,xs,h1,h2⟩:=z;exact⟨x,xs,by simpa using h1,h2⟩
   |arg ds=>obtain⟨x,xs,h1,h2⟩:=z;exact⟨x,xs,by simpa using h1,h2⟩
   |ob b=>obtain⟨x,h1,h2⟩:=z;exact⟨x,by simpa using h1,h2⟩
 ·cases i with
  |zero=>
   cases j with
   |zero=>exact n rfl
   |succ j=>exact FR (by simpa using o2)
  |succ i=>exact FR (by simpa using o1)
theorem y6 {ρ:aJ}{b:List D}(h:qw ρ=some b):ρ[0]? =some (.arg b):=by
 unfold qw at h;split at h
 ·cases h;rfl
 ·cases h
theorem Hd {n:Nat}(F:Fun K x qual st f fd)(S:FnScope N ps (aq st))(hkd:kd≠ .b)(hn:ps.length=n+1)
 (body: ∀(cdv:KU) (A:LC) (outer:List Env) (s:KZ) (H:Hp) (hid:cj) (a:Addr) (E:XK),Room k (A.deeper (NF qual (aq st) s.heap.objs.size f cdv))->
   vV (o9 ur P w K mg base N qual (aq st) f cdv A outer s H E).nox ⟨H,hid,λb=>decide (b=a)⟩ kd (aK st) t):
 FnOk P w K mg base ur (k+1) f fd ps (vX K kd n (vY kd N.length t)):=by
 refine F.ok S (λvs H Q E h=>?_) (λcdv A outer s H vs Q E hr h=>?_)
 ·obtain⟨hid,a,xs,bs,us,ds,rfl,_,_,_,_,r,hl,_⟩:=h
  rw[LM,r.length,hl,hn]
 ·obtain⟨hid,a,xs,bs,us,ds,rfl,tr,ha,hx,rb,r,hl,d,bs',hM,q⟩:=h
  have hN:0<N.length:=by have:=congrArg OC S.pre;rw[Nt] at this;omega
  refine⟨_,body cdv A outer s H hid a E hr (rB N.length bs ds),hid,SR.beginsE tr ha hx rb r hN,?_⟩
  have fin: ∀(v:V) (H':Hp) (ρ:aJ) (d:D),Ret K ⟨H,hid,λb=>decide (b=a)⟩ kd ρ H' v d->qw ρ=some bs'->(∀v H' xs',(∀b o,H b=some o->b≠a->H' b=some o)->H' a=some (.lst xs')->Ic K kd hid H H' v d xs' bs'->Q v H')->Q v H':=by
   intro v H' ρ d R h0 q;obtain⟨a',xs',m1,m2,m3⟩:=R.arg 0 _ (y6 h0)
   have:a'=a:=by simpa using m1
   subst this;refine q v H' xs' (λb o z n=>R.kp b o z (by simpa using n)) m2 ?_
   cases kd with
   |b=>exact absurd rfl hkd
   |s=>exact⟨R.val,m3⟩
   |n=>
    obtain⟨p,ys,es,rfl,rfl,h1,h2,h3⟩:=R.val
    exact⟨p,ys,es,rfl,rfl,h1,h2,h3,m3⟩
  unfold vY at hM;cases e:t (rB N.length bs ds) with
  |nx ρ=>
   rw[e] at hM;intro σ' H' hid' sr _;cases kd with
   |b=>exact absurd rfl hkd
   |s=>
    dsimp only at hM;cases e0:qw ρ with
    |none=>rw[e0] at hM;cases hM
    |some b=>
     rw[e0] at hM;cases hM;exact fin .non H' ρ .non (Bx (k:=.s) (by decide) (sr.post (k:=.s) (Same.refl _) .non (by decide)) sr.h0) e0 q
   |n=>cases hM
  |rt d' ρ=>
   rw[e] at hM;dsimp only at hM;cases e0:qw ρ with
   |none=>rw[e0] at hM;cases hM
   |some b=>
    rw[e0] at hM;cases hM;intro v H' R;exact fin v H' ρ _ R e0 q
  |bk ρ=>rw[e] at hM;cases hM
  |ct ρ=>rw[e] at hM;cases hM
  |no=>rw[e] at hM;cases hM
end
def xE(K:K7):Sp:=λvs H Q _=> ∃(a:Addr) (ns:List Int),vs=[.ref a]/\SqR K H a (ns.map V.int)/\ns.length<=63/\ ∀H',Q (.bl true) H'
theorem sM {K:K7}{F:Hp}: ∀ns:List Int,Reps K F (ns.map V.int) (ns.map D.int)
 | []=>.nil
 |_::r=>.cons .int (sM r)
theorem Gg {P:LB}{w:L1}{K:K7}{mg:Str->Option KU}{base:Heap}{f:Addr}{fd:M5}{x:Str}{k:Nat}{M:List D->Option D}(F:FnOk P w K mg base ur k f fd [x] (dS K .s 1 M))(hM: ∀ns:List Int,ns.length<=63->M [.scr (ns.map D.int)]=some (.bl true)):
 FnOk P w K mg base ur k f fd [x] (xE K):=F.imp λvs H Q E hq_=>by
 obtain⟨a,ns,e,hS,hl,q⟩:=hq_
 subst e;have hv:vw H (λ_=>false)=H:=by funext b;unfold vw;simp
 refine⟨λ_=>false,[.scr (ns.map D.int)],⟨(λb h=>nomatch h),(λb xs h=>nomatch h)⟩,?_,rfl,.bl true,hM ns hl,λv H' _ r=>?_⟩
 ·rw[hv];exact .cons (.scr hS (sM ns)) .nil
 ·cases r;exact q H'
theorem walkD {l:SQ}{k:Nat}{x:Str}{q:LB}{loose:List Str}{XP:(Str->Option KU)->Heap->Prop}{YP:L1->Heap->Prop}{d:DefRec}{K:Wc->K7}(hn:l.most=some 63)(hdf:d.params.defaults=[])(hr:Room k Pp)
 (hY: ∀(w:L1) (h:Heap),YP w h->(K w.params).In h)
 (F: ∀(w:L1) (mg:Str->Option KU) (fa:Addr) (h:Heap),(K w.params).In h->h.Ns K8 mg->mg d.name=some (.ref fa)->
   ∃fd:M5,(∀(s:KZ) (u:KU),QO s fd ⟨[u],[]⟩ [(x,u)])/\ ∀base:Heap,(K w.params).In base->base.Ns K8 mg->FnOk l.prog w (K w.params) mg base ur k fa fd [x] (xE (K w.params))):
 W.WalkO q loose XP YP l.row.toRowW d [] (λf vs=>RV f vs):=
 L2.walk_of (n:=63) (k:=k) (x:=x) (CX:=λ_=>ur) (sp:=λw=>xE (K w.params)) hn (by decide) hdf hr hY F (λ_ H a ns hl hO hS=>⟨a,ns,rfl,hS.elim (λr=>r.elim (λe=>by rcases hO a with z|⟨o,xs,z⟩<;>rw[z] at e<;>cases e) .inl) .inr,hl,λ_=>rfl⟩) λ_ _ _ _ _ z=>z
def tm(cells:List (Str×Addr)):List (Str×M6)->List (Str×Addr)->List (Str×Addr)
 | [],acc=>acc
 |(n,k)::r,acc=>tm cells r (if k== .free then(match cells.lookup n with
  |some c=>(n,c)::acc
  |none=>acc) else acc)
theorem ua {cells:List (Str×Addr)}: ∀ {names:List (Str×M6)} {acc:List (Str×Addr)},(∀p∈acc,cells.lookup p.1=some p.2)-> ∀p∈tm cells names acc,cells.lookup p.1=some p.2
 | [],acc,h,p,hp=>h p hp
 |(n,k)::r,acc,h,p,hp=>by
  refine ua (names:=r) ?_ p hp
  intro q hq;split at hq
  ·split at hq
   ·rename_i c e
    rcases Ll.mp hq with rfl|hq
    ·exact e
    ·exact h q hq
   ·exact h q hq
  ·exact h q hq
theorem vU {cells:List (Str×Addr)}: ∀ {names:List (Str×M6)} {acc:List (Str×Addr)} (p:Str×Addr),p∈tm cells names acc->p∈acc\/(p.1,MJ)∈names
 | [],acc,p,hp=>.inl hp
 |(n,k)::r,acc,p,hp=>by
  rcases vU (names:=r) p hp with hq|hq
  ·split at hq
   ·rename_i ek
    split at hq
    ·rcases Ll.mp hq with e|hq
     ·subst e
      have:k=.free:=by simpa using ek
      subst this;exact .inr Lu
     ·exact .inl hq
    ·exact .inl hq
   ·exact .inl hq
  ·exact .inr (Lb _ hq)
theorem vK {cells:List (Str×Addr)}: ∀ {names:List (Str×M6)} {acc:List (Str×Addr)} {p:Str×Addr},p∈acc->p∈tm cells names acc
 | [],acc,p,h=>h
 |(n,k)::r,acc,p,h=>by
  refine vK (names:=r) ?_
  split
  ·split
   ·exact Lb _ h
   ·exact h
  ·exact h
theorem xw {cells:List (Str×Addr)}{x:Str}{c:Addr}(hc:cells.lookup x=some c): ∀ {names:List (Str×M6)} {acc:List (Str×Addr)},(x,MJ)∈names->(x,c)∈tm cells names acc
 | [],_,h=>nomatch h
 |(n,k)::r,acc,h=>by
  rcases Ll.mp h with e|h
  ·cases e
   refine vK (names:=r) ?_
   rw[if_pos (by rfl),hc]
   exact Lu
  ·exact xw hc (names:=r) h
theorem rT {l:List (Str×Addr)}{x:Str}{c:Addr}(h:(x,c)∈l)(u: ∀p∈l,p.1=x->p.2=c):l.lookup x=some c:=by
 induction l with
 |nil=>exact nomatch h
 |cons p r ih=>
  obtain⟨n,a⟩:=p
  rw[Nc];cases e:x==n with
  |true=>
   have e':x=n:=eq_of_beq e
   have:=u (n,a) Lu e'.symm
   simpa using this
  |false=>
   have ne:x≠n:=λe'=>by rw[e'] at e;simp at e
   rcases Ll.mp h with e'|h
   ·cases e';exact absurd rfl ne
   ·exact ih h λp hp=>u p (Lb _ hp)
theorem wd {cells:List (Str×Addr)}{names:List (Str×M6)}{x:Str}{c:Addr}(h:(tm cells names []).lookup x=some c):cells.lookup x=some c:=
 ua (names:=names) (acc:=[]) (λ_ z=>nomatch z) (x,c) (LZ h)
theorem pq {cells:List (Str×Addr)}{names:List (Str×M6)}{x:Str}{c:Addr}(hc:cells.lookup x=some c)(hf:(x,MJ)∈names):(tm cells names []).lookup x=some c:=
 rT (xw hc hf) λp hp e=>by
  have:=ua (names:=names) (acc:=[]) (λ_ z=>nomatch z) p hp
  rw[e,hc] at this;exact(LH this).symm
theorem fx {scope:MI}{env:Env}(h: ∀x,(x,MJ)∈scope.names-> ∃c,env.cells.lookup x=some c):closureFor scope env=pure (tm env.cells scope.names []):=by
 unfold closureFor;have key: ∀(names:List (Str×M6)) (acc:List (Str×Addr)),(∀x,(x,MJ)∈names-> ∃c,env.cells.lookup x=some c)->
  (forIn names acc (λ(p:Str×M6) (r:List (Str×Addr))=>match p with
    |(name,kind)=>if(kind==MJ)=true then do
       let __do_lift <-cellOf env name
       pure (ForInStep.yield ((name,__do_lift)::r)) else pure (ForInStep.yield r)):Sem (List (Str×Addr)))=pure (tm env.cells names acc):=by
  intro names
  induction names with
  |nil=>intro acc _;rfl
  |cons p r ih=>
   intro acc h;obtain⟨n,k⟩:=p
   rw[PB];have hr: ∀x,(x,MJ)∈r-> ∃c,env.cells.lookup x=some c:=λx hx=>h x (Lb _ hx)
   cases e:k==MJ with
   |false=>
    simp only[e,N4,if_false,pure_bind];rw[ih acc hr]
    conv=>rhs;unfold tm
    simp[e]
   |true=>
    have ek:k=.free:=by simpa using e
    subst ek;obtain⟨c,hc⟩:=h n Lu
    have ec:cellOf env n=pure c:=by unfold cellOf;rw[hc]
    simp only[beq_self_eq_true,if_true,ec,pure_bind];rw[ih _ hr]
    conv=>rhs;unfold tm
    simp[hc]
 have:=key scope.names [] h
 simp only[this,pure_bind]
theorem kM {sc:MI}{env:Env}{x:Str}{k:M6}(h:(Od sc env).names.lookup x=some k): ∃k0,sc.names.lookup x=some k0/\(k=k0\/(k0=.free/\k=.cell)):=by
 unfold Od at h;dsimp only at h
 generalize sc.names=l at h⊢
 induction l with
 |nil=>simp at h
 |cons p r ih=>
  obtain⟨n,k1⟩:=p
  rw[Lf] at h;dsimp only at h;rw[Nc];cases hx:x==n with
  |true=>
   refine⟨k1,rfl,?_⟩
   split at h
   ·rename_i hc
    rw[Nc] at h;simp only[hx] at h;cases h
    have:k1=.free:=by
     simp only[Lk] at hc;exact eq_of_beq hc.1.1
    exact .inr ⟨this,rfl⟩
   ·rw[Nc] at h
    simp only[hx] at h;cases h
    exact .inl rfl
  |false=>
   split at h
   ·rw[Nc] at h;simp only[hx] at h;exact ih h
   ·rw[Nc] at h;simp only[hx] at h;exact ih h
def oO(cells:List (Str×Addr))(scope:MI)(C:Addr):List (Str×Addr):=MN (C+1) scope.names (tm cells scope.names [])
theorem cu: ∀(names:List (Str×M6)) (n:Nat) (acc:List (Str×Addr)),MN n names acc=MN n names []++acc
 | [],_,_=>rfl
 |(name,kind)::r,n,acc=>by
  unfold MN;split
  ·rw[cu r (n+1) ((name,n)::acc),cu r (n+1) [(name,n)],Oe];rfl
  ·exact cu r n acc
theorem tq: ∀ {names:List (Str×M6)} {n:Nat} {p:Str×Addr},p∈MN n names []->(p.1,NE)∈names
 | [],_,_,h=>nomatch h
 |(name,kind)::r,n,p,h=>by
  unfold MN at h;split at h
  ·rename_i hk
   have hk':kind=.cell:=by simpa using hk
   subst hk';rw[cu] at h;rcases NW.mp h with h|h
   ·exact Lb _ (tq h)
   ·rw[L3.mp h];exact Lu
  ·exact Lb _ (tq h)
theorem oV: ∀ {names:List (Str×M6)} {n:Nat} {x:Str},(x,NE)∈names-> ∃c,(x,c)∈MN n names []
 | [],_,_,h=>nomatch h
 |(name,kind)::r,n,x,h=>by
  unfold MN;rcases Ll.mp h with e|h
  ·cases e
   rw[if_pos (by rfl),cu]
   exact⟨n,Lx _ Lu⟩
  ·split
   ·obtain⟨c,hc⟩:=oV (n:=n+1) h
    rw[cu];exact⟨c,Mi _ hc⟩
   ·exact oV h
theorem wK {l:List (Str×Addr)}{x:Str}{c:Addr}(h:(x,c)∈l): ∃c',l.lookup x=some c':=by
 induction l with
 |nil=>exact nomatch h
 |cons p r ih=>
  obtain⟨n,a⟩:=p
  rw[Nc];cases e:x==n with
  |true=>exact⟨a,rfl⟩
  |false=>
   rcases Ll.mp h with e'|h
   ·cases e';simp at e
   ·exact ih h
theorem hX {cells:List (Str×Addr)}{sc:MI}{C:Addr}{x:Str}{c:Addr}(h:(oO cells sc C).lookup x=some c):(x,c)∈MN (C+1) sc.names []\/(tm cells sc.names []).lookup x=some c:=by
 unfold oO at h;rw[cu,OR] at h;cases e:(MN (C+1) sc.names []).lookup x with
 |none=>rw[e] at h;exact .inr h
 |some c'=>rw[e] at h;cases h;exact .inl (LZ e)
theorem AV {cells:List (Str×Addr)}{sc:MI}{C:Addr}{x:Str}(h:(x,NE)∈sc.names): ∃c,(oO cells sc C).lookup x=some c:=by
 obtain⟨c,hc⟩:=oV (n:=C+1) h
 obtain⟨c',e⟩:=wK hc
 exact⟨c',by unfold oO;rw[cu,OR,e];rfl⟩
theorem vR {cells:List (Str×Addr)}{sc:MI}{C:Addr}{x:Str}(h:(x,NE)∉sc.names):(oO cells sc C).lookup x=(tm cells sc.names []).lookup x:=by
 unfold oO;rw[cu,OR];cases e:(MN (C+1) sc.names []).lookup x with
 |none=>rfl
 |some c'=>exact absurd (tq (LZ e)) h
theorem tu {M:Ro}{A:LC}{E:KU->KZ->Prop}{s:KZ}{scope:MI}{globals:Addr}{closure:List (Str×Addr)}{qual:Str}{outer:Env}{Q:Env->KZ->Prop}
 (hQ: ∀h',h'.Ns s.heap.objs.size (λ_=>none)->(∀b o,s.heap.get? b=some o->h'.get? b=some o)->CellsOk h' (s.heap.objs.size+1) (MN (s.heap.objs.size+1) scope.names [])->
   Q (newEnv scope s.heap.objs.size globals (MN (s.heap.objs.size+1) scope.names closure) qual none .none (some outer) QB) {s with heap:=h',toks:=s.toks}):
 Lq M A (Of scope globals closure [] qual none .none (some outer)) Q E s:=by
 simp only[Of,QE,if_true];refine KY (wpAny_alloc ?_)
 refine KY (wpAny_layCells _ (λname kind cells=>by cases hkc:kind==NE<;>simp[hkc]) _ _ _ _ ?_)
 have ok:=cellsFrom_ok scope.names (s.heap.push {cls:=.type "dict",data:=.dict #[]}) (s.heap.objs.size+1) [] ⟨λ_ _ hm=>(nomatch hm),QW⟩ (by rw[Mr];exact Ld _)
 rw[Mr] at ok;rw[show({s with heap:=s.heap.push {cls:=.type "dict",data:=.dict #[]}}:KZ).heap.objs.size=s.heap.objs.size+1 from Mr ..]
 rw[List.forIn_nil];refine KY (Lc (Lc ?_))
 exact hQ _ ((Heap.Ns.new s.heap (.type "dict")).keeps (Rx _ _)) (λb o e=>Rx _ _ b o (K3 _ e)) ok
def aE(X:Cx)(N':List Str)(scope:MI)(C:Addr)(s₀:KZ)(H₀:Hp)(ex:List Addr):Cx where
 prog:=X.prog
 w:=X.w
 K:=X.K
 mg:=X.mg
 base:=X.base
 A:=X.A
 N:=N'
 s₀:=s₀
 H₀:=H₀
 env:=Pe scope (oO X.env.cells scope C) C X.env
 outer:=X.stack
 stack:=X.stack
 ex:=ex
 fn:=λx=>scope.names.lookup x==some .local||scope.names.lookup x==some .cell
 calm:=X.calm
 pn:=[]
 xe:=λ_ _=>False
def uq(N N':List Str)(sc:MI):Bool:=
 decide (N.length<=N'.length)&&((N'.take N.length).zip N).all (λp=>(p.1==p.2&& !(sc.names.lookup p.1==some .local)&& !(sc.names.lookup p.1==some .cell))||(sc.names.lookup p.1).isNone)&&
  (N'.drop N.length).all λx=>sc.names.lookup x==some .local||sc.names.lookup x==some .cell
def um(sc:MI)(outer:MI):Bool:=
 sc.names.all λy=>(y.2 != .cell||sc.names.lookup y.1==some .cell)&&(y.2 != .local||sc.names.lookup y.1==some .local)&&(y.2 != .free||(sc.names.lookup y.1==some .free&&(outer.names.lookup y.1==some .cell||outer.names.lookup y.1==some .free)))
theorem vz {sc o:MI}(h:um sc o=true): ∀y∈sc.names,y.2=.cell->sc.names.lookup y.1=some .cell:=λy hy e=>by
 have:=Nu.mp h y hy
 simpa [e] using this
theorem kJ {sc o:MI}(h:um sc o=true): ∀y∈sc.names,y.2=.local->sc.names.lookup y.1=some .local:=λy hy e=>by
 have:=Nu.mp h y hy
 simpa [e] using this
theorem jr {sc o:MI}(h:um sc o=true): ∀x,(x,MJ)∈sc.names->o.names.lookup x=some .cell\/o.names.lookup x=some .free:=λx hx=>by
 have:=Nu.mp h _ hx
 simpa using (by simpa using this:_/\_).2
theorem sJ {sc o:MI}(h:um sc o=true): ∀x,(x,MJ)∈sc.names->sc.names.lookup x=some .free:=λx hx=>by
 have:=Nu.mp h _ hx
 simpa using (by simpa using this:_/\_).1
theorem zc {N N':List Str}{sc:MI}(h:uq N N' sc=true){i:Nat}{x:Str}(hi:i<N.length)(e:N'[i]? =some x)(hv: ∃k,sc.names.lookup x=some k/\(k=.local\/k=.cell\/k=.free)):N[i]? =some x/\sc.names.lookup x=some .free:=by
 unfold uq at h;simp only[Lk,decide_eq_true_eq] at h;obtain⟨⟨h1,h2⟩,_⟩:=h
 have hN:N[i]? =some N[i]:=K0 hi
 have e1:(N'.take N.length)[i]? =some x:=by rw[NU hi];exact e
 have hm:(x,N[i])∈(N'.take N.length).zip N:=by
  refine OD (i:=i) ?_
  rw[List.getElem?_zip_eq_some];exact⟨e1,hN⟩
 have:=Nu.mp h2 _ hm
 obtain⟨k,hk,hk2⟩:=hv
 dsimp only at this;rw[hk] at this;simp only[Option.isNone_some,Oz,Lk,M0] at this;obtain⟨⟨t1,t2⟩,t3⟩:=this
 have ex:x=N[i]:=eq_of_beq t1
 rcases hk2 with rfl|rfl|rfl
 ·simp at t2
 ·simp at t3
 ·exact⟨by rw[hN,<-ex],hk⟩
theorem Er {N N':List Str}{sc:MI}(h:uq N N' sc=true):N.length<=N'.length:=by
 unfold uq at h;simp only[Lk,decide_eq_true_eq] at h;exact h.1.1
section
variable {X:Cx}{af:List (Addr×Obj)}{σ:St}{H:Hp}{s:KZ}{scope:MI}{N':List Str}{fp:List Addr}
theorem zt(I:Inv X af σ H s){b:Addr}(f:kf X af H b):b∉kj X.stack:=λz=>by
 rcases Ll.mp (I.stkSub b z) with e|z
 ·exact f.2.1 e
 ·exact f.2.2.1 z
theorem qj {h':Heap}{tk:Nat}(I:Inv X af σ H s)(hF: ∀b∈fp,kf X af H b)(hO: ∀b∈fp,∃o,s.heap.get? b=some o)(hk:scope.kind=.function)(hs:um scope X.env.scope=true)(hn:uq X.N N' scope=true)
 (ns:h'.Ns s.heap.objs.size λ_=>none) (kp: ∀b o,s.heap.get? b=some o->h'.get? b=some o) (oc:CellsOk h' (s.heap.objs.size+1) (MN (s.heap.objs.size+1) scope.names [])):
 Inv (aE X N' scope s.heap.objs.size s H fp) [] (σ++K1 (N'.length-X.N.length) none) H {s with heap:=h',toks:=tk}:=by
 have hlen:=Er hn
 have cl: ∀x c,(tm X.env.cells scope.names []).lookup x=some c->X.env.cells.lookup x=some c:=λx c e=>wd e
 have clt: ∀x c,(tm X.env.cells scope.names []).lookup x=some c->c<s.heap.objs.size:=λx c e=>let⟨_,z⟩:=I.cell x c (cl x c e);z.lt
 have newC:H s.heap.objs.size=none:=I.hok.fresh (Ld _)
 refine⟨⟨I.ok.mod,hk,I.ok.glob,I.ok.blt,Ld _,λx y c h1 h2=>?_,λx hx=>?_,λx c h1 h2=>?_,I.ok.hd,I.ok.frames,.inl rfl,λb hb=>⟨?_,λx c e=>?_⟩,I.bs,LW I.ok.bsz I.sz,λb o e hb=>?_,λb hb=>zt I (hF b hb),I.stack,I.stkFree⟩,
  rfl,I.bare,Un.kept kp,⟨_,ns,λi x v e1 e2 e3=>?_⟩,λx c e=>?_,newC,λx c e=>?_,λp hp=>absurd (show p∈([]:List (Addr×Obj)) from hp) (by simp),I.hok.kept kp,?_⟩
 ·
  rcases hX h1 with h1|h1<;>rcases hX h2 with h2|h2
  ·exact name_of_addr oc.apart h1 h2
  ·exact absurd (clt y c h2) (M3.mpr (NK (oc.empty _ _ h1).2))
  ·exact absurd (clt x c h1) (M3.mpr (NK (oc.empty _ _ h2).2))
  ·exact I.ok.inj x y c (cl x c h1) (cl y c h2)
 ·
  have hx':(Od scope X.env).names.lookup x=some .cell\/(Od scope X.env).names.lookup x=some .free:=hx
  have:(x,NE)∈scope.names\/(x,MJ)∈scope.names:=by
   rcases hx' with hx'|hx'
   ·obtain⟨k0,e0,e1|⟨e1,_⟩⟩:=kM hx'
    ·subst e1;exact .inl (LZ e0)
    ·subst e1;exact .inr (LZ e0)
   ·obtain⟨k0,e0,e1|⟨_,e1⟩⟩:=kM hx'
    ·subst e1;exact .inr (LZ e0)
    ·cases e1
  rcases this with this|this
  ·exact AV this
  ·have hc:=jr hs x this
   obtain⟨c,e⟩:=I.ok.has x hc
   exact⟨c,(vR λz=>by have z1:=vz hs _ z rfl;have z2:=sJ hs x this;rw[z2] at z1;cases z1).trans (pq e this)⟩
 ·
  have h1':scope.names.lookup x=some .local\/scope.names.lookup x=some .cell:=by
   have h1:(scope.names.lookup x==some .local||scope.names.lookup x==some .cell)=true:=h1
   simpa using h1
  rcases hX h2 with h2|h2
  ·exact NK (oc.empty _ _ h2).2
  ·exfalso
   rcases vU _ (LZ h2) with z|z
   ·exact nomatch z
   ·rw[sJ hs x z] at h1';rcases h1' with h1'|h1'<;>cases h1'
 ·obtain⟨o,e⟩:=hO b hb
  exact LF (Lh e)
 ·rcases hX e with e|e
  ·obtain⟨o,e'⟩:=hO b hb
   exact λz=>absurd (Lh e') (M3.mpr (z▸NK (oc.empty _ _ e).2))
  ·exact(hF b hb).2.2.2.2.1 x c (cl x c e)
 ·obtain⟨_,_,_,h4,_⟩:=hF b hb
  rcases h4 with h4|h4
  ·exact I.ok.noex b o e h4
  ·exact absurd (Li (Lh e) (LW I.ok.bsz h4)) (Np _)
 ·have hi:i<X.N.length:=by
   by_cases hi:i<σ.length
   ·rw[<-I.len];exact hi
   ·rw[LQ (by omega),LV] at e2
    split at e2<;>cases e2
  rw[LG (by rw[I.len];exact hi)] at e2
  have e3':(Od scope X.env).names.lookup x=some .local\/(Od scope X.env).names.lookup x=some .cell\/(Od scope X.env).names.lookup x=some .free:=e3
  have hv: ∃k,scope.names.lookup x=some k/\(k=.local\/k=.cell\/k=.free):=by
   rcases e3' with z|z|z
   all_goals
    obtain⟨k0,q0,q1|⟨q1,q2⟩⟩:=kM z
    ·subst q1;exact⟨_,q0,by simp⟩
    ·subst q1;exact⟨_,q0,by simp⟩
  obtain⟨hN,hf⟩:=zc hn hi e1 hv
  have hfm:=LZ hf
  have hc:=jr hs x hfm
  have nc:(x,NE)∉scope.names:=λz=>by have z1:=vz hs _ z rfl;rw[hf] at z1;cases z1
  obtain⟨m,hm,hl⟩:=I.loc
  obtain⟨u,r,l⟩:=hl i x v hN e2 (.inr hc)
  refine⟨u,r,.inr ⟨?_,?_⟩⟩
  ·show(Od scope X.env).names.lookup x=some .cell\/(Od scope X.env).names.lookup x=some .free
   rcases e3' with z|z|z
   ·obtain⟨k0,q0,q1|⟨q1,q2⟩⟩:=kM z
    ·subst q1;rw[hf] at q0;cases q0
    ·cases q2
   ·exact .inl z
   ·exact .inr z
  ·rcases l with⟨l,_⟩|⟨_,c,ec,z⟩
   ·have l':X.env.scope.names.lookup x=some .local:=l
    rcases hc with hc|hc<;>rw[hc] at l'<;>cases l'
   ·exact⟨c,(vR nc).trans (pq ec hfm),z.keeps kp⟩
 ·rcases hX e with e|e
  ·exact⟨_,(oc.empty _ _ e).1⟩
  ·obtain⟨v,z⟩:=I.cell x c (cl x c e)
   exact⟨v,z.keeps kp⟩
 ·rcases hX e with e|e
  ·exact I.hok.fresh (NK (oc.empty _ _ e).2)
  ·exact I.freeC x c (cl x c e)
 ·show(σ++_).length=N'.length
  rw[LJ,PH,I.len];omega
end
def JC(K:K7)(c:Ct)(hid:cj)(f:FA)(ρ:aJ):TI:=λσ H R=>SR K c hid ρ σ H/\ ∃ds,f ρ=some ds/\ ∀J H',Same H H'->ItOk K (vw H' hid) J ds->R J H'
def DIp(X:Cx)(c:Ct)(tg iter:Expr)(f:FA):Prop:= ∀hid ρ,PI X tg iter (JC X.K c hid f ρ)
def IA {ι:Type}(IR:Hp->V->ι->Prop)(L W:Hp)(J:It)(ds:List ι):Prop:=
 (∀(i:Nat) (d:ι) (H:Hp),ds[i]? =some d->Same L H->Same W H->J.go i H/\ ∀x H',J.yld i H x H'->Same H H'/\ ∀hid:cj,(∀b,hid b=true-> ∃o,H b=some o)->Same W (vw H hid)->IR (vw H' hid) x d)/\ ∀H,Same L H->Same W H->J.stop ds.length H
abbrev Em(K:K7)(L W:Hp)(J:It)(ds:List D):Prop:=IA (Rep K) L W J ds
theorem ItOk.b {K:K7}{L W:Hp}{J:It}{ds:List D}(h:ItOk K W J ds):Em K L W J ds:=⟨λi d H e _ w=>h.1 i d H e w,λH _ w=>h.2 H w⟩
def Ki {ι:Type}(IR:Hp->V->ι->Prop)(K:K7)(c:Ct)(hid:cj)(f:aJ->Option (List ι))(ρ:aJ):TI:=λσ H R=>SR K c hid ρ σ H/\ ∃ds,f ρ=some ds/\ ∀J H',Same H H'->IA IR H' (vw H' hid) J ds->R J H'
def Km {ι:Type}(IR:Hp->V->ι->Prop)(X:Cx)(c:Ct)(tg iter:Expr)(f:aJ->Option (List ι)):Prop:= ∀hid ρ,PI X tg iter (Ki IR X.K c hid f ρ)
abbrev BJ(X:Cx)(c:Ct)(tg iter:Expr)(f:FA):Prop:=Km (Rep X.K) X c tg iter f
section
variable {X:Cx}{c:Ct}{k:Kd}{tg iter:Expr}{pos:Pos}
theorem DIp.b {f:FA}(h:DIp X c tg iter f):BJ X c tg iter f:=λhid ρ=>PI.imp (h hid ρ) λσ H R ⟨sr,ds,e,q⟩=>⟨sr,ds,e,λJ H' s io=>q J H' s io.b⟩
theorem DIp.e {f:FA}(h:DIp X c tg iter f):DI X c tg iter (dU f):=λhid ρ=>PI.imp (h hid ρ) λσ H R hq_=>by
 obtain⟨sr,ds,ρ',e,q⟩:=hq_
 obtain⟨e1,rfl⟩:=u8 e
 exact⟨sr,ds,e1,λJ H' s io=>q J H' (.of s) (sr.ext s) io⟩
def oY(f:FE):FA:=λρ=>(f ρ).bind λd=>match d with
 | .lst ds=>some ds
 |_=>none
def D9(f:FE):FA:=λρ=>(f ρ).bind λd=>match d with
 | .tup ds=>some ds
 |_=>none
theorem sy {f:FE}{ρ:aJ}{ds:List D}(h:oY f ρ=some ds):f ρ=some (.lst ds):=by
 unfold oY at h;cases e:f ρ with
 |none=>rw[e] at h;cases h
 |some d=>
  rw[e] at h;cases d with
  |lst z=>cases h;rfl
  |_=>cases h
theorem zo {f:FE}{ρ:aJ}{ds:List D}(h:D9 f ρ=some ds):f ρ=some (.tup ds):=by
 unfold D9 at h;cases e:f ρ with
 |none=>rw[e] at h;cases h
 |some d=>
  rw[e] at h;cases d with
  |tup z=>cases h;rfl
  |_=>cases h
theorem BL {K:K7}{W:Hp}{a:Addr}{xs:List V}{ds:List D}(h1:SqL K W a xs)(h2:Reps K W xs ds):ItOk K W (JK K a) ds:=by
 refine⟨λi d H e s=>?_,λH s=>⟨_,s.seq h1,by rw[h2.length];exact Ld _⟩⟩
 obtain⟨x,e1,r1⟩:=h2.get e
 refine⟨⟨_,x,s.seq h1,e1⟩,λy H' ⟨e2,e3⟩=>?_⟩
 subst e2;have:=e3 _ (s.seq h1)
 rw[e1] at this;cases this;exact⟨Same.refl _,λhid _ sw=>r1.mono sw⟩
theorem Bi {f:FE}(h:DP X c .s iter f):DIp X c tg iter (oY f):=λhid ρ=>PI.imp (xu (h hid ρ)) λσ H R hq_=>by
 obtain⟨sr,ds,e,q⟩:=hq_
 refine⟨sr,_,sy e,λv H' s' r=>?_⟩
 cases r with
 |lst h1 h2=>have h1:=SqL.of (K:=X.K) h1;exact⟨_,rfl,⟨_,(gy _ _).seq h1⟩,q _ H' s' (BL h1 h2)⟩
theorem A2 {f:FE}(h:DP X c .b iter f):BJ X c tg iter (oY f):=λhid ρ=>PI.imp (xu (h hid ρ)) λσ H R hq_=>by
 obtain⟨sr,ds,e,q⟩:=hq_
 refine⟨sr,_,sy e,λv H' s' r=>?_⟩
 obtain⟨a,xs,rfl,h1,h2⟩:=Rep1.lst r
 refine⟨a,rfl,⟨_,h1⟩,q _ H' s' ⟨λi d H e s w=>?_,λH s w=>⟨_,s.seq h1,by rw[h2.length];exact Ld _⟩⟩⟩
 obtain⟨x,e1,r1⟩:=h2.get e
 refine⟨⟨_,x,s.seq h1,e1⟩,λy H' ⟨e2,e3⟩=>?_⟩
 subst e2;have:=e3 _ (s.seq h1)
 rw[e1] at this;cases this;exact⟨Same.refl _,λhid _ sw=>r1.mono sw⟩
theorem ER {f:FE}(h:DP X c .s iter f):DIp X c tg iter (D9 f):=λhid ρ=>PI.imp (G3 (h hid ρ)) λσ H R hq_=>by
 obtain⟨sr,ds,e,q⟩:=hq_
 refine⟨sr,_,zo e,λv H' s' r=>?_⟩
 cases r with
 |tup h1 h2=>exact⟨_,rfl,⟨_,Same.seqT (gy _ _) h1⟩,q _ H' s' (Cf h1 h2)⟩
def bz(f:FA):FA:=λρ=>(f ρ).bind λds=>match ds with
 | [.int j]=>if j.natAbs<4000000000 then some (vp 0 j.toNat) else none
 |_=>none
def po(f:FA):FA:=λρ=>(f ρ).bind λds=>match ds with
 | [.int i,.int j]=>if i.natAbs<4000000000/\j.natAbs<4000000000 then some (vp i (j-i).toNat) else none
 |_=>none
theorem bw {a:Expr}{f:FA}{p:Pos}(hm:X.mg "range"=none)(ha:DA X c [a] f)(hg:Gl X "range":=by rfl)(hs:Le [a] X.env=[(false,eval a X.env)]:=by rfl):DIp X c tg (.Call (.Name "range" p) [a] [] pos) (bz f):=λhid ρ=>
 PI.imp (zP hg hm (ha hid ρ) hs) λσ H R hq_=>by
  obtain⟨sr,ds,e,q⟩:=hq_
  unfold bz at e;cases e1:f ρ with
  |none=>rw[e1] at e;cases e
  |some z=>
   rw[e1] at e;dsimp only[Nn] at e;split at e
   ·split at e
    ·cases e
     refine⟨sr,_,e1,λvs H' s' r=>?_⟩
     cases r with
     |cons r t=>cases t;cases r;exact⟨_,rfl,by omega,by omega,q _ H' s' qv⟩
    ·cases e
   ·cases e
theorem qb {a b:Expr}{f:FA}{p:Pos}(hm:X.mg "range"=none)(ha:DA X c [a,b] f)(hg:Gl X "range":=by rfl)(hs:Le [a,b] X.env=[(false,eval a X.env),(false,eval b X.env)]:=by rfl)(hs2:Le [b] X.env=[(false,eval b X.env)]:=by rfl):DIp X c tg (.Call (.Name "range" p) [a,b] [] pos) (po f):=λhid ρ=>
 PI.imp (zI hg hm (ha hid ρ) hs hs2) λσ H R hq_=>by
  obtain⟨sr,ds,e,q⟩:=hq_
  unfold po at e;cases e1:f ρ with
  |none=>rw[e1] at e;cases e
  |some z=>
   rw[e1] at e;dsimp only[Nn] at e;split at e
   ·split at e
    ·cases e
     refine⟨sr,_,e1,λvs H' s' r=>?_⟩
     cases r with
     |cons r t=>cases t with
      |cons r' t=>cases t;cases r;cases r';exact⟨_,_,rfl,by omega,q _ H' s' qv⟩
    ·cases e
   ·cases e
def kU(ifs:List Expr)(env:Env):Sem Bool:=forIn ifs true λc r=>if r=true then do let ok <-isTrue c env (eval c env);pure (ForInStep.yield ok) else pure (ForInStep.yield r)
def pX(X:Cx)(c:Ct)(ifs:List Expr)(p:FT):Prop:= ∀hid ρ (af:List (Addr×Obj)) (s:KZ) (σ:St) (H:Hp) (Q:Bool->Hp->Prop),Inv X af σ H s->JS X.K c hid p ρ σ H Q->Lq (model X.prog X.w) X.A (kU ifs X.env) (TP X af σ Q) X.xe s
def cq:FT:=λ_=>some true
theorem cC:pX X c [] cq:=λhid ρ af s σ H Q I hq_=>by
 obtain⟨sr,d,e,q⟩:=hq_
 cases e
 exact wpAny_tests_nil ⟨H,I,q H (Same.refl _)⟩
theorem jd {e:Expr}{p:FT}(h:DT X c e p):pX X c [e] p:=λhid ρ af s σ H Q I q=>wpAny_tests_one (h hid ρ af s σ H Q I q)
end
theorem gB {prog:LB}{w:L1}{A:LC}{R:Oa->KZ->Prop}{s:KZ}{elt target iter:Expr}{ifs:List Expr}{scope:MI}{pos:Pos}{it acc:KU}{env:Env}(I:Nat->KZ->Prop)
 (turn: ∀n s,I n s->Lq (model prog w) A (OO it) (λr s₁=>match r with
   |none=>R (.ok .next) s₁
   |some v=>Lq (model prog w) A (MO target it v) (λ_ s₁=>Lq (model prog w) A (Nq target env v) (λ_ s₂=>
     Lq (model prog w) A (kU ifs env) (λok s₃=>
      if ok=true then Lq (model prog w) A (eval elt env) (λx s₄=>
       Lq (model prog w) A (call (.builtin "list.append") [acc,x]) (λ_ s₅=> ∃m,m<n/\I m s₅) (λ_ _=>False) s₄) (λ_ _=>False) s₃
      else∃m,m<n/\I m s₃) (λ_ _=>False) s₂) (λ_ _=>False) s₁) (λ_ _=>False) s₁) (λ_ _=>False) s)
 (n:Nat) (h:I n s):
 Mg (model prog w) A (.compLoop (.ListComp elt [⟨target,iter,ifs,0⟩] scope pos) 0 it acc env) R s:=by
 have no: ∀ {E':KU->KZ->Prop} (x:KU) (s:KZ),False->E' x s:=λ_ _ z=>z.elim
 refine OK rfl I (λn s hI=>?_) n h
 show Lq _ A ((OE (.ListComp elt [⟨target,iter,ifs,0⟩] scope pos) 0 it acc env).onRaise (λx=>do NQ x env;NZ x)) _ _ s
 refine O3 ?_
 rw[compTurn_list];refine KY (Mc (KY (Lv (turn n s hI) (λr s₁ h₁=>?_) no)))
 cases r with
 |none=>exact Lc h₁
 |some v=>
  refine KY (Lv h₁ (λ_ s₁ h₁=>?_) no)
  refine KY (Lv h₁ (λ_ s₂ h₂=>KY (Lv h₂ (λok s₃ h₃=>?_) no)) no)
  cases ok with
  |false=>exact Lc ⟨rfl,h₃⟩
  |true=>
   exact KY (KY (Lv h₃ (λx s₄ h₄=>KY (Lv h₄ (λ_ s₅ h₅=>Lc (Lc ⟨rfl,h₅⟩)) no)) no))
def fA {ι:Type}(g:ι->aJ->Option aJ)(p:FT)(f:FE)(ρ0:aJ):List ι->Option (List D)
 | []=>some []
 |d::r=>(g d ρ0).bind λρ1=>(p ρ1).bind λb=>if b=true then(f ρ1).bind λy=>(fA g p f ρ0 r).map (y:: ·) else fA g p f ρ0 r
def aR {ι:Type}(m:Nat)(gi:aJ->Option (List ι))(g:ι->aJ->Option aJ)(p:FT)(f:FE):FE:=λρ=>(gi ρ).bind λds=>if ds.length<=Lm then(fA g p f (ρ++K1 m .no) ds).map D.lst else none
theorem ql {ι:Type}{m:Nat}{gi:aJ->Option (List ι)}{g:ι->aJ->Option aJ}{p:FT}{f:FE}{ρ:aJ}{d:D}(h:aR m gi g p f ρ=some d): ∃ds ys,gi ρ=some ds/\ds.length<=Lm/\fA g p f (ρ++K1 m .no) ds=some ys/\d=.lst ys:=by
 unfold aR at h;cases e1:gi ρ with
 |none=>rw[e1] at h;cases h
 |some ds=>
  rw[e1] at h;dsimp only[Nn] at h;split at h
  ·cases e2:fA g p f (ρ++K1 m .no) ds with
   |none=>rw[e2] at h;cases h
   |some ys=>rw[e2] at h;cases h;exact⟨ds,ys,rfl, ‹_›,e2,rfl⟩
  ·cases h
def iV {ι:Type}(n:Nat)(g:ι->aJ->Option aJ):Prop:= ∀d (ρ0 ρ1:aJ),g d ρ0=some ρ1->ρ1.length=ρ0.length/\ ∀i:Nat,i<n->ρ1[i]? =ρ0[i]?
def yG(n:Nat)(g:uo):Prop:= ∀d (ρ0 ρ1:aJ),g d ρ0=some ρ1->ρ1.length=ρ0.length/\ ∀i:Nat,i<n->ρ1[i]? =ρ0[i]?
theorem bH {n i:Nat}(h:n<=i):iV n (gN i):=λd ρ0 ρ1 e=>by
 cases e
 exact⟨by simp,λj hj=>K9 (by omega)⟩
theorem mq {n:Nat}:yG n iC:=λd ρ0 ρ1 e=>by
 unfold iC at e;split at e
 ·cases e;exact⟨rfl,λ_ _=>rfl⟩
 ·cases e
theorem dJ {n:Nat}{g:FG}{gs:uo}(h1:iV n g)(h2:yG n gs):yG n (cA g gs):=λd ρ0 ρ1 e=>by
 cases d with
 |nil=>cases e
 |cons d ds=>
  have e:(g d ρ0).bind (λρ'=>gs ds ρ')=some ρ1:=e
  cases e1:g d ρ0 with
  |none=>rw[e1] at e;cases e
  |some ρ2=>
   rw[e1] at e;obtain⟨a1,a2⟩:=h1 d ρ0 ρ2 e1
   obtain⟨b1,b2⟩:=h2 ds ρ2 ρ1 e
   exact⟨b1.trans a1,λi hi=>(b2 i hi).trans (a2 i hi)⟩
theorem tw {n m:Nat}{gs:uo}(h:yG n gs):iV n (gT m gs):=λd ρ0 ρ1 e=>by
 unfold gT at e;split at e
 ·split at e
  ·exact h _ _ _ e
  ·cases e
 ·cases e
theorem SR.forget {K:K7}{c:Ct}{hid:cj}{ρ0 ρ1:aJ}{σ:St}{H:Hp}(h:SR K c hid ρ1 σ H)(hl:ρ1.length=ρ0.length)(hs: ∀(i:Nat) (s:Sl),ρ0[i]? =some s->s=.no\/ρ1[i]? =some s):SR K c hid ρ0 σ H:=by
 have ow: ∀i:Nat,Ow ρ0[i]? ->Ow ρ1[i]? :=λi o=>by
  cases e:ρ0[i]? with
  |none=>rw[e] at o;exact o.elim
  |some s=>
   rcases hs i s e with rfl|z
   ·rw[e] at o;exact o.elim
   ·rw[z,<-e];exact o
 refine⟨h.tr,h.ht,h.h0,h.kp,h.t0,h.c0,h.m0,h.len.trans hl,λi s e=>?_,λi j a n o1 o2=>h.ap i j a n (ow i o1) (ow j o2)⟩
 rcases hs i s e with rfl|z
 ·trivial
 ·exact h.sl i s z
theorem SR.more {K:K7}{c:Ct}{hid:cj}{ρ:aJ}{σ:St}{H:Hp}(h:SR K c hid ρ σ H)(m:Nat):SR K c hid (ρ++K1 m .no) (σ++K1 m none) H:=by
 have lt: ∀ {i:Nat},Ow (ρ++K1 m Sl.no)[i]? ->i<ρ.length:=λ{i} o=>by
  by_cases hi:i<ρ.length
  ·exact hi
  ·rw[LQ (by omega),LV] at o
   split at o<;>exact o.elim
 refine⟨h.tr,h.ht,h.h0,h.kp,h.t0,h.c0,h.m0,by simp[h.len],λi s e=>?_,λi j a n o1 o2 q1 q2=>?_⟩
 ·by_cases hi:i<ρ.length
  ·rw[LG hi] at e
   have z:=h.sl i s e
   have es:(σ++K1 m none)[i]? =σ[i]? :=LG (by rw[h.len];exact hi)
   cases s with
   |no=>trivial
   |v d=>obtain⟨x,h1,h2⟩:=z;exact⟨x,es.trans h1,h2⟩
   |own ds=>obtain⟨a,xs,h1,h2⟩:=z;exact⟨a,xs,es.trans h1,h2⟩
   |arg ds=>obtain⟨a,xs,h1,h2⟩:=z;exact⟨a,xs,es.trans h1,h2⟩
   |ob b=>obtain⟨a,h1,h2⟩:=z;exact⟨a,es.trans h1,h2⟩
  ·rw[LQ (by omega),LV] at e
   split at e
   ·cases e;trivial
   ·cases e
 ·have l1:=lt o1
  have l2:=lt o2
  rw[LG l1] at o1;rw[LG l2] at o2;rw[LG (by rw[h.len];exact l1)] at q1
  rw[LG (by rw[h.len];exact l2)] at q2
  exact h.ap i j a n o1 o2 q1 q2
section
variable {X:Cx}{c:Ct}{elt tg iter:Expr}{ifs:List Expr}{scope:MI}{pos:Pos}{N':List Str}{m:Nat}{ι:Type}{IR:Hp->V->ι->Prop}{gi:aJ->Option (List ι)}{g:ι->aJ->Option aJ}{p:FT}{f:FE}
theorem SR.write {K:K7}{hid:cj}{ρ:aJ}{σ:St}{H:Hp}{a:Addr}{o':HO}(h:SR K c hid ρ σ H)(hh:hid a=true)(h0:c.H₀ a=none)(na: ∀i:Nat,Ow ρ[i]? ->σ[i]? ≠some (some (.ref a))){o:HO}(ha:H a=some o)(hm: ∀p u,o≠ .nst p u:=by intro _ _ e;cases e)(hn: ∀xs,o'≠ .tup xs:=by intro _ e;cases e):SR K c hid ρ σ (bI H a o'):=by
 have tr': ∀b o,H b=some o-> ∃o2,(bI H a o') b=some o2:=λb o q=>by
  by_cases e:b=a
  ·subst e;exact⟨_,aP⟩
  ·exact⟨o,by rw[aF e];exact q⟩
 refine⟨λb hb=>let⟨o,q⟩:=h.tr b hb;tr' b o q,λb xs hb q=>by
  by_cases e:b=a
  ·subst e;rw[aP] at q;exact hn _ (LH q)
  ·rw[aF e] at q;exact h.ht b xs hb q,h.h0,λb o q m=>?_,λb o q=>let⟨o2,q2⟩:=h.t0 b o q;tr' b o2 q2,h.c0,h.m0,h.len,λi s e=>?_,h.ap⟩
 ·rw[aF (bT q h0)];exact h.kp b o q m
 ·have z:=h.sl i s e
  have ne: ∀a',Ow ρ[i]? ->σ[i]? =some (some (.ref a'))->a'≠a:=λa' o q w=>by subst w;exact na i o q
  cases s with
  |no=>trivial
  |v d=>obtain⟨x,h1,h2⟩:=z;exact⟨x,h1,by rw[eY hh];exact h2⟩
  |own ds=>obtain⟨a',xs,h1,h2,h3,h4,h5⟩:=z;exact⟨a',xs,h1,by rw[aF (ne a' (by rw[e];trivial) h1)];exact h2,h3,h4,by rw[eY hh];exact h5⟩
  |arg ds=>obtain⟨a',xs,h1,h2,h3,h4,h5⟩:=z;exact⟨a',xs,h1,by rw[aF (ne a' (by rw[e];trivial) h1)];exact h2,h3,h4,by rw[eY hh];exact h5⟩
  |ob b=>obtain⟨a',h1,h2⟩:=z;exact⟨a',h1,h2.mono (λow x hx o q=>by rw[aF (hx.ne (ne a' (by rw[e];exact ow) h1) ha hm)];exact q) (by rw[eY hh];exact Same.refl _) λ_ _ _ q=>q⟩
structure CLI(Y:Cx)(K:K7)(c:Ct)(hid:cj)(ρ0:aJ)(H W:Hp)(D0:Addr)(fp:List Addr)(tn:Nat->Heap->Prop){ι:Type}(g:ι->aJ->Option aJ)(p:FT)(f:FE)(ds:List ι)(ys:List D)(n i:Nat)(xs:List V)(ad:List D)(σ':St)(H':Hp)(s':KZ):Prop where
 e:n=ds.length-i
 hi:i<=ds.length
 I:Inv Y [] σ' H' s'
 st:tn i s'.heap
 fr: ∀b∈fp,H' b=none
 sr:SR K c hid ρ0 σ' H'
 sm:Same H H'
 ac:H' D0=some (.lst xs)
 rp:Reps K (vw H' hid) xs ad
 w:Same W (vw H' hid)
 hl:xs.length<=i
 na: ∀i:Nat,Ow ρ0[i]? ->σ'[i]? ≠some (some (.ref D0))
 go: ∃rest,fA g p f ρ0 (ds.drop i)=some rest/\ad++rest=ys
theorem zB(hcalm:X.calm=true)(hT:iV X.N.length g)
 (hg: ∀C s₀ H₀ ex,Jk IR (aE X N' scope C s₀ H₀ ex) c tg g) (hp: ∀C s₀ H₀ ex,pX (aE X N' scope C s₀ H₀ ex) c ifs p) (he: ∀C s₀ H₀ ex,DP (aE X N' scope C s₀ H₀ ex) c .s elt f)
 {σ3:St} {H H3:Hp} {s3 s4:KZ} {hid:cj} {ρ:aJ} {J:It} {it D0 C:Addr} {fp:List Addr} {tn:Nat->Heap->Prop} {ds:List ι} {ys:List D} {R:Oa->KZ->Prop} {W:Hp} (hρ:ρ.length=X.N.length)
 (I:Inv (aE X N' scope C s3 H3 fp) [] σ3 H3 s4) (sr:SR X.K c hid (ρ++K1 m .no) σ3 H3) (hh:hid D0=true) (h00:c.H₀ D0=none) (na: ∀i:Nat,Ow (ρ++K1 m Sl.no)[i]? ->σ3[i]? ≠some (some (.ref D0))) (hacc:H3 D0=some (.lst [])) (sm:Same H H3) (nD:H D0=none) (wv:Same W (vw H3 hid)) (T:Turn X.prog X.w X.K tg J fp it tn) (st:tn 0 s4.heap) (hF: ∀b∈fp,H3 b=none)
 (io:IA IR H W J ds) (hz:ds.length<=Lm) (hc:fA g p f (ρ++K1 m .no) ds=some ys)
 (hR: ∀(s':KZ) (σ':St) (H':Hp) (xs:List V),Inv (aE X N' scope C s3 H3 fp) [] σ' H' s'->Same H H'->H' D0=some (.lst xs)->Reps X.K (vw H' hid) xs ys->R (.ok .next) s'):
 Mg (model X.prog X.w) X.A (.compLoop (.ListComp elt [⟨tg,iter,ifs,0⟩] scope pos) 0 (.ref it) (.ref D0) (Pe scope (oO X.env.cells scope C) C X.env)) R s4:=by
 have stat: ∀ {af:List (Addr×Obj)} {H':Hp},(∀q∈af,q.1∉fp)->(∀b∈fp,H' b=none)-> ∀b∈fp,kf (aE X N' scope C s3 H3 fp) af H' b:=λ{af H'} hpn hn b hb=>
  ⟨hn b hb,(I.ok.exf b hb).1,I.ok.exfs b hb,.inl hb,(I.ok.exf b hb).2,λq hq e=>hpn q (by have hq':q∈([]:List (Addr×Obj))++af:=hq;simpa using hq') (by rw[e];exact hb)⟩
 have no: ∀q∈([]:List (Addr×Obj)),q.1∉fp:=λq hq=>nomatch hq
 refine gB (λn s'=> ∃(i:Nat) (xs:List V) (ad:List D) (σ':St) (H':Hp),CLI (aE X N' scope C s3 H3 fp) X.K c hid (ρ++K1 m .no) H W D0 fp tn g p f ds ys n i xs ad σ' H' s') ?_ ds.length
  ⟨0,[],[],σ3,H3,by simp,Na _,I,st,hF,sr,sm,hacc,.nil,wv,Na _,na,ys,by simpa using hc,rfl⟩
 rintro n s5 ⟨i,xs,ad,σ5,H5,rfl,hi,I5,st5,f5,sr5,sm5,ac5,rp5,w5,hl5,na5,rest,hc5,hy5⟩
 have wH:Same W H5:=w5.trans (gy _ _)
 by_cases hlt:i<ds.length
 ·have hd:ds[i]? =some ds[i]:=K0 hlt
  have e2:ds.drop i=ds[i]::ds.drop (i+1):=Ni hlt
  rw[e2] at hc5;unfold fA at hc5;obtain⟨go,yl⟩:=io.1 i ds[i] H5 hd sm5 wH
  refine cy (T.item (aE X N' scope C s3 H3 fp) rfl rfl rfl hcalm i [] s5 σ5 H5 (λ_ _=>False) I5 (stat no f5) st5 go) λr s6 hq_=>?_
  obtain⟨u,hr,h6⟩:=hq_
  subst hr;refine cy h6 λ_ s7 hq_=>?_
  obtain⟨x,H7,I7,r7,y7,st7,f7⟩:=hq_
  obtain⟨s7',rp⟩:=yl x H7 y7
  have rx:=rp hid sr5.tr w5
  have I7':=I7.pinned (stat no f7) (T.obj _ _ st7)
  cases e3:g ds[i] (ρ++K1 m .no) with
  |none=>rw[e3] at hc5;cases hc5
  |some ρ1=>
   rw[e3] at hc5;have hc5:(p ρ1).bind (λb=>if b=true then(f ρ1).bind λy=>(fA g p f (ρ++K1 m .no) (ds.drop (i+1))).map (y:: ·) else fA g p f (ρ++K1 m .no) (ds.drop (i+1)))=some rest:=hc5
   obtain⟨tl1,tl2⟩:=hT _ _ _ e3
   have fg: ∀ {σ':St} {H':Hp},SR X.K c hid ρ1 σ' H'->SR X.K c hid (ρ++K1 m .no) σ' H':=λ{σ' H'} z=>z.forget tl1 λj s e=>by
    by_cases hj:j<X.N.length
    ·exact .inr ((tl2 j hj).trans e)
    ·refine .inl ?_
     rw[LQ (by omega),LV] at e
     split at e
     ·cases e;rfl
     ·cases e
   have keepT: ∀ {σ':St} {H':Hp} {s':KZ},Inv (aE X N' scope C s3 H3 fp) ([]++mT fp s7.heap) σ' H' s'->tn (i+1) s'.heap/\ ∀b∈fp,H' b=none:=λ{σ' H' s'} J'=>by
    refine⟨T.keep _ _ _ st7 λb hb o e=>(J'.pin (b,o) (Lx _ (Lx _ (fo hb e)))).1,λb hb=>?_⟩
    obtain⟨o,e,_⟩:=T.obj _ _ st7 b hb
    exact(J'.pin (b,o) (Lx _ (Lx _ (fo hb e)))).2.1
   refine cy (hg C s3 H3 fp hid _ ds[i] _ s7 σ5 H7 x u (λσ' H'=>H'=H7/\SR X.K c hid ρ1 σ' H7/\OwK (ρ++K1 m .no) ρ1 σ5 σ') I7' r7 ⟨sr5.ext s7',rx,ρ1,e3,λσ' z o=>⟨rfl,z,o⟩⟩) λ_ s8 hq_=>?_
   obtain⟨σ8,H8,I8,e8,q8,o8⟩:=hq_
   subst e8;have na8: ∀i:Nat,Ow (ρ++K1 m Sl.no)[i]? ->σ8[i]? ≠some (some (.ref D0)):=λj o=>by
    have o1:Ow ρ1[j]? :=by
     by_cases hj:j<X.N.length
     ·rw[tl2 j hj];exact o
     ·exfalso
      rw[LQ (by omega),LV] at o
      split at o<;>exact o.elim
    rw[(o8 j o1).2];exact na5 j o
   cases e4:p ρ1 with
   |none=>rw[e4] at hc5;cases hc5
   |some b=>
    rw[e4] at hc5;have hc5:(if b=true then(f ρ1).bind λy=>(fA g p f (ρ++K1 m .no) (ds.drop (i+1))).map (y:: ·) else fA g p f (ρ++K1 m .no) (ds.drop (i+1)))=some rest:=hc5
    refine cy (hp C s3 H3 fp hid ρ1 _ s8 σ8 H8 (λb' H'=>b'=b/\Same H8 H') I8 ⟨q8,b,e4,λH' s'=>⟨rfl,s'⟩⟩) λok s9 hq_=>?_
    obtain⟨H9,I9,e9,sm9⟩:=hq_
    subst e9;have w9:Same (vw H5 hid) (vw H9 hid):=aV (s7'.trans sm9)
    cases ok with
    |false=>
     have hc5:fA g p f (ρ++K1 m .no) (ds.drop (i+1))=some rest:=hc5
     obtain⟨k1,k2⟩:=keepT I9
     exact⟨ds.length- (i+1),by omega,i+1,xs,ad,σ8,H9,rfl,hlt,I9.unpinned,k1,k2,fg (q8.ext sm9),sm5.trans (s7'.trans sm9),sm9 _ _ (s7' _ _ ac5),rp5.mono w9,w5.trans w9,by omega,na8,rest,hc5,hy5⟩
    |true=>
     have hc5:((f ρ1).bind λy=>(fA g p f (ρ++K1 m .no) (ds.drop (i+1))).map (y:: ·))=some rest:=hc5
     cases e5:f ρ1 with
     |none=>rw[e5] at hc5;cases hc5
     |some y=>
      rw[e5] at hc5;have hc5:(fA g p f (ρ++K1 m .no) (ds.drop (i+1))).map (y:: ·)=some rest:=hc5
      cases e6:fA g p f (ρ++K1 m .no) (ds.drop (i+1)) with
      |none=>rw[e6] at hc5;cases hc5
      |some rest'=>
       rw[e6] at hc5;cases hc5
       show Lq (model X.prog X.w) X.A (eval elt _) _ _ s9;refine cy (he C s3 H3 fp hid ρ1 _ s9 σ8 H9 (λv H'=>Same H9 H'/\Rep X.K (vw H' hid) v y) I9 ⟨q8.ext sm9,y,e5,λv H' s' r=>⟨s',r⟩⟩) λv s10 hq_=>?_
       obtain⟨z,H10,I10,rz,sm10,rp10⟩:=hq_
       have sm':Same H5 H10:=s7'.trans (sm9.trans sm10)
       have a10:H10 D0=some (.lst xs):=sm' _ _ ac5
       refine cy (gh (X:=aE X N' scope C s3 H3 fp) _ s10 σ8 H10 (.ref D0) [z] (.ref D0) [v] (λ_ H'=>H'=bI H10 D0 (.lst (xs++[z]))) I10 rfl (.cons rz .nil) ⟨D0,xs,z,rfl,rfl,a10,by omega,rfl⟩) λ_ s11 ⟨_,H11,I11,_,e11⟩=>?_
       subst e11;obtain⟨k1,k2⟩:=keepT I11
       have vv:vw (bI H10 D0 (.lst (xs++[z]))) hid=vw H10 hid:=eY hh
       have w10:Same (vw H5 hid) (vw H10 hid):=aV sm'
       refine⟨ds.length- (i+1),by omega,i+1,xs++[z],ad++[y],σ8,_,rfl,hlt,I11.unpinned,k1,k2,?_,λb o e=>?_,aP,?_,?_,by simp;omega,na8,rest',e6,by rw[<-hy5];simp⟩
       ·
        have q10:=fg ((q8.ext sm9).ext sm10)
        exact q10.write hh h00 na8 a10
       ·rw[aF (bT e nD)];exact sm' _ _ (sm5 _ _ e)
       ·rw[vv];exact(rp5.mono w10).append (.cons rp10 .nil)
       ·rw[vv];exact w5.trans w10
 ·have e:i=ds.length:=by omega
  subst e;rw[M8 (Ld _)] at hc5;cases hc5
  rw[Me] at hy5;subst hy5;refine cy (T.done (aE X N' scope C s3 H3 fp) rfl rfl rfl hcalm ds.length [] s5 σ5 H5 (λ_ _=>False) I5 (stat no f5) st5 (io.2 H5 sm5 wH)) λr s6 hq_=>?_
  obtain⟨hr,I6⟩:=hq_
  subst hr;exact hR s6 σ5 H5 xs I6 sm5 ac5 rp5
theorem qS(hcalm:X.calm=true)(hk:scope.kind=.function)(hs:um scope X.env.scope=true)(hn:uq X.N N' scope=true)(hm:N'.length-X.N.length=m)(hT:iV X.N.length g)
 (hg: ∀C s₀ H₀ ex,Jk IR (aE X N' scope C s₀ H₀ ex) c tg g) (hp: ∀C s₀ H₀ ex,pX (aE X N' scope C s₀ H₀ ex) c ifs p) (he: ∀C s₀ H₀ ex,DP (aE X N' scope C s₀ H₀ ex) c .s elt f)
 {E:KU->KZ->Prop} {af:List (Addr×Obj)} {σ:St} {H:Hp} {s:KZ} {hid:cj} {ρ:aJ} {J:It} {it:Addr} {fp:List Addr} {tn:Nat->Heap->Prop} {ds:List ι} {ys:List D} {RR:KU->Addr->Oa->KZ->Prop}
 (I:Inv X af σ H s) (sr:SR X.K c hid ρ σ H) (T:Turn X.prog X.w X.K tg J fp it tn) (st:tn 0 s.heap) (hF: ∀b∈fp,kf X af H b) (io:IA IR H (vw H hid) J ds) (hz:ds.length<=Lm) (hc:fA g p f (ρ++K1 m .no) ds=some ys)
 (hR: ∀(D C:Addr) (s':KZ) (H':Hp) (xs:List V),s.heap.objs.size<=D->s.heap.objs.size<=C->D≠C->H D=none->Same H H'->H' D=some (.lst xs)->Reps X.K (vw H' (cM hid D)) xs ys->(∃m,s'.heap.Ns C m)->H' C=none->s'.os=s.os->NI s'.gens->HOk X.prog X.w H' s'.heap->Un (kj X.stack) fp H H' s.heap s'.heap->RR (.ref D) C (.ok .next) s'):
 Lq (model X.prog X.w) X.A (To []) (λacc s₃=>Lq (model X.prog X.w) X.A (Of scope X.env.globals (tm X.env.cells scope.names []) [] X.env.qual none .none (some X.env)) (λcenv s₄=>
  Mg (model X.prog X.w) X.A (.compStart (.ListComp elt [⟨tg,iter,ifs,0⟩] scope pos) 0 (.ref it) acc {cenv with scope:=Od scope X.env}) (RR acc cenv.locals) s₄) E s₃) E s:=by
 refine ML (tu λh₁ hns₁ kp1 oc₁=>?_)
 dsimp only at hns₁ kp1 oc₁⊢
 generalize hH2:s.heap.push {cls:=.type "list",dict:=none,data:=.seq ([]:List KU).toArray}=H2 at hns₁ kp1 oc₁⊢
 have hC:H2.objs.size=s.heap.objs.size+1:=by rw[<-hH2,Mr]
 have hD:H s.heap.objs.size=none:=I.hok.fresh (Ld _)
 have I2:Inv X af σ (bI H s.heap.objs.size (.lst [])) {s with heap:=H2}:=by
  rw[<-hH2];exact I.laid (t':=s.toks) (λb o e=>K3 _ e) (Ld _) ⟨Na _,[],0,.nil,Lj _ rfl⟩
 have fpLt: ∀b∈fp,b<s.heap.objs.size:=λb hb=>let⟨o,e,_⟩:=T.obj 0 s.heap st b hb;Lh e
 have hF2: ∀b∈fp,kf X af (bI H s.heap.objs.size (.lst [])) b:=λb hb=>⟨by rw[aF (LF (fpLt b hb))];exact(hF b hb).1,(hF b hb).2⟩
 have kp0: ∀b o,s.heap.get? b=some o->H2.get? b=some o:=λb o e=>by rw[<-hH2];exact K3 _ e
 have IY:=qj (tk:=s.toks) (N':=N') (fp:=fp) I2 hF2 (λb hb=>let⟨o,e,_⟩:=T.obj 0 s.heap st b hb;⟨o,kp0 b o e⟩) hk hs hn hns₁ kp1 oc₁
 rw[hm] at IY;dsimp only at IY;have sr0:SR X.K c (cM hid s.heap.objs.size) (ρ++K1 m .no) (σ++K1 m none) (bI H s.heap.objs.size (.lst [])):=(sr.hide (bM hD _) hD aP).more m
 have hρ:ρ.length=X.N.length:=by rw[<-sr.len];exact I.len
 have nf:hid s.heap.objs.size=false:=sr.fresh hD
 have st1:tn 0 h₁:=T.keep _ _ _ st λb hb o e=>kp1 b o (kp0 b o e)
 have na0: ∀i:Nat,Ow (ρ++K1 m Sl.no)[i]? ->(σ++K1 m none)[i]? ≠some (some (V.ref s.heap.objs.size)):=(sr.more m).notOw nf
 have wv:Same (vw H hid) (vw (bI H s.heap.objs.size (.lst [])) (cM hid s.heap.objs.size)):=by rw[tT hD];exact Same.refl _
 have loop: ∀s4:KZ,s4={s with heap:=h₁,toks:=s.toks}->
  Mg (model X.prog X.w) X.A (.compLoop (.ListComp elt [⟨tg,iter,ifs,0⟩] scope pos) 0 (.ref it) (.ref s.heap.objs.size) (Pe scope (oO X.env.cells scope H2.objs.size) H2.objs.size X.env)) (RR (.ref s.heap.objs.size) H2.objs.size) s4:=by
  rintro s4 rfl
  refine zB (H:=H) (hid:=cM hid s.heap.objs.size) (W:=vw H hid) hcalm hT hg hp he hρ IY sr0 fF (sr.fresh0 hD) na0 aP (bM hD _) hD wv T st1 (λb hb=>(hF2 b hb).1) io hz hc ?_
  intro s' σ' H' xs I' sm' hx' rp';have un1:Un (kj X.stack) fp H (bI H s.heap.objs.size (.lst [])) s.heap H2:=Un.laid (λb o e=>kp0 b o e) (Ld _) hD
  refine hR s.heap.objs.size H2.objs.size s' H' xs (Ld _) (by rw[hC];exact Nz _) (by rw[hC];exact LF (LY _)) hD sm' hx' rp' (let⟨m,hm,_⟩:=I'.loc;⟨m,hm⟩) I'.free I'.os I'.bare I'.hok (un1.trans I'.base)
 exact Og (loop _ rfl) (T.self X.A 0 _ _ _ st1 (loop _ rfl))
theorem dw(hcalm:X.calm=true)(hT:iV X.N.length g)(hi:Km IR X c tg iter gi)
 (hg: ∀C s₀ H₀ ex,Jk IR (aE X N' scope C s₀ H₀ ex) c tg g) (hp: ∀C s₀ H₀ ex,pX (aE X N' scope C s₀ H₀ ex) c ifs p) (he: ∀C s₀ H₀ ex,DP (aE X N' scope C s₀ H₀ ex) c .s elt f)
 (hk:scope.kind=.function:=by rfl) (hs:um scope X.env.scope=true:=by kernel_rfl) (hn:uq X.N N' scope=true:=by kernel_rfl) (hm:N'.length-X.N.length=m:=by rfl) (hset: ∀x,Lz iter X.env x=pure x:=by intro _;rfl):
 DP X c .n (.ListComp elt [⟨tg,iter,ifs,0⟩] scope pos) (aR m gi g p f):=by
 intro hid ρ af s σ H Q I hq;obtain⟨sr,d,hd,q⟩:=hq
 obtain⟨ds,ys,e1,hz,hc,rfl⟩:=ql hd
 rw[Sy];refine MT (use:=none) rfl hset (fx λx hx=>I.ok.has x (jr hs x hx)) hk (kJ hs) ?_
 refine cy (hi hid ρ af s σ H (λJ H'=>Same H H'/\IA IR H' (vw H' hid) J ds) I ⟨sr,ds,e1,λJ H' s1 io=>⟨s1,io⟩⟩) λv s1 h1=>cy h1 λitv s2 h2=>?_
 obtain⟨it,fp,tn,J,H2,rfl,I2,T,st2,f2,sm,io⟩:=h2
 refine qS (RR:=λacc C=>QX (model X.prog X.w) X.A X.xe none (EP X af σ Q) acc C) hcalm hk hs hn hm hT hg hp he I2 (sr.ext sm) T st2 f2 io hz hc ?_
 intro D C s' H' xs hDge hCge hDC hD sm' hx rp ⟨mm,hns⟩ hC' hos hbare hok hun;refine⟨mm,hns,λh' hsb=>⟨.ref D,H',?_,rfl,q _ H' (sm.trans sm') ⟨D,xs,ys,rfl,rfl,sm.free hD,hx,rp⟩⟩⟩
 have neC: ∀b o,s2.heap.get? b=some o->b≠C:=λb o e z=>by subst z;exact absurd (Lh e) (M3.mpr hCge)
 have hun':Un (kj X.stack) fp H2 H' s2.heap h':=⟨λb o e n h1 h2=>(hsb.2 b (neC b o e)).trans (hun.keep b o e n h1 h2),λb o e n h1 h2=>let⟨sl,z⟩:=hun.slot b o e n h1 h2;⟨sl,(hsb.2 b (neC b o e)).trans z⟩,hun.free,λb o e h2=>let⟨o',z⟩:=hun.there b o e h2;⟨o',(hsb.2 b (neC b o e)).trans z⟩,hun.tups,hun.frzs,hun.tbls⟩
 have hok':HOk X.prog X.w H' h':=λb o e=>by
  have nb: ∀b' o',H' b'=some o'->b'≠C:=λb' o' e' z=>by subst z;rw[hC'] at e';cases e'
  refine(hok b o e).stay (λc' u hc' z=>(hsb.2 c' ?_).trans z) (λ_ z=>z) λ_ _ z=>z
  rcases hc' with z'|z'
  ·rw[z'];exact nb b o e
  ·exact nb c' _ z'
 exact I2.call' (s':={s' with heap:=h'}) (ch:=fp) hos hun' hok' hbare λb hb=>⟨(f2 b hb).2.2.2.1,(f2 b hb).2.1,(f2 b hb).2.2.2.2.1,(f2 b hb).2.2.2.2.2⟩
end
section
variable {X:Cx}{c:Ct}{elt tg iter:Expr}{ifs:List Expr}{scope:MI}{pos spos py:Pos}{N':List Str}{m:Nat}{gi:FA}{g:FG}{p:FT}{f:FE}{y:Str}
theorem yi(i:Nat)(hcalm:X.calm=true)(hN:X.N.Nodup)(hT:iV X.N.length g)(hi:BJ X c tg iter gi)
 (hg: ∀C s₀ H₀ ex,pO (aE X N' scope C s₀ H₀ ex) c tg g) (hp: ∀C s₀ H₀ ex,pX (aE X N' scope C s₀ H₀ ex) c ifs p) (he: ∀C s₀ H₀ ex,DP (aE X N' scope C s₀ H₀ ex) c .s elt f)
 (hsw:MS (.ListComp elt [⟨tg,iter,ifs,0⟩] scope pos) (some (.Name y py)) spos.line X.env=pure true) (hyi:X.N[i]? =some y) (hy:X.env.scope.names.lookup y=some .local)
 (hk:scope.kind=.function) (hs:um scope X.env.scope=true) (hn:uq X.N N' scope=true) (hm:N'.length-X.N.length=m) (hset: ∀x,Lz iter X.env x=pure x) (ρ:aJ):
 PS X (.Assign [.Name y py] (.ListComp elt [⟨tg,iter,ifs,0⟩] scope pos) spos) (D3 (λσ H Q=> ∃hid,C0 X.K c hid .n (aR m gi g p f) ρ σ H Q) (xJ i)):=by
 intro af s σ H E I hq;obtain⟨hid,sr,d,hd,q⟩:=hq
 obtain⟨ds,ys,e1,hz,hc,rfl⟩:=ql hd
 rw[PJ _ _ _ _ hsw];refine KY (Mc (KY ?_))
 show Lq _ X.A (do let _ <-Qt (.ListComp elt [⟨tg,iter,ifs,0⟩] scope pos) scope X.env _ (To []) false (eval iter X.env) (some (Nq (.Name y py) X.env))) _ _ s
 refine KY (Lv (MT (use:=some (Nq (.Name y py) X.env)) (Q:=λ_ s'=>SP X af E .next s') rfl hset (fx λx hx=>I.ok.has x (jr hs x hx)) hk (kJ hs) ?_) (λ_ s' hq=>Lc (Lc hq)) λ_ _ e=>e)
 refine cy (hi hid ρ af s σ H (λJ H'=>Same H H'/\Em X.K H' (vw H' hid) J ds) I ⟨sr,ds,e1,λJ H' s1 io=>⟨s1,io⟩⟩) λv s1 h1=>cy h1 λitv s2 h2=>?_
 obtain⟨it,fp,tn,J,H2,rfl,I2,T,st2,f2,sm,io⟩:=h2
 refine qS (IR:=Rep X.K) (RR:=λacc C=>QX (model X.prog X.w) X.A X.xe (some (Nq (.Name y py) X.env)) (λ_ s'=>SP X af E .next s') acc C) hcalm hk hs hn hm hT hg hp he I2 (sr.ext sm) T st2 f2 io hz hc ?_
 intro D C s' H' xs hDge hCge hDC hD sm' hx rp ⟨mm,hns⟩ hC' hos hbare hok hun;have I3:Inv X af σ H' s':=I2.call' (ch:=fp) hos hun hok hbare λb hb=>⟨(f2 b hb).2.2.2.1,(f2 b hb).2.1,(f2 b hb).2.2.2.2.1,(f2 b hb).2.2.2.2.2⟩
 have fin:=q _ H' (sm.trans sm') ⟨D,xs,ys,rfl,rfl,sm.free hD,hx,rp⟩
 have ltC: ∀b o,s2.heap.get? b=some o->b≠C:=λb o e z=>by subst z;exact absurd (Lh e) (M3.mpr hCge)
 have hLC:C≠X.env.locals:=λz=>by
  have:=I2.lt
  rw[<-z] at this;exact absurd this (M3.mpr hCge)
 show Lq _ X.A (Nq (.Name y py) X.env (.ref D)) _ _ s';refine O1 (oK (v:=.ref D) I3 hN hyi (.inl hy) rfl (λs'' I4 hb=>?_) (.inr hy))
 obtain⟨a,hsb,ha⟩:=hb
 have hCa:C≠a:=by
  rcases ha with rfl|ha
  ·exact hLC
  ·obtain⟨w',o,ho,_⟩:=I2.cell y a ha
   exact λz=>ltC a o ho z.symm
 refine⟨mm,hns.sameBut hsb hCa,λh3 hs3=>⟨_,H',?_,fin⟩⟩
 refine I4.turned (t':=s''.toks) (it:=C) (λb o nb e=>(hs3.2 b nb).trans e) hC' hLC (.inr (LW I2.sz hCge)) (λx c' e z=>?_) (λq hq z=>?_)
 ·obtain⟨w',o,ho,_⟩:=I2.cell x c' e
  exact ltC c' o ho z
 ·exact ltC q.1 q.2 (I2.pin q hq).1 z
theorem ug(i:Nat){k:Kd}(hcalm:X.calm=true)(hN:X.N.Nodup)(hT:iV X.N.length g)(hi:BJ X c tg iter gi)
 (hg: ∀C s₀ H₀ ex,pO (aE X N' scope C s₀ H₀ ex) c tg g) (hp: ∀C s₀ H₀ ex,pX (aE X N' scope C s₀ H₀ ex) c ifs p) (he: ∀C s₀ H₀ ex,DP (aE X N' scope C s₀ H₀ ex) c .s elt f)
 (hsw:MS (.ListComp elt [⟨tg,iter,ifs,0⟩] scope pos) (some (.Name y py)) spos.line X.env=pure true:=by rfl) (hyi:X.N[i]? =some y:=by rfl) (hy:X.env.scope.names.lookup y=some .local:=by rfl)
 (hk:scope.kind=.function:=by rfl) (hs:um scope X.env.scope=true:=by kernel_rfl) (hn:uq X.N N' scope=true:=by kernel_rfl) (hm:N'.length-X.N.length=m:=by rfl) (hset: ∀x,Lz iter X.env x=pure x:=by intro _;rfl):
 DS X c k (.Assign [.Name y py] (.ListComp elt [⟨tg,iter,ifs,0⟩] scope pos) spos) (fK i (aR m gi g p f)):=λρ=>PS.imp (yi i hcalm hN hT hi hg hp he hsw hyi hy hk hs hn hm hset ρ) λD σ H hq_=>by
 obtain⟨hid,sr,q⟩:=hq_
 unfold fK at q;cases e1:aR m gi g p f ρ with
 |none=>rw[e1] at q;exact q.elim
 |some z=>
  rw[e1] at q;exact⟨hid,sr,z,e1,λv H' s r=>GU (sr.post s r (by decide)) q⟩
theorem Dj(i:Nat){k:Kd}(hcalm:X.calm=true)(hN:X.N.Nodup)(hT:iV X.N.length g)(hi:BJ X c tg iter gi)
 (hg: ∀C s₀ H₀ ex,pO (aE X N' scope C s₀ H₀ ex) c tg g) (hp: ∀C s₀ H₀ ex,pX (aE X N' scope C s₀ H₀ ex) c ifs p) (he: ∀C s₀ H₀ ex,DP (aE X N' scope C s₀ H₀ ex) c .s elt f)
 (hsw:MS (.ListComp elt [⟨tg,iter,ifs,0⟩] scope pos) (some (.Name y py)) spos.line X.env=pure true:=by rfl) (hyi:X.N[i]? =some y:=by rfl) (hy:X.env.scope.names.lookup y=some .local:=by rfl)
 (hk:scope.kind=.function:=by rfl) (hs:um scope X.env.scope=true:=by kernel_rfl) (hn:uq X.N N' scope=true:=by kernel_rfl) (hm:N'.length-X.N.length=m:=by rfl) (hset: ∀x,Lz iter X.env x=pure x:=by intro _;rfl):
 DS X c k (.Assign [.Name y py] (.ListComp elt [⟨tg,iter,ifs,0⟩] scope pos) spos) (bj i (aR m gi g p f)):=λρ=>PS.imp (yi i hcalm hN hT hi hg hp he hsw hyi hy hk hs hn hm hset ρ) λD σ H hq_=>by
 obtain⟨hid,sr,q⟩:=hq_
 unfold bj at q;cases e1:aR m gi g p f ρ with
 |none=>rw[e1] at q;exact q.elim
 |some z=>
  rw[e1] at q;exact⟨hid,sr,z,e1,λv H' s r=>q _ H' hid ((sr.ext s).setV (RN.rep r λa n=>sr.fresh n) i) (aV s)⟩
end
mutual
def eN:D->D->Bool
 | .non,.non=>true
 | .bl a,.bl b=>a==b
 | .bl a,.int b=>(if a then 1 else 0)==b
 | .int a,.bl b=>a==(if b then 1 else 0)
 | .int a,.int b=>a==b
 | .str a,.str b=>a==b
 | .tup a,.tup b=>eW a b
 | .lst a,.lst b=>eW a b
 | .lst a,.scr b=>eW a b
 | .scr a,.lst b=>eW a b
 | .scr a,.scr b=>eW a b
 |_,_=>false
def eW:List D->List D->Bool
 | [],[]=>true
 |x::xs,y::ys=>eN x y&&eW xs ys
 |_,_=>false
end
mutual
def fq:D->Nat
 | .tup a=>dB a+1
 | .lst a=>dB a+1
 | .scr _=>M4
 |_=>0
def dB:List D->Nat
 | []=>0
 |x::xs=>max (fq x) (dB xs)
end
theorem nZ: ∀ {xs:List D} {i:Nat} {d:D},xs[i]? =some d->fq d<=dB xs
 | [],_,_,h=>by simp at h
 |x::xs,0,d,h=>by simp at h;subst h;unfold dB;exact Nat.le_max_left _ _
 |x::xs,i+1,d,h=>by
  have:=nZ (xs:=xs) (i:=i) (d:=d) (by simpa using h)
  unfold dB;exact LW this (Pf _ _)
mutual
theorem nE: ∀x:D,eN x x=true
 | .non=>by unfold eN;rfl
 | .bl a=>by unfold eN;simp
 | .int a=>by unfold eN;simp
 | .str a=>by unfold eN;simp
 | .tup a=>by unfold eN;exact mh a
 | .lst a=>by unfold eN;exact mh a
 | .scr a=>by unfold eN;exact mh a
theorem mh: ∀x:List D,eW x x=true
 | []=>by unfold eW;rfl
 |x::xs=>by unfold eW;rw[nE x,mh xs];rfl
end
def mH(xs ys:List D)(j:Nat):Bool:=match xs[j]?,ys[j]? with
 |some x,some y=>eN x y
 |_,_=>false
theorem sK {xs ys:List D}(h:xs.length=ys.length):(KW xs.length).all (mH xs ys)=eW xs ys:=by
 induction xs generalizing ys with
 |nil=>
  cases ys with
  |nil=>unfold eW;rfl
  |cons y ys=>simp at h
 |cons x xs ih=>
  cases ys with
  |nil=>simp at h
  |cons y ys=>
   rw[LM,Pq,Sz,List.all_map];have e0:mH (x::xs) (y::ys) 0=eN x y:=rfl
   have e1:((mH (x::xs) (y::ys))∘Nat.succ)=mH xs ys:=by funext j;simp[mH]
   rw[e0,e1,ih (by simpa using h)]
   conv=>rhs;unfold eW
theorem qa: ∀ {xs ys:List D},xs.length≠ys.length->eW xs ys=false
 | [],[],h=>absurd rfl h
 | [],_::_,_=>by unfold eW;rfl
 |_::_,[],_=>by unfold eW;rfl
 |x::xs,y::ys,h=>by unfold eW;rw[qa (xs:=xs) (ys:=ys) (by simpa using h)];simp
section
variable {X:Cx}{af:List (Addr×Obj)}{σ:St}{H:Hp}{s:KZ}
theorem iu(I:Inv X af σ H s){a:Addr}{xs ys:List V}(h:SqL X.K H a xs)(h':SqT X.K H a ys):False:=by
 obtain⟨its,_,pl,_⟩:=I.list h
 obtain⟨its',_,pt,_⟩:=I.tuple h'
 exact SeqAt.ne_of_list_tuple pl.isList pt rfl
theorem Hr {a b:List D}(h: ∀zs,eW a zs=eW b zs):(∀z,eN (.tup a) z=eN (.tup b) z)/\(∀z,eN (.lst a) z=eN (.lst b) z)/\ ∀z,eN (.scr a) z=eN (.lst b) z:=by
 refine⟨λz=>?_,λz=>?_,λz=>?_⟩<;>cases z<;>unfold eN<;>first|exact h _|rfl
theorem Ir {b:List D}: ∀z,eN (.scr b) z=eN (.lst b) z:=(Hr λ_=>rfl).2.2
mutual
theorem Rep.eqv(I:Inv X af σ H s): ∀ {v:V} {x y:D},Rep X.K H v x->Rep X.K H v y-> ∀z,eN x z=eN y z
 |_,_,_,.non,.non=>λ_=>rfl
 |_,_,_,.bl,.bl=>λ_=>rfl
 |_,_,_,.int,.int=>λ_=>rfl
 |_,_,_,.str,.str=>λ_=>rfl
 |_,_,_,.tup h r,.tup h' r'=>by rw[I.tuple_inj h h'] at r;exact(Hr (Reps.eqv I r r')).1
 |_,_,_,.lst h r,.lst h' r'=>by rw[I.list_inj (SqL.of h) (SqL.of h')] at r;exact(Hr (Reps.eqv I r r')).2.1
 |_,_,_,.lst h r,.scr h' r'=>by rw[I.list_inj (SqL.of h) h'.seq] at r;exact λz=>((Hr (Reps.eqv I r r')).2.1 z).trans (Ir z).symm
 |_,_,_,.scr h r,.lst h' r'=>by rw[I.list_inj h.seq (SqL.of h')] at r;exact(Hr (Reps.eqv I r r')).2.2
 |_,_,_,.scr h r,.scr h' r'=>by rw[I.list_inj h.seq h'.seq] at r;exact λz=>((Hr (Reps.eqv I r r')).2.2 z).trans (Ir z).symm
 |_,_,_,.tup h r,.lst h' r'=>(iu I (SqL.of h') h).elim
 |_,_,_,.lst h r,.tup h' r'=>(iu I (SqL.of h) h').elim
 |_,_,_,.tup h r,.scr h' r'=>(iu I h'.seq h).elim
 |_,_,_,.scr h r,.tup h' r'=>(iu I h.seq h').elim
theorem Reps.eqv(I:Inv X af σ H s): ∀ {v:List V} {x y:List D},Reps X.K H v x->Reps X.K H v y-> ∀z,eW x z=eW y z
 |_,_,_,.nil,.nil=>λ_=>rfl
 |_,_,_,.cons r t,.cons r' t'=>λz=>by
  cases z with
  |nil=>unfold eW;rfl
  |cons w ws=>unfold eW;rw[Rep.eqv I r r' w,Reps.eqv I t t' ws]
end
theorem ba(I:Inv X af σ H s){a:Addr}{xs:List V}{ds:List D}(h:SqL X.K H a xs)(r:Reps X.K H xs ds): ∃its:List KU,s.heap.IsList a its.toArray/\its.length=ds.length/\ ∀(j:Nat) (hj:j<its.length),∃(v:V) (d:D),ds[j]? =some d/\RelV v its[j]/\Rep X.K H v d:=by
 obtain⟨its,rv,pl,_⟩:=I.list h
 have h1:=rv.length
 have h2:=r.length
 refine⟨its,pl.isList,by omega,λj hj=>?_⟩
 have e:xs[j]? =some xs[j]:=K0 (by omega)
 obtain⟨u,e1,r1⟩:=rv.get e
 obtain⟨d,e2,r2⟩:=r.get' e
 have:its[j]=u:=by rw[K0 hj] at e1;exact LH e1
 rw[this];exact⟨xs[j],d,e2,r1,r2⟩
theorem cZ(I:Inv X af σ H s){a:Addr}{xs:List V}{ds:List D}(h:SqT X.K H a xs)(r:Reps X.K H xs ds): ∃its:List KU,s.heap.IsTuple a its.toArray/\its.length=ds.length/\ ∀(j:Nat) (hj:j<its.length),∃(v:V) (d:D),ds[j]? =some d/\RelV v its[j]/\Rep X.K H v d:=by
 obtain⟨its,rv,pl,_⟩:=I.tuple h
 have h1:=rv.length
 have h2:=r.length
 refine⟨its,pl,by omega,λj hj=>?_⟩
 have e:xs[j]? =some xs[j]:=K0 (by omega)
 obtain⟨u,e1,r1⟩:=rv.get e
 obtain⟨d,e2,r2⟩:=r.get' e
 have:its[j]=u:=by rw[K0 hj] at e1;exact LH e1
 rw[this];exact⟨xs[j],d,e2,r1,r2⟩
end
section
variable {X:Cx}{af:List (Addr×Obj)}{σ:St}{H:Hp}{s:KZ}
theorem gz(A:LC):A.in1.units=A.units+1:=rfl
theorem Fd {A:LC}{n:Nat}(IH: ∀ {x y:D} {v u:V} {a b:KU} {A:LC},fq x<n->A.units+fq x<M4->RelV v a->RelV u b->Rep X.K H v x->Rep X.K H u y->Nf A s a b (eN x y)){xs ys:List D}{its its2:List KU}(hd:dB xs<n)(hu:A.units+dB xs<M4)
 (g1: ∀(j:Nat) (hj:j<its.length),∃(v:V) (d:D),xs[j]? =some d/\RelV v its[j]/\Rep X.K H v d) (g2: ∀(j:Nat) (hj:j<its2.length),∃(v:V) (d:D),ys[j]? =some d/\RelV v its2[j]/\Rep X.K H v d):
 ∀j (h1:j<its.toArray.size) (h2:j<its2.toArray.size),Nf A s its.toArray[j] its2.toArray[j] (mH xs ys j):=λj h1 h2=>by
 obtain⟨v,d,e1,r1,p1⟩:=g1 j (by simpa using h1)
 obtain⟨u,d',e2,r2,p2⟩:=g2 j (by simpa using h2)
 have ez:mH xs ys j=eN d d':=by unfold mH;rw[e1,e2]
 rw[ez];have hdd:=nZ e1
 exact IH (by omega) (by omega) (by simpa using r1) (by simpa using r2) p1 p2
theorem mf(I:Inv X af σ H s){A:LC}{n:Nat}(IH: ∀ {x y:D} {v u:V} {a b:KU} {A:LC},fq x<n->A.units+fq x<M4->RelV v a->RelV u b->Rep X.K H v x->Rep X.K H u y->Nf A s a b (eN x y)){xs ys:List D}{zs ws:List V}{a b:Addr}(hd:dB xs<n)(hu:A.units+(dB xs+1)<M4)
 (h1:SqL X.K H a zs) (r1:Reps X.K H zs xs) (h2:SqL X.K H b ws) (r2:Reps X.K H ws ys):RW A s (.ref a) (.ref b) (eW xs ys)/\QY A s (.ref a) (.ref b) (!eW xs ys):=by
 obtain⟨its,l1,n1,g1⟩:=ba I h1 r1
 obtain⟨its2,l2,n2,g2⟩:=ba I h2 r2
 by_cases e:xs.length=ys.length
 ·have hsz:its.toArray.size=its2.toArray.size:=by simp;omega
  have he:=Fd (A:=A.in1) IH hd (by rw[gz];omega) g1 g2
  have ea:(KW its.toArray.size).all (mH xs ys)=eW xs ys:=by rw[Lr,n1];exact sK e
  rw[<-ea];exact⟨Xt l1 l2 hsz (by omega) he,Wh l1 l2 hsz (by omega) he⟩
 ·rw[qa e]
  have hsz:(its.toArray.size !=its2.toArray.size)=true:=by simp;omega
  exact⟨SA l1 l2 hsz (by omega),RX l1 l2 hsz (by omega)⟩
theorem xm(I:Inv X af σ H s){A:LC}{n:Nat}(IH: ∀ {x y:D} {v u:V} {a b:KU} {A:LC},fq x<n->A.units+fq x<M4->RelV v a->RelV u b->Rep X.K H v x->Rep X.K H u y->Nf A s a b (eN x y)){xs ys:List D}{zs ws:List V}{a b:Addr}(hd:dB xs<n)(hu:A.units+(dB xs+1)<M4)
 (h1:SqT X.K H a zs) (r1:Reps X.K H zs xs) (h2:SqT X.K H b ws) (r2:Reps X.K H ws ys):RW A s (.ref a) (.ref b) (eW xs ys)/\QY A s (.ref a) (.ref b) (!eW xs ys):=by
 obtain⟨its,l1,n1,g1⟩:=cZ I h1 r1
 obtain⟨its2,l2,n2,g2⟩:=cZ I h2 r2
 have he:=Fd (A:=A.in1) IH hd (by rw[gz];omega) g1 g2
 have ea:((KW (min its.toArray.size its2.toArray.size)).all (mH xs ys)&&its.toArray.size==its2.toArray.size)=eW xs ys:=by
  rw[Lr,Lr,n1,n2]
  by_cases e:xs.length=ys.length
  ·rw[<-e,Nat.min_self,sK e];simp
  ·rw[qa e];simp[e]
 rw[<-ea];exact⟨WT l1 l2 (by omega) he,Vq l1 l2 (by omega) he⟩
theorem o7(I:Inv X af σ H s){A:LC}{a b:Addr}{x y:D}(r1:Rep X.K H (.ref a) x)(r2:Rep X.K H (.ref b) y)(e:a=b):Nf A s (.ref a) (.ref b) (eN x y):=by
 subst e;rw[Rep.eqv I r1 r2,nE];exact Ry _
theorem Hl(I:Inv X af σ H s){n:Nat}(IH: ∀ {x y:D} {v u:V} {a b:KU} {A:LC},fq x<n->A.units+fq x<M4->RelV v a->RelV u b->Rep X.K H v x->Rep X.K H u y->Nf A s a b (eN x y)){x y:D}{v u:V}{a b:KU}{A:LC}(hd:fq x<n+1)(hu:A.units+fq x<M4)(hc:A.units<M4)
 (ra:RelV v a) (rb:RelV u b) (px:Rep X.K H v x) (py:Rep X.K H u y):Nf A s a b (eN x y):=by
 unfold eN;cases px with
 |non=>
  cases ra
  cases py with
  |non=>
   cases rb
   exact Ry _
  |bl=>
   cases rb
   exact UJ _
  |int=>
   obtain⟨t2,rfl⟩:=rb
   exact Vr _ _
  |str=>
   obtain⟨t2,rfl⟩:=rb
   exact Vs _ _
  | @tup a2 _ _ h2 r2=>
    cases rb
    obtain⟨its2,l2,_⟩:=cZ I h2 r2
    exact T3 l2 (by omega)
  | @lst a2 _ _ h2 r2=>
    cases rb
    obtain⟨its2,l2,_⟩:=ba I (SqL.of h2) r2
    exact PY l2 (by omega)
  | @scr a2 _ _ h2 r2=>
    cases rb
    obtain⟨its2,l2,_⟩:=ba I h2.seq r2
    exact PY l2 (by omega)
 |bl=>
  cases ra
  cases py with
  |non=>
   cases rb
   exact UK _
  |bl=>
   cases rb
   exact UL _ _
  |int=>
   obtain⟨t2,rfl⟩:=rb
   exact Vt _ _ _
  |str=>
   obtain⟨t2,rfl⟩:=rb
   exact Vu _ _ _
  | @tup a2 _ _ h2 r2=>
    cases rb
    obtain⟨its2,l2,_⟩:=cZ I h2 r2
    exact T4 _ l2 (by omega)
  | @lst a2 _ _ h2 r2=>
    cases rb
    obtain⟨its2,l2,_⟩:=ba I (SqL.of h2) r2
    exact PZ _ l2 (by omega)
  | @scr a2 _ _ h2 r2=>
    cases rb
    obtain⟨its2,l2,_⟩:=ba I h2.seq r2
    exact PZ _ l2 (by omega)
 |int=>
  obtain⟨t1,rfl⟩:=ra
  cases py with
  |non=>
   cases rb
   exact Vv _ _
  |bl=>
   cases rb
   exact Vw _ _ _
  |int=>
   obtain⟨t2,rfl⟩:=rb
   exact Wi _ _ _ _
  |str=>
   obtain⟨t2,rfl⟩:=rb
   exact Qx _ _ _ _
  | @tup a2 _ _ h2 r2=>
    cases rb
    obtain⟨its2,l2,_⟩:=cZ I h2 r2
    exact UM _ _ l2 (by omega)
  | @lst a2 _ _ h2 r2=>
    cases rb
    obtain⟨its2,l2,_⟩:=ba I (SqL.of h2) r2
    exact Qg _ _ l2 (by omega)
  | @scr a2 _ _ h2 r2=>
    cases rb
    obtain⟨its2,l2,_⟩:=ba I h2.seq r2
    exact Qg _ _ l2 (by omega)
 |str=>
  obtain⟨t1,rfl⟩:=ra
  cases py with
  |non=>
   cases rb
   exact Vx _ _
  |bl=>
   cases rb
   exact Vy _ _ _
  |int=>
   obtain⟨t2,rfl⟩:=rb
   exact Qy _ _ _ _
  |str=>
   obtain⟨t2,rfl⟩:=rb
   exact Wj _ _ _ _
  | @tup a2 _ _ h2 r2=>
    cases rb
    obtain⟨its2,l2,_⟩:=cZ I h2 r2
    exact UN _ _ l2 (by omega)
  | @lst a2 _ _ h2 r2=>
    cases rb
    obtain⟨its2,l2,_⟩:=ba I (SqL.of h2) r2
    exact Qh _ _ l2 (by omega)
  | @scr a2 _ _ h2 r2=>
    cases rb
    obtain⟨its2,l2,_⟩:=ba I h2.seq r2
    exact Qh _ _ l2 (by omega)
 | @tup a1 _ _ h1 r1=>
   cases ra
   obtain⟨its,l1,_⟩:=cZ I h1 r1
   cases py with
   |non=>
    cases rb
    exact T5 l1 (by omega)
   |bl=>
    cases rb
    exact T6 _ l1 (by omega)
   |int=>
    obtain⟨t2,rfl⟩:=rb
    exact UO _ _ l1 (by omega)
   |str=>
    obtain⟨t2,rfl⟩:=rb
    exact UP _ _ l1 (by omega)
   | @tup a2 _ _ h2 r2=>
     cases rb
     obtain⟨its2,l2,_⟩:=cZ I h2 r2
     by_cases e:a1=a2
     ·exact(o7 I (.tup h1 r1) (.tup h2 r2) e)
     ·exact OS e (xm I IH (by unfold fq at hd;omega) (by unfold fq at hu;omega) h1 r1 h2 r2).1
   | @lst a2 _ _ h2 r2=>
     cases rb
     obtain⟨its2,l2,_⟩:=ba I (SqL.of h2) r2
     exact PK l1 l2 (by omega)
   | @scr a2 _ _ h2 r2=>
     cases rb
     obtain⟨its2,l2,_⟩:=ba I h2.seq r2
     exact PK l1 l2 (by omega)
 | @scr a1 _ _ h1 r1=>exact absurd hu (by unfold fq;omega)
 | @lst a1 _ _ h1 r1=>
   cases ra
   obtain⟨its,l1,_⟩:=ba I (SqL.of h1) r1
   cases py with
   |non=>
    cases rb
    exact UQ l1 (by omega)
   |bl=>
    cases rb
    exact UR _ l1 (by omega)
   |int=>
    obtain⟨t2,rfl⟩:=rb
    exact Vz _ _ l1 (by omega)
   |str=>
    obtain⟨t2,rfl⟩:=rb
    exact VA _ _ l1 (by omega)
   | @tup a2 _ _ h2 r2=>
     cases rb
     obtain⟨its2,l2,_⟩:=cZ I h2 r2
     exact T7 l1 l2 (by omega)
   | @lst a2 _ _ h2 r2=>
     cases rb
     obtain⟨its2,l2,_⟩:=ba I (SqL.of h2) r2
     by_cases e:a1=a2
     ·exact(o7 I (.lst h1 r1) (.lst h2 r2) e)
     ·exact OS e (mf I IH (by unfold fq at hd;omega) (by unfold fq at hu;omega) (SqL.of h1) r1 (SqL.of h2) r2).1
   | @scr a2 _ _ h2 r2=>
     cases rb
     obtain⟨its2,l2,_⟩:=ba I h2.seq r2
     by_cases e:a1=a2
     ·exact(o7 I (.lst h1 r1) (.scr h2 r2) e)
     ·exact OS e (mf I IH (by unfold fq at hd;omega) (by unfold fq at hu;omega) (SqL.of h1) r1 h2.seq r2).1
theorem o6(I:Inv X af σ H s): ∀(n:Nat) {x y:D} {v u:V} {a b:KU} {A:LC},fq x<n->A.units+fq x<M4->RelV v a->RelV u b->Rep X.K H v x->Rep X.K H u y->Nf A s a b (eN x y)
 |0,x,y,v,u,a,b,A,hd,hu,ra,rb,px,py=>absurd hd (OG _)
 |n+1,x,y,v,u,a,b,A,hd,hu,ra,rb,px,py=>Hl I (λh1 h2 h3 h4 h5 h6=>o6 I n h1 h2 h3 h4 h5 h6) hd hu (by omega) ra rb px py
theorem GH(I:Inv X af σ H s){x y:D}{v u:V}{a b:KU}{A:LC}(hu:A.units+fq x<M4)(hc:A.units<M4)(ra:RelV v a)(rb:RelV u b)(px:Rep X.K H v x)(py:Rep X.K H u y):RW A s a b (eN x y):=by
 have IH:=λ{x y:D} {v u:V} {a b:KU} {A:LC} (n:Nat)=> @o6 X af σ H s I n x y v u a b A
 have IH: ∀ {n:Nat} {x y:D} {v u:V} {a b:KU} {A:LC},fq x<n->A.units+fq x<M4->RelV v a->RelV u b->Rep X.K H v x->Rep X.K H u y->Nf A s a b (eN x y):=λ{n x y v u a b A}=>o6 I n
 unfold eN;cases px with
 |non=>
  cases ra
  cases py with
  |non=>
   cases rb
   exact US
  |bl=>
   cases rb
   exact UT _
  |int=>
   obtain⟨t2,rfl⟩:=rb
   exact VB _ _
  |str=>
   obtain⟨t2,rfl⟩:=rb
   exact VC _ _
  | @tup a2 _ _ h2 r2=>
    cases rb
    obtain⟨its2,l2,_⟩:=cZ I h2 r2
    exact T8 l2 (by omega)
  | @lst a2 _ _ h2 r2=>
    cases rb
    obtain⟨its2,l2,_⟩:=ba I (SqL.of h2) r2
    exact P0 l2 (by omega)
  | @scr a2 _ _ h2 r2=>
    cases rb
    obtain⟨its2,l2,_⟩:=ba I h2.seq r2
    exact P0 l2 (by omega)
 |bl=>
  cases ra
  cases py with
  |non=>
   cases rb
   exact UU _
  |bl=>
   cases rb
   exact UV _ _
  |int=>
   obtain⟨t2,rfl⟩:=rb
   exact VD _ _ _
  |str=>
   obtain⟨t2,rfl⟩:=rb
   exact VE _ _ _
  | @tup a2 _ _ h2 r2=>
    cases rb
    obtain⟨its2,l2,_⟩:=cZ I h2 r2
    exact T9 _ l2 (by omega)
  | @lst a2 _ _ h2 r2=>
    cases rb
    obtain⟨its2,l2,_⟩:=ba I (SqL.of h2) r2
    exact P1 _ l2 (by omega)
  | @scr a2 _ _ h2 r2=>
    cases rb
    obtain⟨its2,l2,_⟩:=ba I h2.seq r2
    exact P1 _ l2 (by omega)
 |int=>
  obtain⟨t1,rfl⟩:=ra
  cases py with
  |non=>
   cases rb
   exact VF _ _
  |bl=>
   cases rb
   exact VG _ _ _
  |int=>
   obtain⟨t2,rfl⟩:=rb
   exact Wk _ _ _ _
  |str=>
   obtain⟨t2,rfl⟩:=rb
   exact Wm _ _ _ _
  | @tup a2 _ _ h2 r2=>
    cases rb
    obtain⟨its2,l2,_⟩:=cZ I h2 r2
    exact UW _ _ l2 (by omega)
  | @lst a2 _ _ h2 r2=>
    cases rb
    obtain⟨its2,l2,_⟩:=ba I (SqL.of h2) r2
    exact Qi _ _ l2 (by omega)
  | @scr a2 _ _ h2 r2=>
    cases rb
    obtain⟨its2,l2,_⟩:=ba I h2.seq r2
    exact Qi _ _ l2 (by omega)
 |str=>
  obtain⟨t1,rfl⟩:=ra
  cases py with
  |non=>
   cases rb
   exact VH _ _
  |bl=>
   cases rb
   exact VI _ _ _
  |int=>
   obtain⟨t2,rfl⟩:=rb
   exact Wn _ _ _ _
  |str=>
   obtain⟨t2,rfl⟩:=rb
   exact Wo _ _ _ _
  | @tup a2 _ _ h2 r2=>
    cases rb
    obtain⟨its2,l2,_⟩:=cZ I h2 r2
    exact UX _ _ l2 (by omega)
  | @lst a2 _ _ h2 r2=>
    cases rb
    obtain⟨its2,l2,_⟩:=ba I (SqL.of h2) r2
    exact Qj _ _ l2 (by omega)
  | @scr a2 _ _ h2 r2=>
    cases rb
    obtain⟨its2,l2,_⟩:=ba I h2.seq r2
    exact Qj _ _ l2 (by omega)
 | @tup a1 _ _ h1 r1=>
   cases ra
   obtain⟨its,l1,_⟩:=cZ I h1 r1
   cases py with
   |non=>
    cases rb
    exact Ua l1 (by omega)
   |bl=>
    cases rb
    exact Ub _ l1 (by omega)
   |int=>
    obtain⟨t2,rfl⟩:=rb
    exact UY _ _ l1 (by omega)
   |str=>
    obtain⟨t2,rfl⟩:=rb
    exact UZ _ _ l1 (by omega)
   | @tup a2 _ _ h2 r2=>
     cases rb
     obtain⟨its2,l2,_⟩:=cZ I h2 r2
     exact(xm I IH (LY _) (by unfold fq at hu;omega) h1 r1 h2 r2).1
   | @lst a2 _ _ h2 r2=>
     cases rb
     obtain⟨its2,l2,_⟩:=ba I (SqL.of h2) r2
     exact PL l1 l2 (by omega)
   | @scr a2 _ _ h2 r2=>
     cases rb
     obtain⟨its2,l2,_⟩:=ba I h2.seq r2
     exact PL l1 l2 (by omega)
 | @scr a1 _ _ h1 r1=>exact absurd hu (by unfold fq;omega)
 | @lst a1 _ _ h1 r1=>
   cases ra
   obtain⟨its,l1,_⟩:=ba I (SqL.of h1) r1
   cases py with
   |non=>
    cases rb
    exact U0 l1 (by omega)
   |bl=>
    cases rb
    exact U1 _ l1 (by omega)
   |int=>
    obtain⟨t2,rfl⟩:=rb
    exact VJ _ _ l1 (by omega)
   |str=>
    obtain⟨t2,rfl⟩:=rb
    exact VL _ _ l1 (by omega)
   | @tup a2 _ _ h2 r2=>
     cases rb
     obtain⟨its2,l2,_⟩:=cZ I h2 r2
     exact Uc l1 l2 (by omega)
   | @lst a2 _ _ h2 r2=>
     cases rb
     obtain⟨its2,l2,_⟩:=ba I (SqL.of h2) r2
     exact(mf I IH (LY _) (by unfold fq at hu;omega) (SqL.of h1) r1 (SqL.of h2) r2).1
   | @scr a2 _ _ h2 r2=>
     cases rb
     obtain⟨its2,l2,_⟩:=ba I h2.seq r2
     exact(mf I IH (LY _) (by unfold fq at hu;omega) (SqL.of h1) r1 h2.seq r2).1
theorem Aj(I:Inv X af σ H s){x y:D}{v u:V}{a b:KU}{A:LC}(hu:A.units+fq x<M4)(hc:A.units<M4)(ra:RelV v a)(rb:RelV u b)(px:Rep X.K H v x)(py:Rep X.K H u y):QY A s a b (!eN x y):=by
 have IH: ∀ {n:Nat} {x y:D} {v u:V} {a b:KU} {A:LC},fq x<n->A.units+fq x<M4->RelV v a->RelV u b->Rep X.K H v x->Rep X.K H u y->Nf A s a b (eN x y):=λ{n x y v u a b A}=>o6 I n
 unfold eN;cases px with
 |non=>
  cases ra
  cases py with
  |non=>
   cases rb
   exact Tq
  |bl=>
   cases rb
   exact Tr _
  |int=>
   obtain⟨t2,rfl⟩:=rb
   exact Ud _ _
  |str=>
   obtain⟨t2,rfl⟩:=rb
   exact Ue _ _
  | @tup a2 _ _ h2 r2=>
    cases rb
    obtain⟨its2,l2,_⟩:=cZ I h2 r2
    exact SV l2 (by omega)
  | @lst a2 _ _ h2 r2=>
    cases rb
    obtain⟨its2,l2,_⟩:=ba I (SqL.of h2) r2
    exact Pr l2 (by omega)
  | @scr a2 _ _ h2 r2=>
    cases rb
    obtain⟨its2,l2,_⟩:=ba I h2.seq r2
    exact Pr l2 (by omega)
 |bl=>
  cases ra
  cases py with
  |non=>
   cases rb
   exact Ts _
  |bl=>
   cases rb
   exact Tt _ _
  |int=>
   obtain⟨t2,rfl⟩:=rb
   exact Uf _ _ _
  |str=>
   obtain⟨t2,rfl⟩:=rb
   exact Ug _ _ _
  | @tup a2 _ _ h2 r2=>
    cases rb
    obtain⟨its2,l2,_⟩:=cZ I h2 r2
    exact SW _ l2 (by omega)
  | @lst a2 _ _ h2 r2=>
    cases rb
    obtain⟨its2,l2,_⟩:=ba I (SqL.of h2) r2
    exact Ps _ l2 (by omega)
  | @scr a2 _ _ h2 r2=>
    cases rb
    obtain⟨its2,l2,_⟩:=ba I h2.seq r2
    exact Ps _ l2 (by omega)
 |int=>
  obtain⟨t1,rfl⟩:=ra
  cases py with
  |non=>
   cases rb
   exact Uh _ _
  |bl=>
   cases rb
   exact Ui _ _ _
  |int=>
   obtain⟨t2,rfl⟩:=rb
   exact U2 _ _ _ _
  |str=>
   obtain⟨t2,rfl⟩:=rb
   exact U3 _ _ _ _
  | @tup a2 _ _ h2 r2=>
    cases rb
    obtain⟨its2,l2,_⟩:=cZ I h2 r2
    exact Tu _ _ l2 (by omega)
  | @lst a2 _ _ h2 r2=>
    cases rb
    obtain⟨its2,l2,_⟩:=ba I (SqL.of h2) r2
    exact PM _ _ l2 (by omega)
  | @scr a2 _ _ h2 r2=>
    cases rb
    obtain⟨its2,l2,_⟩:=ba I h2.seq r2
    exact PM _ _ l2 (by omega)
 |str=>
  obtain⟨t1,rfl⟩:=ra
  cases py with
  |non=>
   cases rb
   exact Uj _ _
  |bl=>
   cases rb
   exact Uk _ _ _
  |int=>
   obtain⟨t2,rfl⟩:=rb
   exact U4 _ _ _ _
  |str=>
   obtain⟨t2,rfl⟩:=rb
   exact U5 _ _ _ _
  | @tup a2 _ _ h2 r2=>
    cases rb
    obtain⟨its2,l2,_⟩:=cZ I h2 r2
    exact Tv _ _ l2 (by omega)
  | @lst a2 _ _ h2 r2=>
    cases rb
    obtain⟨its2,l2,_⟩:=ba I (SqL.of h2) r2
    exact PN _ _ l2 (by omega)
  | @scr a2 _ _ h2 r2=>
    cases rb
    obtain⟨its2,l2,_⟩:=ba I h2.seq r2
    exact PN _ _ l2 (by omega)
 | @tup a1 _ _ h1 r1=>
   cases ra
   obtain⟨its,l1,_⟩:=cZ I h1 r1
   cases py with
   |non=>
    cases rb
    exact SX l1 (by omega)
   |bl=>
    cases rb
    exact SY _ l1 (by omega)
   |int=>
    obtain⟨t2,rfl⟩:=rb
    exact Tw _ _ l1 (by omega)
   |str=>
    obtain⟨t2,rfl⟩:=rb
    exact Tx _ _ l1 (by omega)
   | @tup a2 _ _ h2 r2=>
     cases rb
     obtain⟨its2,l2,_⟩:=cZ I h2 r2
     exact(xm I IH (LY _) (by unfold fq at hu;omega) h1 r1 h2 r2).2
   | @lst a2 _ _ h2 r2=>
     cases rb
     obtain⟨its2,l2,_⟩:=ba I (SqL.of h2) r2
     exact Pg l1 l2 (by omega)
   | @scr a2 _ _ h2 r2=>
     cases rb
     obtain⟨its2,l2,_⟩:=ba I h2.seq r2
     exact Pg l1 l2 (by omega)
 | @scr a1 _ _ h1 r1=>exact absurd hu (by unfold fq;omega)
 | @lst a1 _ _ h1 r1=>
   cases ra
   obtain⟨its,l1,_⟩:=ba I (SqL.of h1) r1
   cases py with
   |non=>
    cases rb
    exact Tz l1 (by omega)
   |bl=>
    cases rb
    exact TC _ l1 (by omega)
   |int=>
    obtain⟨t2,rfl⟩:=rb
    exact Ul _ _ l1 (by omega)
   |str=>
    obtain⟨t2,rfl⟩:=rb
    exact Um _ _ l1 (by omega)
   | @tup a2 _ _ h2 r2=>
     cases rb
     obtain⟨its2,l2,_⟩:=cZ I h2 r2
     exact SZ l1 l2 (by omega)
   | @lst a2 _ _ h2 r2=>
     cases rb
     obtain⟨its2,l2,_⟩:=ba I (SqL.of h2) r2
     exact(mf I IH (LY _) (by unfold fq at hu;omega) (SqL.of h1) r1 (SqL.of h2) r2).2
   | @scr a2 _ _ h2 r2=>
     cases rb
     obtain⟨its2,l2,_⟩:=ba I h2.seq r2
     exact(mf I IH (LY _) (by unfold fq at hu;omega) (SqL.of h1) r1 h2.seq r2).2
end
theorem Rep1.full {K:K7}{H:Hp}{hid:cj}{v:V}{d:D}(h:Rep1 K H (vw H hid) v d):Rep K H v d:=by
 rcases h with h|⟨a,xs,ds,rfl,rfl,h1,h2⟩
 ·exact h.mono (gy _ _)
 ·exact .lst h1 (h2.mono (gy _ _))
def HH(K:K7):R2:=λv u H Q=> ∃x y,Rep K H v x/\Rep K H u y/\fq x<=32/\Q (.bl (eN x y)) H
def IP(K:K7):R2:=λv u H Q=> ∃x y,Rep K H v x/\Rep K H u y/\fq x<=32/\Q (.bl (!eN x y)) H
theorem eP {X:Cx}(hu:X.A.units+64<M4):md X (Mp .Eq) (HH X.K):=by
 intro af s σ H x y v u Q I rx ry h;obtain⟨dx,dy,p1,p2,hd,q⟩:=h
 exact GH I (by omega) (by omega) rx ry p1 p2 X.prog X.w _ _ ⟨.bl _,H,I,rfl,q⟩
theorem lu {X:Cx}(hu:X.A.units+64<M4):md X (Mp .NotEq) (IP X.K):=by
 intro af s σ H x y v u Q I rx ry h;obtain⟨dx,dy,p1,p2,hd,q⟩:=h
 exact Aj I (by omega) (by omega) rx ry p1 p2 X.prog X.w _ _ ⟨.bl _,H,I,rfl,q⟩
def iD:D->D->Option D:=λx y=>if fq x<=32 then some (.bl (eN x y)) else none
def nM:D->D->Option D:=λx y=>if fq x<=32 then some (.bl (!eN x y)) else none
theorem gY {K:K7}:pg K .s (HH K) iD:=by
 intro H hid v u x y d Q hf h r1 r2 q;unfold iD at h;split at h
 ·cases h;exact⟨x,y,r1.full,r2.full, ‹_›,q _ H (Same.refl _) .bl⟩
 ·cases h
theorem nW {K:K7}:pg K .s (IP K) nM:=by
 intro H hid v u x y d Q hf h r1 r2 q;unfold nM at h;split at h
 ·cases h;exact⟨x,y,r1.full,r2.full, ‹_›,q _ H (Same.refl _) .bl⟩
 ·cases h
theorem pP {X:Cx}{af:List (Addr×Obj)}{σ:St}{H:Hp}{s:KZ}(I:Inv X af σ H s){x:D}{v:V}{a:KU}{A:LC}(hx:Rep X.K H v x)(ra:RelV v a): ∀ {ds:List D} {xs:List V} {its:List KU},Reps X.K H xs ds->Vals xs its->A.units+dB ds<M4->
 ∃e:KU->Bool,(∀y,y∈its->Nf A s y a (e y))/\its.any e=ds.any (λd=>eN d x):=by
 intro ds xs its r rv hu
 classical
 let e:KU->Bool:=λy=>if h: ∃(d:D) (u:V),RelV u y/\Rep X.K H u d then eN h.choose x else false
 have key: ∀y u d,RelV u y->Rep X.K H u d->e y=eN d x:=λy u d h1 h2=>by
  have hex: ∃(d:D) (u:V),RelV u y/\Rep X.K H u d:=⟨d,u,h1,h2⟩
  show(if h: ∃(d:D) (u:V),RelV u y/\Rep X.K H u d then eN h.choose x else false)=eN d x
  rw[dif_pos hex];obtain⟨u',s1,s2⟩:=hex.choose_spec
  have eu:u'=u:=s1.inj h1
  rw[eu] at s2;exact Rep.eqv I s2 h2 x
 refine⟨e,?_,?_⟩
 ·induction rv generalizing ds with
  |nil=>intro y hy;cases hy
  |cons r1 t ih=>
   cases r with
   |cons p1 pt=>
    rename_i d ds;intro y hy;have hm:fq d<=dB (d::ds):=nZ (i:=0) rfl
    have hm2:dB ds<=dB (d::ds):=by conv=>rhs;unfold dB
                                   exact Pf _ _
    rcases Ll.mp hy with rfl|hy
    ·rw[key _ _ _ r1 p1]
     exact o6 I (fq d+1) (LY _) (by omega) r1 ra p1 hx
    ·exact ih pt (by omega) y hy
 ·induction rv generalizing ds with
  |nil=>cases r;rfl
  |cons r1 t ih=>
   cases r with
   |cons p1 pt=>
    rename_i d ds;have hm2:dB ds<=dB (d::ds):=by conv=>rhs;unfold dB
                                                 exact Pf _ _
    rw[Ml,Ml,key _ _ _ r1 p1,ih pt (by omega)]
def Gp(K:K7)(neg:Bool):R2:=λv u H Q=> ∃x ds a xs,Rep K H v x/\u=.ref a/\(SqL K H a xs\/SqT K H a xs)/\Reps K H xs ds/\dB ds<=32/\Q (.bl (if neg then !ds.any (λd=>eN d x) else ds.any λd=>eN d x)) H
theorem oZ {X:Cx}(hu:X.A.units+64<M4):md X (Mp .In) (Gp X.K false):=by
 intro af s σ H v w a b Q I rx ry h;obtain⟨x,ds,p,xs,hx,rfl,hq,r,hd,q⟩:=h
 cases ry
 rcases hq with hq|hq
 ·obtain⟨its,rv,pl,hz⟩:=I.list hq
  obtain⟨e,h1,h2⟩:=pP (A:=X.A.in1) I hx rx r rv (by rw[gz];omega)
  refine SeqAt.in_listAt e pl.isList (λy hy=>h1 y (by simpa using hy)) ⟨.bl _,H,I,rfl,?_⟩
  rw[show its.toArray.any e=its.any e by simp,h2]
  exact q
 ·obtain⟨its,rv,pl,hz⟩:=I.tuple hq
  obtain⟨e,h1,h2⟩:=pP (A:=X.A.in1) I hx rx r rv (by rw[gz];omega)
  refine SeqAt.in_tupleAt e pl (λy hy=>h1 y (by simpa using hy)) ⟨.bl _,H,I,rfl,?_⟩
  rw[show its.toArray.any e=its.any e by simp,h2]
  exact q
theorem zv {X:Cx}(hu:X.A.units+64<M4):md X (Mp .NotIn) (Gp X.K true):=by
 intro af s σ H v w a b Q I rx ry h;obtain⟨x,ds,p,xs,hx,rfl,hq,r,hd,q⟩:=h
 cases ry
 rcases hq with hq|hq
 ·obtain⟨its,rv,pl,hz⟩:=I.list hq
  obtain⟨e,h1,h2⟩:=pP (A:=X.A.in1) I hx rx r rv (by rw[gz];omega)
  refine SeqAt.notIn_listAt e pl.isList (λy hy=>h1 y (by simpa using hy)) ⟨.bl _,H,I,rfl,?_⟩
  rw[show its.toArray.any e=its.any e by simp,h2]
  exact q
 ·obtain⟨its,rv,pl,hz⟩:=I.tuple hq
  obtain⟨e,h1,h2⟩:=pP (A:=X.A.in1) I hx rx r rv (by rw[gz];omega)
  refine SeqAt.notIn_tupleAt e pl (λy hy=>h1 y (by simpa using hy)) ⟨.bl _,H,I,rfl,?_⟩
  rw[show its.toArray.any e=its.any e by simp,h2]
  exact q
def p9:D->Option (List D)
 | .lst ds=>some ds
 | .tup ds=>some ds
 |_=>none
def mC(neg:Bool):D->D->Option D:=λx y=>match p9 y with
 |some ds=>if dB ds<=32 then some (.bl (if neg then !ds.any (λd=>eN d x) else ds.any λd=>eN d x)) else none
 |none=>none
theorem qU {K:K7}(neg:Bool):pg K .s (Gp K neg) (mC neg):=by
 intro H hid v u x y d Q hf h r1 r2 q;unfold mC at h;split at h
 ·split at h
  ·rename_i ds e _
   cases h
   cases y with
   |lst zs=>
    cases e
    obtain⟨a,xs,rfl,h1,h2⟩:=r2.lst
    exact⟨x,_,a,xs,r1.full,rfl,.inl h1,h2.mono (gy _ _), ‹_›,q _ H (Same.refl _) .bl⟩
   |tup zs=>
    cases e
    obtain⟨a,xs,rfl,_,h1,h2⟩:=r2.tup
    exact⟨x,_,a,xs,r1.full,rfl,.inr h1,h2.mono (gy _ _), ‹_›,q _ H (Same.refl _) .bl⟩
   |_=>cases e
  ·cases h
 ·cases h
section
variable {X:Cx}{c:Ct}{e o:Expr}{k:Kd}{f g:FE}{pos p p2:Pos}
def mX:List D->Option (List Bool)
 | []=>some []
 | .bl b::r=>(mX r).map (b:: ·)
 |_=>none
theorem u9: ∀ {ds:List D} {bs:List Bool} {i:Nat} {d:D},mX ds=some bs->ds[i]? =some d-> ∃b,d=.bl b/\bs[i]? =some b
 | [],_,_,_,_,h=>by simp at h
 |x::r,bs,i,d,h,e=>by
  cases x with
  |bl b=>
   unfold mX at h;cases e1:mX r with
   |none=>rw[e1] at h;cases h
   |some rs=>
    rw[e1] at h;cases h;cases i with
    |zero=>simp at e;subst e;exact⟨b,rfl,rfl⟩
    |succ i=>
     obtain⟨b',h1,h2⟩:=u9 (i:=i) e1 (by simpa using e)
     exact⟨b',h1,by simpa using h2⟩
  |_=>cases h
theorem uL: ∀ {ds:List D} {bs:List Bool},mX ds=some bs->ds.length=bs.length
 | [],_,h=>by cases h;rfl
 |x::r,bs,h=>by
  cases x with
  |bl b=>
   unfold mX at h;cases e1:mX r with
   |none=>rw[e1] at h;cases h
   |some rs=>rw[e1] at h;cases h;simp[uL e1]
  |_=>cases h
theorem zQ(bs:List Bool):(KW bs.length).any (λi=>bs.getD i false)=bs.any id:=by
 induction bs with
 |nil=>rfl
 |cons b bs ih=>
  rw[LM,Pq,Ml,Pt,Ml];rw[show((λi=>(b::bs).getD i false)∘Nat.succ)=λi=>bs.getD i false by funext i;simp[MB],ih]
  rfl
theorem wa {af:List (Addr×Obj)}{σ:St}{H:Hp}{s:KZ}{a:Addr}{xs:List V}{ds:List D}{bs:List Bool}(I:Inv X af σ H s)(h1:SqL X.K H a xs)(h2:Reps X.K H xs ds)(hb:mX ds=some bs)(hc:X.calm=true){E:KU->KZ->Prop}{R:KU->KZ->Prop}
 (hR: ∀(J:Addr) (s2:KZ) (its:Array KU) (hl:its.size=bs.length),Walks X.prog X.w X.A.in1 J [J,a] [J] its.size (λi v=>its[i]? =some v) (λi h=>h.IsListIter J a i/\h.IsList a its)->s2.heap.IsListIter J a 0->s2.heap.IsList a its->TruthOf X.prog X.w X.A.in1 (λi v=>its[i]? =some v) (λi=>bs.getD i false)->
   (∀h' tk,(∀b o,b∉ [J]->s2.heap.get? b=some o->h'.get? b=some o)->Inv X af σ H {s2 with heap:=h',toks:=tk})->R (.ref J) s2):Lq (model X.prog X.w) X.A.in1 (OP (.ref a)) R E s:=by
 obtain⟨its,rv,pl,hz⟩:=I.list h1
 have l1:=rv.length
 have l2:=h2.length
 have l3:=uL hb
 have hlt:a<s.heap.objs.size:=by obtain⟨o,n,e,_⟩:=pl;exact Lh e
 refine O2 pl.isList (hR s.heap.objs.size _ its.toArray (by simp;omega) (Wq (A:=X.A.in1) (I.ok.hd hc) _ a (LF hlt) its.toArray) ⟨_,Lj _ rfl,rfl,rfl⟩ ?_ ?_ ?_)
 ·obtain⟨o,ho,q⟩:=pl.isList
  exact⟨o,K3 _ ho,q⟩
 ·intro i v s' Q E hv hq
  have hv':its[i]? =some v:=by simpa using hv
  have hi:=(Lp.mp hv').1
  have ex:xs[i]? =some xs[i]:=K0 (by omega)
  obtain⟨u,e1,r1⟩:=rv.get ex
  rw[hv'] at e1;cases e1;obtain⟨d,e2,r2⟩:=h2.get' ex
  obtain⟨b,rfl,e3⟩:=u9 hb e2
  rcases hx:xs[i] with _|_|_|_|_|_|_|_<;>rw[hx] at r1 r2<;>cases r2
  cases r1
  have:bs.getD i false=b:=by simp[MB,e3]
  dsimp only at hq;rw[this] at hq;exact MZ hq
 ·intro h' tk hk
  refine I.kept λb o e=>hk b o (λhm=>?_) (K3 _ e)
  have:b=s.heap.objs.size:=by simpa using hm
  exact absurd (this▸Lh e) (Np _)
theorem Aq(hc:X.calm=true):jh X (.builtin "any") (λxs H Q=> ∃a ys ds bs,xs=[.ref a]/\SqL X.K H a ys/\Reps X.K H ys ds/\mX ds=some bs/\Q (.bl (bs.any id)) H):=by
 intro af s σ H xs us Q I r h;obtain⟨a,ys,ds,bs,rfl,h1,h2,h3,q⟩:=h
 obtain⟨u,rfl,rx⟩:=mK r
 cases rx
 refine call_any_walk (wa I h1 h2 h3 hc λJ s2 its hl W st1 st2 tr kp=>?_)
 refine⟨J,_,_,_,_,_,_,rfl,W,⟨st1,st2⟩,tr,λh' tk hk=>⟨.bl _,H,kp h' tk hk,rfl,?_⟩⟩
 rw[hl,zQ];exact q
def uT:List D->Option D
 | [.lst ds]=>(mX ds).map λbs=>.bl (bs.any id)
 |_=>none
theorem Gm:lC X.K .s (λxs H Q=> ∃a ys ds bs,xs=[.ref a]/\SqL X.K H a ys/\Reps X.K H ys ds/\mX ds=some bs/\Q (.bl (bs.any id)) H) uT:=by
 intro H hid vs ds d Q hf h r q;unfold uT at h;split at h
 ·rename_i zs
  cases e1:mX zs with
  |none=>rw[e1] at h;cases h
  |some bs=>
   rw[e1] at h;cases h;obtain⟨x,rfl,r1⟩:=Reps1.one r
   obtain⟨a,xs,rfl,h1,h2⟩:=r1.lst
   exact⟨a,xs,zs,bs,rfl,h1,h2.mono (gy _ _),e1,q _ H (Same.refl _) .bl⟩
 ·cases h
def iB:List D->Option (List Int)
 | []=>some []
 | .int b::r=>(iB r).map (b:: ·)
 |_=>none
theorem nU: ∀ {ds:List D} {ns:List Int},iB ds=some ns->ds=ns.map D.int
 | [],_,h=>by cases h;rfl
 |x::r,bs,h=>by
  cases x with
  |int b=>
   unfold iB at h;cases e1:iB r with
   |none=>rw[e1] at h;cases h
   |some rs=>rw[e1] at h;cases h;simp[nU e1]
  |_=>cases h
theorem mJ {K:K7}{F:Hp}: ∀ {ns:List Int} {xs:List V},Reps K F xs (ns.map D.int)->xs=ns.map V.int
 | [],_,.nil=>rfl
 |n::ns,_,.cons r t=>by cases r;rw[mJ t];rfl
def oP:List Int->Int
 | []=>0
 |a::r=>r.foldl (λm b=>if b<m then b else m) a
theorem vi(r:List Int): ∀a:Int,r.foldl (λm b=>if b<m then b else m) a∈a::r/\ ∀x∈a::r,r.foldl (λm b=>if b<m then b else m) a<=x:=by
 induction r with
 |nil=>intro a;simp
 |cons b r ih=>
  intro a;rw[PC];obtain⟨h1,h2⟩:=ih (if b<a then b else a)
  have h3:=h2 (if b<a then b else a) Lu
  refine⟨?_,λx hx=>?_⟩
  ·rcases Ll.mp h1 with e|e
   ·rw[e];split<;>simp
   ·exact Lb _ (Lb _ e)
  ·rcases Ll.mp hx with rfl|hx
   ·split at h3<;>split<;>omega
   ·rcases Ll.mp hx with rfl|hx
    ·split at h3<;>split<;>omega
    ·exact h2 x (Lb _ hx)
theorem CP: ∀(ns:List Int),ns≠[]->oP ns∈ns/\ ∀a∈ns,oP ns<=a
 | [],h=>absurd rfl h
 |a::r,_=>vi r a
theorem zU {ns:List Int}{m:Int}(h1:m∈ns)(h2: ∀a∈ns,m<=a):m=oP ns:=by
 obtain⟨g1,g2⟩:=CP ns (by intro e;subst e;simp at h1)
 have:=h2 _ g1
 have:=g2 _ h1
 omega
theorem zi(hc:X.calm=true):jh X (.builtin "min") (λxs H Q=> ∃a ns,xs=[.ref a]/\SqL X.K H a (ns.map V.int)/\ns≠[]/\Q (.int (oP ns)) H):=by
 intro af s σ H xs us Q I r h;obtain⟨a,ns,rfl,h1,h2,q⟩:=h
 obtain⟨u,rfl,rx⟩:=mK r
 cases rx
 obtain⟨its,rv,pl,hz⟩:=I.list h1
 have hi:Qb its ns:=wW rv
 obtain⟨xs,e⟩:=hi.allInts.items
 have hns:ns=xs.toList.map (·.1):=by rw[<-hi.numsOf,<-nums_intItems,<-e]
 have hsz:0<xs.size:=by
  have:0<ns.length:=by cases ns with|nil=>exact absurd rfl h2|cons=>simp
  rw[hns,K5,Nr] at this;exact this
 have hl:=pl.isList
 rw[e] at hl;refine min_intList (I.ok.hd hc) hl hsz λv h' tk hv hk=>?_
 obtain⟨t,rfl⟩:=intItems_at hv
 obtain⟨g1,g2⟩:=argBest_lt (numAt xs) (xs.size-1)
 have em:numAt xs (argBest (λi j=>decide (numAt xs i<numAt xs j)) (xs.size-1))=oP ns:=by
  refine zU ?_ λa ha=>?_
  ·rw[hns,numAt_eq];exact getD_mem (by rw[K5,Nr];omega)
  ·rw[hns] at ha
   obtain⟨j,hj,rfl⟩:=mem_getD ha
   rw[K5,Nr] at hj;rw[<-numAt_eq];exact g2 j (by omega)
 exact⟨.int (oP ns),H,I.kept hk,⟨t,by rw[<-em]⟩,q⟩
def sv:List D->Option D
 | [.lst ds]=>(iB ds).bind λns=>if ns.isEmpty then none else some (.int (oP ns))
 |_=>none
theorem EB:lC X.K .s (λxs H Q=> ∃a ns,xs=[.ref a]/\SqL X.K H a (ns.map V.int)/\ns≠[]/\Q (.int (oP ns)) H) sv:=by
 intro H hid vs ds d Q hf h r q;unfold sv at h;split at h
 ·rename_i zs
  cases e1:iB zs with
  |none=>rw[e1] at h;cases h
  |some ns=>
   rw[e1] at h;have h:(if ns.isEmpty then none else some (D.int (oP ns)))=some d:=h
   split at h
   ·cases h
   ·cases h
    obtain⟨x,rfl,r1⟩:=Reps1.one r
    obtain⟨a,xs,rfl,h1,h2⟩:=r1.lst
    rw[nU e1] at h2;rw[mJ h2] at h1;exact⟨a,ns,rfl,h1,(by intro e;subst e;simp at*),q _ H (Same.refl _) .int⟩
 ·cases h
end
end L2
namespace PySem.SeqAt
open AutoSeq1 (wpAny_loadPart')
open MeetsSeq MeetsSeq2 MeetsSeq3 SeqRoads2
theorem pM {M:Ro}{A:LC}{E:KU->KZ->Prop}{s:KZ}{β:Type}(f:Nat->β->Sem (ForInStep β))(I:List Nat->β->KZ->Prop)(Q:β->KZ->Prop)
 (turn: ∀x rest b s,I (x::rest) b s->Lq M A (f x b) (λr s'=>match r with| .yield b'=>I rest b' s'| .done b'=>Q b' s') E s)
 (fin: ∀b s,I [] b s->Q b s) (a b:Nat) (c:β) (h:I (Mj a (b-a)) c s):Lq M A (forIn [a:b] c f) Q E s:=by
 rw[Std.Legacy.Range.forIn_eq_forIn_range'];have hsz:([a:b]:Std.Legacy.Range).size=b-a:=by simp[Std.Legacy.Range.size]
 show Lq M A (forIn (Mj a ([a:b]:Std.Legacy.Range).size 1) c f) Q E s;rw[hsz];exact wpAny_forIn_list f I Q turn fin _ c h
theorem tuple_indexAt(l:Addr)(items:Array KU)(n:Nat)(dd:Option Addr)(sl:Array (Option KU))(x:KU)(e:KU->Bool)(j:Nat)(hj:j<items.size)(hit:e items[j]=true)(hno: ∀m (hm:m<items.size),m<j->e items[m]=false):
 Meets (Builtin.«tuple.index» ⟨[.ref l,x],[]⟩)
  (λA R s=>s.heap.get? l=some {cls:=.type "tuple",dict:=dd,data:=.seq items n,slots:=sl}/\(∀y,y∈items->EqAt A.in1 s y x (e y))/\R (.ok (.ret (.int j s.toks))) {s with toks:=s.toks+1}):=
 .of_wp λprog w A R s h=>by
  obtain⟨hp,g,d,tk,os⟩:=s;obtain⟨hl,he,h⟩:=h
  wp_walk using Nk hl,pM _ (λrest b s'=>b.1=none/\s'=⟨hp,g,d,tk,os⟩/\ ∃i,i<=j/\rest=Mj i (items.size-i)) _
  case turn=>
   rintro y rest b s' ⟨hb,rfl,i,hij,hz⟩
   have lt:i<items.size:=by omega
   have er:Mj i (items.size-i)=i::Mj (i+1) (items.size- (i+1)):=by
    rw[show items.size-i=(items.size- (i+1))+1 by omega];rfl
   rw[er] at hz;injection hz with e1 e2
   subst e1 e2;rw[show items[y]? =some items[y] by simp[lt]]
   refine KY (he _ (Array.getElem_mem lt) prog w _ _ ?_)
   by_cases ej:y=j
   ·subst ej
    rw[hit]
    wp_walk
    exact⟨_,rfl,h⟩
   ·rw[hno y lt (by omega)]
    wp_walk
    exact⟨rfl,rfl,y+1,by omega,rfl⟩
  case fin=>
   rintro⟨b1,b2⟩ s' ⟨hb,rfl,i,hij,hz⟩
   have:=congrArg OC hz
   simp at this;omega
  case h=>
   exact⟨rfl,rfl,0,Na _,by simp⟩
end PySem.SeqAt
namespace L2
open PySem PySem.Spec PyProof.Rows
def rG(ds:List D)(x:D):Option Nat:=ds.findIdx? λd=>eN d x
theorem Dy {X:Cx}{af:List (Addr×Obj)}{σ:St}{H:Hp}{s:KZ}(I:Inv X af σ H s){x:D}{v:V}{a:KU}{A:LC}(hx:Rep X.K H v x)(ra:RelV v a): ∀ {ds:List D} {xs:List V} {its:List KU},Reps X.K H xs ds->Vals xs its->A.units+dB ds<M4->
 ∃e:KU->Bool,(∀y,y∈its->Nf A s y a (e y))/\ ∀(j:Nat) (hj:j<its.length) (d:D),ds[j]? =some d->e its[j]=eN d x:=by
 intro ds xs its r rv hu
 classical
 let e:KU->Bool:=λy=>if h: ∃(d:D) (u:V),RelV u y/\Rep X.K H u d then eN h.choose x else false
 have key: ∀y u d,RelV u y->Rep X.K H u d->e y=eN d x:=λy u d h1 h2=>by
  have hex: ∃(d:D) (u:V),RelV u y/\Rep X.K H u d:=⟨d,u,h1,h2⟩
  show(if h: ∃(d:D) (u:V),RelV u y/\Rep X.K H u d then eN h.choose x else false)=eN d x
  rw[dif_pos hex];obtain⟨u',s1,s2⟩:=hex.choose_spec
  have eu:u'=u:=s1.inj h1
  rw[eu] at s2;exact Rep.eqv I s2 h2 x
 have l1:=rv.length
 have l2:=r.length
 have at': ∀(j:Nat) (hj:j<its.length),∃u d,ds[j]? =some d/\RelV u its[j]/\Rep X.K H u d:=λj hj=>by
  have ex:xs[j]? =some xs[j]:=K0 (by omega)
  obtain⟨w,e1,r1⟩:=rv.get ex
  obtain⟨d,e2,r2⟩:=r.get' ex
  have:its[j]=w:=by rw[K0 hj] at e1;exact LH e1
  rw[this];exact⟨_,d,e2,r1,r2⟩
 refine⟨e,λy hy=>?_,λj hj d hd=>?_⟩
 ·obtain⟨j,hj,rfl⟩:=P2.mp hy
  obtain⟨u,d,e1,r1,r2⟩:=at' j hj
  rw[key _ _ _ r1 r2];have:=nZ e1
  exact o6 I (fq d+1) (LY _) (by omega) r1 ra r2 hx
 ·obtain⟨u,d',e1,r1,r2⟩:=at' j hj
  rw[hd] at e1;cases e1;exact key _ _ _ r1 r2
section
variable {X:Cx}{c:Ct}{e o:Expr}{k k2:Kd}{f g:FE}{pos p p2 apos:Pos}
theorem ve(hu:X.A.units+64<M4):Kz X "tuple.index" (λv vs H Q=> ∃a xs ds x y j,v=.ref a/\vs=[x]/\SqT X.K H a xs/\Reps X.K H xs ds/\Rep X.K H x y/\dB ds<=32/\rG ds y=some j/\Q (.int j) H):=by
 intro af s σ H v vs u us Q I rv rs h;obtain⟨a,xs,ds,x,y,j,rfl,rfl,h1,h2,h3,h4,h5,q⟩:=h
 cases rv
 obtain⟨w,rfl,rw'⟩:=mK rs
 obtain⟨its,r,pl,hz⟩:=I.tuple h1
 have l1:=r.length
 have l2:=h2.length
 obtain⟨e,g1,g2⟩:=Dy (A:=X.A.in1.in1) I h3 rw' h2 r (by rw[gz,gz];omega)
 unfold rG at h5;rw[List.findIdx?_eq_some_iff_getElem] at h5;obtain⟨hj,hp,hno⟩:=h5
 obtain⟨⟨cls,dd,data,sl⟩,ho,hc,n,hd⟩:=id pl
 simp only at hc hd;subst hc hd;have hj':j<its.length:=by omega
 have gt: ∀m (hm:m<its.length) (hm2:m<ds.length),e its[m]=eN ds[m] y:=λm hm hm2=>g2 m hm _ (K0 hm2)
 refine QD O6 ⟨_,ho,rfl⟩ PySem.F.entry_tuple_index (PySem.F.args_tuple_index_2 _ _) (SeqAt.tuple_indexAt a its.toArray n dd sl w e j (by simpa using hj') ?_ ?_) ⟨ho,?_,?_⟩
 ·simp only[P3];rw[gt j hj' hj];exact hp
 ·intro m hm hmj
  simp only[P3];rw[gt m (by simpa using hm) (by omega)]
  have:=hno m hmj
  simpa using this
 ·intro z hz'
  exact WV (g1 z (by simpa using hz'))
 ·exact⟨.int j,H,I.tok _,⟨_,rfl⟩,q⟩
end
section
variable {X:Cx}{c:Ct}{e o:Expr}{k k2:Kd}{f g:FE}{pos p p2 apos:Pos}
def lB:D->D->Option D:=λt x=>match t with
 | .tup ds=>if dB ds<=32 then(rG ds x).map λj=>.int j else none
 |_=>none
theorem eZ(hu:X.A.units+64<M4)(ho:DP X c k o f)(he:DP X c k2 e g)
 (hbase:Qs o "index" X.env (eval o X.env)=eval o X.env:=by rfl)
 (hfew:((M2 pos (Le [e] X.env)).all (λx=> !x.1)&&(UF pos (Rs [] X.env)).all (λx=>x.1.isSome)
   &&decide (([e]:List Expr).length+([]:List QV).length+(if([]:List QV).isEmpty then 0 else 1)<30))=true:=by rfl)
 (hline:(apos.endLine==pos.line)=true:=by rfl) (hs:Le [e] X.env=(false,eval e X.env)::Le [] X.env:=by rfl) (hplain:(M2 pos (Le [] X.env)).any (·.1)=false:=by rfl):
 DP X c .s (.Call (.Attribute o "index" apos) [e] [] pos) (av lB f g):=λhid ρ=>
 PE.imp (Fo PySem.F.plainAttrs_tuple O6 PySem.F.type_tuple_index (ve hu) (ho hid ρ) (il (he hid ρ) mL hs) hbase hfew hline hs hplain) λσ H Q hq_=>by
  obtain⟨sr,d,hd,q⟩:=hq_
  obtain⟨x,y,e1,e2,e3⟩:=vb hd
  unfold lB at e3;split at e3
  ·split at e3
   ·rename_i ds _
    cases e4:rG ds y with
    |none=>rw[e4] at e3;cases e3
    |some j=>
     rw[e4] at e3;cases e3;refine⟨sr,_,e1,λv H1 s1 r1=>?_⟩
     have b1:=RK.b k r1 λa n=>sr.fresh n
     obtain⟨a,xs,rfl,t1,t2,t3⟩:=b1.tup
     refine⟨.inr (.inl ⟨rfl,xs,t2⟩),sr.ext s1,y,e2,λu H2 s2 r2=>?_⟩
     have b2:=RK.b k2 r2 λa n=>(sr.ext s1).fresh n
     exact⟨a,xs,ds,u,y,j,rfl,rfl,Same.seqT s2 t2,(t3.mono (aV s2)).mono (gy _ _),b2.full, ‹_›,e4,q _ H2 (s1.trans s2) .int⟩
   ·cases e3
  ·cases e3
theorem zn:jh X (.type "range") (λxs H Q=> ∃j:Int,xs=[.int j]/\ ∀p,H p=none->Q (.ref p) (bI H p (.rng 0 j))):=by
 intro af s σ H xs us Q I r h;obtain⟨j,rfl,q⟩:=h
 obtain⟨u,rfl,t,rfl⟩:=mK r
 refine call_range_1 ⟨.ref s.heap.objs.size,_,I.laid (λb o e=>K3 _ e) (Ld _) ?_,rfl,q _ (I.hok.fresh (Ld _))⟩
 exact⟨_,_,_,Lj _ rfl⟩
theorem HX(lo:Int)(n:Nat): ∀ {K:K7} {F:Hp},Reps K F ((KW n).map λ(i:Nat)=>V.int (lo+i)) (vp lo n):=by
 intro K F;unfold vp
 generalize KW n=l
 induction l with
 |nil=>exact .nil
 |cons a l ih=>exact .cons .int ih
theorem rD(hc:X.calm=true):jh X (.type "list") (λxs H Q=> ∃p lo hi,xs=[.ref p]/\H p=some (.rng lo hi)/\ -(2^30)<=lo/\lo<=2^30/\ -(2^30)<=hi/\hi-lo<=1000000/\hi<=2^31/\ ∀l,H l=none->Q (.ref l) (bI H l (.lst ((KW (hi-lo).toNat).map λ(i:Nat)=>V.int (lo+i))))):=by
 intro af s σ H xs us Q I r h;obtain⟨p,lo,hi,rfl,hp,b1,b2,b3,b4,b5,q⟩:=h
 obtain⟨u,rfl,rx⟩:=mK r
 cases rx
 obtain⟨t,u,v,hr⟩:=I.hok p _ hp
 have hsz:N6 lo hi 1=(hi-lo).toNat:=by
  unfold N6;rw[if_pos (by decide)]
  split
  ·rw[Int.ediv_one];omega
  ·omega
 refine call_list_range (a:=lo) (b:=hi) (c:=1) (n:=(hi-lo).toNat) (I.ok.hd hc) hr ?_ hsz (by omega) λh' tk acc' c' kp hS hacc=>?_
 ·exact small_one (by omega) (by omega) (by omega) (by omega)
 ·have hz:(hi-lo).toNat<=sizeLine:=by rw[Rq];omega
  refine⟨.ref s.heap.objs.size,_,I.laid (t':=tk) kp (Ld _) (show ObjOk X.prog X.w _ h' _ (.lst _) from⟨by simpa using hz,acc'.toList,c',?_,by simpa using hS⟩),rfl,q _ (I.hok.fresh (Ld _))⟩
  obtain⟨ha,hb⟩:=hacc
  have key: ∀(l:List KU) (k m:Nat),l.length=m->(∀(j:Nat) v,l[j]? =some v-> ∃t,v=.int (lo+((k+j:Nat):Int)*1) t)->Vals ((Mj k m).map λ(i:Nat)=>V.int (lo+i)) l:=by
   intro l
   induction l with
   |nil=>intro k m hm _;subst hm;exact .nil
   |cons x l ih=>
    intro k m hm hv;subst hm;rw[LM,Ph];refine .cons ?_ (ih (k+1) l.length rfl λj v e=>?_)
    ·obtain⟨t,rfl⟩:=hv 0 x rfl
     exact⟨t,by simp⟩
    ·obtain⟨t,rfl⟩:=hv (j+1) v (by simpa using e)
     exact⟨t,by congr 3;omega⟩
  have:=key acc'.toList 0 (hi-lo).toNat (by simpa using ha) λj v e=>by
   have:=hb j v (by simpa using e)
   simpa using this
  rw[MX];exact this
def EH:D->Option D
 | .int j=>if j.natAbs<=1000000 then some (.lst (vp 0 j.toNat)) else none
 |_=>none
def C1(f:FE):FE:=λρ=>(f ρ).bind EH
theorem mF(hc:X.calm=true)(hml:X.mg "list"=none)(hmr:X.mg "range"=none)(he:DP X c k e f)(hgl:Gl X "list":=by rfl)(hgr:Gl X "range":=by rfl)(hvl:Nm "list"=some (.type "list"):=by kernel_rfl)(hvr:Nm "range"=some (.type "range"):=by kernel_rfl)
 (hs1:Le [e] X.env=(false,eval e X.env)::Le [] X.env:=by rfl) (hpl1:(M2 pos (Le [] X.env)).any (·.1)=false:=by rfl) (hpl2:(M2 p2 (Le [] X.env)).any (·.1)=false:=by rfl) {p3:Pos}
 (hs2:Le [.Call (.Name "range" p3) [e] [] p2] X.env=(false,eval (.Call (.Name "range" p3) [e] [] p2) X.env)::Le [] X.env:=by rfl):
 DP X c .n (.Call (.Name "list" p) [.Call (.Name "range" p3) [e] [] p2] [] pos) (C1 f):=λhid ρ=>
 PE.imp (oN (rD hc) hgl hml hvl (il (oN zn hgr hmr hvr (il (he hid ρ) mL hs1) (by decide) (by decide) hs1 hpl2) mL hs2) (by decide) (by decide) hs2 hpl1) λσ H Q hq_=>by
  obtain⟨sr,d,hd,q⟩:=hq_
  unfold C1 at hd;cases e1:f ρ with
  |none=>rw[e1] at hd;cases hd
  |some z=>
   rw[e1] at hd;have hd:EH z=some d:=hd
   unfold EH at hd;split at hd
   ·split at hd
    ·rename_i _ j _ _
     cases hd
     refine⟨sr,_,e1,λv H1 s1 r1=>?_⟩
     have b1:=(RK.b k r1 λa n=>sr.fresh n).int
     cases b1
     refine⟨j,rfl,λr hr=>?_⟩
     refine⟨r,0,j,rfl,aP,by omega,by omega,by omega,by omega,by omega,λl hl=>?_⟩
     have s2:Same H (bI H1 r (.rng 0 j)):=s1.trans (bM hr _)
     refine q _ _ (s2.trans (bM hl _)) ?_
     have:=oE (hid:=hid) (K:=X.K) hl s2 (HX 0 (j-0).toNat)
     rw[show(j-0).toNat=j.toNat by omega] at this⊢
     exact this
    ·cases hd
   ·cases hd
def bC:=i2 (λ_ _=>true) λi j=>.int (i+j)
def km:=i2 (λ_ _=>true) λi j=>.int (i-j)
def gR:=i2 (λi j=>decide (i.natAbs<2^1000)&&decide (j.natAbs<2^1000)) λi j=>.int (i*j)
def cH:=i2 (λ_ j=>decide (0<j)) λi j=>.int (i % j)
def iZ:=i2 (λ_ j=>decide (0<j)&&decide (j.natAbs<2^1000)) λi j=>.int (i / j)
def gH:=i2 (λi j=>decide (0<=j)&&decide (j<=1000000)&&decide (i.natAbs<2^64)) λi j=>.int (i^j.toNat)
def uv:=i2 (λ_ _=>true) λi j=>.bl (decide (i<j))
def qK:=i2 (λ_ _=>true) λi j=>.bl (decide (i<=j))
def Hx:=i2 (λ_ _=>true) λi j=>.bl (decide (j<i))
def GZ:=i2 (λ_ _=>true) λi j=>.bl (decide (j<=i))
theorem yt {i:Int}(h:i.natAbs<2^1000):Qk i<=2^20:=by
 unfold Qk;split
 ·exact Na _
 ·rename_i hz
  have h0:i.natAbs≠0:=by simp at hz;omega
  have:=(U6 h0).mpr h
  omega
theorem Ec:md X (N9 .Mult) (rI IntMulOk λi j=>.int (i*j)):=Je λ_ _ _ _ _ _ _ hc q=>mul_int q hc
variable {a b:Expr}
theorem cQ {k1 k2:Kd}(ha:DP X c k1 a f)(hb:DP X c k2 b g):DP X c .s (.BinOp a .Add b pos) (av bC f g):=qy z9 Cn ha hb
theorem m8 {k1 k2:Kd}(ha:DP X c k1 a f)(hb:DP X c k2 b g):DP X c .s (.BinOp a .Sub b pos) (av km f g):=qy FW Cn ha hb
theorem GK {K:K7}:pg K .s (rI IntMulOk λi j=>.int (i*j)) gR:=D8 λi j h=>by
 simp only[Lk,decide_eq_true_eq] at h;exact IntMulOk.of_bits (yt h.1) (yt h.2)
theorem oJ {k1 k2:Kd}(ha:DP X c k1 a f)(hb:DP X c k2 b g):DP X c .s (.BinOp a .Mult b pos) (av gR f g):=qy Ec GK ha hb
theorem Gj {K:K7}:pg K .s (rI (λ_ j=>0<j) λi j=>.int (i % j)) cH:=D8 λi j h=>by simpa using h
theorem gO {k1 k2:Kd}(ha:DP X c k1 a f)(hb:DP X c k2 b g):DP X c .s (.BinOp a .Mod b pos) (av cH f g):=qy Ge Gj ha hb
theorem Bp:md X (N9 .FloorDiv) (rI (λ_ j=>0<j/\j.natAbs<2^1000) λi j=>.int (i / j)):=Je λi j _ _ _ _ _ hc q=>by
 obtain⟨h1,h2⟩:=hc
 refine floordiv_int (by omega) (by rw[Int.fdiv_eq_ediv_of_nonneg i (by omega)];exact q) (.inl (PyProof.noPylong_of_log2 ?_))
 have:=(U6 (n:=j.natAbs) (by omega)).mpr h2
 omega
theorem Da {K:K7}:pg K .s (rI (λ_ j=>0<j/\j.natAbs<2^1000) λi j=>.int (i / j)) iZ:=D8 λi j h=>by
 simp only[Lk,decide_eq_true_eq] at h;exact⟨h.1,h.2⟩
theorem nu {k1 k2:Kd}(ha:DP X c k1 a f)(hb:DP X c k2 b g):DP X c .s (.BinOp a .FloorDiv b pos) (av iZ f g):=qy Bp Da ha hb
theorem FU {K:K7}:pg K .s (rI IK λi j=>.int (i^j.toNat)) gH:=D8 λi j h=>by
 simp only[Lk,decide_eq_true_eq] at h;exact⟨h.1.1,h.1.2,h.2⟩
theorem oD {k1 k2:Kd}(ha:DP X c k1 a f)(hb:DP X c k2 b g):DP X c .s (.BinOp a .Pow b pos) (av gH f g):=qy Gs FU ha hb
theorem AY {f g:GE}(ha:DE X c .s a f)(hb:DE X c .s b g):DE X c .s (.BinOp a .Add b pos) (p7 bC f g):=HB z9 Cn ha hb
def FK:D->Option D
 | .int i=>some (.int (-i))
 |_=>none
def tO(f:FE):FE:=λρ=>(f ρ).bind FK
theorem ub(ha:DP X c k a f):DP X c .s (.UnaryOp .USub a pos) (tO f):=λhid ρ=>PE.imp (Iw GQ (ha hid ρ)) λσ H Q hq_=>by
 obtain⟨sr,d,hd,q⟩:=hq_
 unfold tO at hd;cases e1:f ρ with
 |none=>rw[e1] at hd;cases hd
 |some z=>
  rw[e1] at hd;have hd:FK z=some d:=hd
  unfold FK at hd;split at hd
  ·cases hd
   refine⟨sr,_,e1,λv H1 s1 r1=>?_⟩
   cases (RK.b k r1 λa n=>sr.fresh n).int
   exact⟨_,rfl,q _ H1 s1 .int⟩
  ·cases hd
end
structure Cl(P:LB)(w:L1)(K:K7)(mg:Str->Option KU)(base:Heap)(k:Nat)(x:Str)(ps:List Str)(sp:Sp):Prop where
 ex: ∃f fd,FnOk P w K mg base ur k f fd ps sp/\mg x=some (.ref f)/\Ly K (.ref f)=true/\Binds K fd ps []
structure Df(K:K7)(mg:Str->Option KU)(x:Str)(st:Stmt)(ps:List Str):Prop where
 ex: ∃f fd,Fun K x x st f fd/\mg x=some (.ref f)/\Binds K fd ps []
section
variable {P:LB}{w:L1}{K:K7}{mg:Str->Option KU}{base:Heap}{x:Str}{st:Stmt}{N ps:List Str}{k n:Nat}{t:FS}{kd:Kd}
theorem br(F:Df K mg x st ps)(S:FnScope N ps (aq st))(hkd:kd≠ .b)(hn:ps.length=n)
 (body: ∀(f:Addr) (cdv:KU) (A:LC) (outer:List Env) (s:KZ) (H:Hp) (hid:cj) (E:XK),Room k (A.deeper (NF x (aq st) s.heap.objs.size f cdv))->
   vV (o9 ur P w K mg base N x (aq st) f cdv A outer s H E).nox ⟨H,hid,λ_=>false⟩ kd (aK st) t):
 Cl P w K mg base (k+1) x ps (dS K kd n (gr kd N.length t)):=by
 obtain⟨f,fd,F,hm,hb⟩:=F.ex
 subst hn;exact⟨f,fd,yN F S hkd (body f),hm,F.kp,hb⟩
theorem tX(F:Df K mg x st ps)(S:FnScope N ps (aq st))(hkd:kd≠ .b)(hn:ps.length=n+1)
 (body: ∀(f:Addr) (cdv:KU) (A:LC) (outer:List Env) (s:KZ) (H:Hp) (hid:cj) (a:Addr) (E:XK),Room k (A.deeper (NF x (aq st) s.heap.objs.size f cdv))->
   vV (o9 ur P w K mg base N x (aq st) f cdv A outer s H E).nox ⟨H,hid,λb=>decide (b=a)⟩ kd (aK st) t):
 Cl P w K mg base (k+1) x ps (vX K kd n (vY kd N.length t)):=by
 obtain⟨f,fd,F,hm,hb⟩:=F.ex
 exact⟨f,fd,Hd F S hkd hn (body f),hm,F.kp,hb⟩
end
section
variable {X:Cx}{c:Ct}{e a b:Expr}{es rest:List Expr}{k:Kd}{pos p:Pos}{x:Str}{ps:List Str}{j n:Nat}
def nF(n:Nat)(P:List D->Option D):List D->Option D:=λds=>if ds.length=n then P ds else none
theorem bB {P:List D->Option D}{fs:FA}(C:Cl X.prog X.w X.K X.mg X.base j x ps (dS X.K k n P))(hr:Room j X.A)
 (ha:DA X c (e::es) fs) (hg:Gl X x:=by rfl) (hdb:(x==("__debug__":Str))=false:=by decide) (he:Le (e::es) X.env=(false,eval e X.env)::Le es X.env:=by rfl) (hpl:(M2 pos (Le es X.env)).any (·.1)=false:=by rfl):
 DP X c k (.Call (.Name x p) (e::es) [] pos) (ak (nF n P) fs):=by
 obtain⟨f,fd,F,hm,hk,hb⟩:=C.ex
 exact Ek F hr hm hk hb ha hg hdb he hpl
theorem ly(i:Nat){y:Str}{py:Pos}{M:List D->List D->Option (D×List D)}{fs:GA}(C:Cl X.prog X.w X.K X.mg X.base j x ps (vX X.K k n M))(hr:Room j X.A)
 (ha:DG X c es fs) (hkb:k≠ .b:=by decide) (hN:X.N[i]? =some y:=by rfl) (hv:zg X.env.scope y:=by first|exact MQ rfl|exact Mk (MQ rfl)|exact Mk (Mk rfl)) (hd:(y==("__debug__":Str))=false:=by decide)
 (hcd:(y==("__classdict__":Str))=false:=by decide) (hs:Le (.Name y py::es) X.env=(false,eval (.Name y py) X.env)::Le es X.env:=by rfl) (hg:Gl X x:=by rfl) (hdb:(x==("__debug__":Str))=false:=by decide) (hpl:(M2 pos (Le es X.env)).any (·.1)=false:=by rfl):
 DE X c k (.Call (.Name x p) (.Name y py::es) [] pos) (bn i n M fs):=by
 obtain⟨f,fd,F,hm,hk,hb⟩:=C.ex
 exact A5 i F hr hm hk hb ha hkb hN hv hd hcd hs hg hdb hpl
end
open PySem PySem.W PyProof.Rows
open PySem PySem.W PySem.Calls PyProof.Rows
open PySem PySem.W PySem.Spec PyProof.Rows
def tL(k:List Int):D:=.tup (k.map D.int)
theorem nO(ns:List Int):iB (ns.map D.int)=some ns:=by
 induction ns with
 |nil=>rfl
 |cons n ns ih=>show(iB (ns.map D.int)).map (n:: ·)=_;rw[ih];rfl
def Ii:List KU->List Int->Prop:=Paired λu i=> ∃t,u=P8 i t
theorem xO {K:K7}{F:Hp}: ∀ {xs:List V} {us:List KU} {ns:List Int},Vals xs us->Reps K F xs (ns.map D.int)->Ii us ns
 |_,_,[],r,p=>by cases p;cases r;exact .nil
 |_,_,n::ns,r,p=>by
  cases p with
  |cons p1 p2=>cases r with
   |cons r1 r2=>cases p1;exact .cons r1 (xO r2 p2)
theorem vB: ∀ {us:List KU} {ns:List Int} {i:Nat} {u:KU},Ii us ns->us[i]? =some u-> ∃n,ns[i]? =some n/\ ∃t,u=P8 n t
 |_,_,_,_,.nil,e=>by simp at e
 |_,_,0,_,.cons h _,e=>by simp at e;subst e;exact⟨_,rfl,h⟩
 |_,_,i+1,u,.cons _ r,e=>by
  obtain⟨n,h1,h2⟩:=vB (i:=i) (u:=u) r (by simpa using e)
  exact⟨n,by simpa using h1,h2⟩
section
variable {X:Cx}{c:Ct}{e a b:Expr}{es rest:List Expr}{f g:GE}{fs:GA}{k:Kd}{pos p:Pos}{x:Str}{id T:String}{r:List V->Hp->VK->Prop}{F:List D->Option D}{ps:List Str}{j n:Nat}
def pf(F:List D->Option D)(fs:GA):GE:=λρ=>(fs ρ).bind λq=>(F q.1).map λd=>(d,q.2)
theorem wf {F:List D->Option D}{ρ ρ':aJ}{d:D}(h:pf F fs ρ=some (d,ρ')): ∃ds,fs ρ=some (ds,ρ')/\F ds=some d:=by
 unfold pf at h;cases e:fs ρ with
 |none=>rw[e] at h;cases h
 |some q=>
  rw[e] at h;dsimp only[Nn] at h;cases e2:F q.1 with
  |none=>rw[e2] at h;cases h
  |some z=>rw[e2] at h;cases h;exact⟨q.1,rfl,e2⟩
theorem Hf {P:List D->Option D}(C:Cl X.prog X.w X.K X.mg X.base j x ps (dS X.K k n P))(hr:Room j X.A)
 (ha:DG X c (e::es) fs) (hkb:k≠ .b:=by decide) (hg:Gl X x:=by rfl) (hdb:(x==("__debug__":Str))=false:=by decide) (he:Le (e::es) X.env=(false,eval e X.env)::Le es X.env:=by rfl) (hpl:(M2 pos (Le es X.env)).any (·.1)=false:=by rfl):
 DE X c k (.Call (.Name x p) (e::es) [] pos) (pf (nF n P) fs):=by
 obtain⟨f,fd,F,hm,hk,hb⟩:=C.ex
 exact λhid ρ=>PE.imp (pW F hr hg hm hk hb .nil (xA (X:=X)) (ha hid ρ) hdb he hpl) λσ H Q hq_=>by
  obtain⟨sr,d,ρ',hd,q⟩:=hq_
  obtain⟨ds,e1,e2⟩:=wf hd
  unfold nF at e2;split at e2
  ·refine⟨sr,ds,ρ',e1,λvs H1 k1 s1 r1=>?_⟩
   show dS X.K k n P (vs++[]) H1 Q E0;rw[Me];exact⟨hid,ds,s1.trk,r1, ‹_›,d,e2,λv H' s2 r2=>q v H' (PostE.left k1 (s1.post s2 r2 hkb))⟩
  ·cases e2
end
section
variable {prog:LB}{w:L1}{A:LC}{R:Oa->KZ->Prop}{s:KZ}{elt t1 t2 i1 i2:Expr}{ifs1 ifs2:List Expr}{scope:MI}{pos:Pos}{it acc:KU}{env:Env}
theorem E1:OE (.ListComp elt [⟨t1,i1,ifs1,0⟩,⟨t2,i2,ifs2,0⟩] scope pos) 1 it acc env=(do
 NJ i2.pos
 match <-OO it with
 |none=>pure (.done .next)
 |some v=>
  MO t2 it v
  Nq t2 env v
  let ok <-kU ifs2 env
  if ok=true then do(do let _ <-call (.builtin "list.append") [acc,<-eval elt env]);Qq (.compLoop (.ListComp elt [⟨t1,i1,ifs1,0⟩,⟨t2,i2,ifs2,0⟩] scope pos) 1 it acc env)
  else Qq (.compLoop (.ListComp elt [⟨t1,i1,ifs1,0⟩,⟨t2,i2,ifs2,0⟩] scope pos) 1 it acc env)):=by rfl
theorem Bl:OE (.ListComp elt [⟨t1,i1,ifs1,0⟩,⟨t2,i2,ifs2,0⟩] scope pos) 0 it acc env=(do
 NJ i1.pos
 match <-OO it with
 |none=>pure (.done .next)
 |some v=>
  MO t1 it v
  Nq t1 env v
  let ok <-kU ifs1 env
  if ok=true then do
   let x <-eval i2 env
   NJ i2.pos
   let x <-Lz i2 env x
   let _ <-runOwn (.compStart (.ListComp elt [⟨t1,i1,ifs1,0⟩,⟨t2,i2,ifs2,0⟩] scope pos) 1 (<-N8 [x] (OP x)) acc env) env
   Qq (.compLoop (.ListComp elt [⟨t1,i1,ifs1,0⟩,⟨t2,i2,ifs2,0⟩] scope pos) 0 it acc env)
  else Qq (.compLoop (.ListComp elt [⟨t1,i1,ifs1,0⟩,⟨t2,i2,ifs2,0⟩] scope pos) 0 it acc env)):=by rfl
abbrev rK:=(KZ->Prop)->KZ->Prop
def qk(prog:LB)(w:L1)(A:LC)(elt:Expr)(acc:KU)(env:Env):rK:=λQ s=>
 Lq (model prog w) A (eval elt env) (λx s₄=>Lq (model prog w) A (call (.builtin "list.append") [acc,x]) (λ_ s₅=>Q s₅) (λ_ _=>False) s₄) (λ_ _=>False) s
def lW(prog:LB)(w:L1)(A:LC)(e iter:Expr)(acc:KU)(env:Env):rK:=λQ s=>
 Lq (model prog w) A (eval iter env) (λx s₄=>Lq (model prog w) A (OP x) (λit s₅=>Mg (model prog w) A (.compStart e 1 it acc env) (λr s'=>match r with
  | .ok _=>Q s'
  | .error _=>False) s₅) (λ_ _=>False) s₄) (λ_ _=>False) s
def nC(prog:LB)(w:L1)(A:LC)(code:Code)(tg:Expr)(ifs:List Expr)(it:KU)(env:Env)(TA:rK)(R:Oa->KZ->Prop):Prop:= ∀(I:Nat->KZ->Prop),
 (∀n s,I n s->Lq (model prog w) A (OO it) (λr s₁=>match r with
   |none=>R (.ok .next) s₁
   |some v=>Lq (model prog w) A (MO tg it v) (λ_ s₁=>Lq (model prog w) A (Nq tg env v) (λ_ s₂=>
     Lq (model prog w) A (kU ifs env) (λok s₃=>
      if ok=true then TA (λs₅=> ∃m,m<n/\I m s₅) s₃
      else∃m,m<n/\I m s₃) (λ_ _=>False) s₂) (λ_ _=>False) s₁) (λ_ _=>False) s₁) (λ_ _=>False) s)->
 ∀(n:Nat) (s:KZ),I n s->Mg (model prog w) A code R s
theorem Cz:nC prog w A (.compLoop (.ListComp elt [⟨t1,i1,ifs1,0⟩,⟨t2,i2,ifs2,0⟩] scope pos) 1 it acc env) t2 ifs2 it env (qk prog w A elt acc env) R:=by
 intro I turn n s h;have no: ∀ {E':KU->KZ->Prop} (x:KU) (s:KZ),False->E' x s:=λ_ _ z=>z.elim
 refine OK rfl I (λn s hI=>?_) n h
 show Lq _ A ((OE (.ListComp elt [⟨t1,i1,ifs1,0⟩,⟨t2,i2,ifs2,0⟩] scope pos) 1 it acc env).onRaise (λx=>do NQ x env;NZ x)) _ _ s
 refine O3 ?_
 rw[E1];refine KY (Mc (KY (Lv (turn n s hI) (λr s₁ h₁=>?_) no)))
 cases r with
 |none=>exact Lc h₁
 |some v=>
  refine KY (Lv h₁ (λ_ s₁ h₁=>KY (Lv h₁ (λ_ s₂ h₂=>KY (Lv h₂ (λok s₃ h₃=>?_) no)) no)) no)
  cases ok with
  |false=>exact Lc ⟨rfl,h₃⟩
  |true=>exact KY (KY (Lv h₃ (λx s₄ h₄=>KY (Lv h₄ (λ_ s₅ h₅=>Lc (Lc ⟨rfl,h₅⟩)) no)) no))
theorem zb(hset: ∀x,Lz i2 env x=pure x):nC prog w A (.compLoop (.ListComp elt [⟨t1,i1,ifs1,0⟩,⟨t2,i2,ifs2,0⟩] scope pos) 0 it acc env) t1 ifs1 it env (lW prog w A (.ListComp elt [⟨t1,i1,ifs1,0⟩,⟨t2,i2,ifs2,0⟩] scope pos) i2 acc env) R:=by
 intro I turn n s h;have no: ∀ {E':KU->KZ->Prop} (x:KU) (s:KZ),False->E' x s:=λ_ _ z=>z.elim
 refine OK rfl I (λn s hI=>?_) n h
 show Lq _ A ((OE (.ListComp elt [⟨t1,i1,ifs1,0⟩,⟨t2,i2,ifs2,0⟩] scope pos) 0 it acc env).onRaise (λx=>do NQ x env;NZ x)) _ _ s
 refine O3 ?_
 rw[Bl];refine KY (Mc (KY (Lv (turn n s hI) (λr s₁ h₁=>?_) no)))
 cases r with
 |none=>exact Lc h₁
 |some v=>
  refine KY (Lv h₁ (λ_ s₁ h₁=>KY (Lv h₁ (λ_ s₂ h₂=>KY (Lv h₂ (λok s₃ h₃=>?_) no)) no)) no)
  cases ok with
  |false=>exact Lc ⟨rfl,h₃⟩
  |true=>
   refine KY (Lv h₃ (λx s₄ h₄=>KY (Mc (KY (Rt (hset x) (KY (ND (Lv h₄ (λit2 s₅ h₅=>?_) no))))))) no)
   refine KY (wpAny_runOwn (Oc h₅ λr s' hr=>?_))
   cases r with
   |ok f=>exact Lc ⟨rfl,hr⟩
   |error e=>exact hr.elim
end
def lX(g:FG)(p:FT)(A:FA)(ρ0:aJ):List D->Option (List D)
 | []=>some []
 |d::r=>(g d ρ0).bind λρ1=>(p ρ1).bind λb=>if b=true then(A ρ1).bind λys=>(lX g p A ρ0 r).map (ys++ ·) else lX g p A ρ0 r
def DV(n:Nat)(ρ:aJ):Prop:= ∀(i:Nat) (s:Sl),n<=i->ρ[i]? =some s->s=.no
def A3(Y:Cx)(c:Ct)(hid:cj)(D0:Addr)(L W:Hp)(A:FA)(TA:rK)(ρ1:aJ):Prop:= ∀(af:List (Addr×Obj)) (s:KZ) (σ:St) (H:Hp) (xs:List V) (ad zs:List D) (Q:KZ->Prop),Inv Y af σ H s->SR Y.K c hid ρ1 σ H->
 H D0=some (.lst xs)->Reps Y.K (vw H hid) xs ad->xs.length+zs.length<=Lm->Same L H->Same W (vw H hid)->(∀i:Nat,Ow ρ1[i]? ->σ[i]? ≠some (some (.ref D0)))->A ρ1=some zs->
 (∀(s':KZ) (σ':St) (H':Hp) (xs':List V),Inv Y af σ' H' s'->SR Y.K c hid ρ1 σ' H'->H' D0=some (.lst xs')->Reps Y.K (vw H' hid) xs' (ad++zs)->Same L H'->Same (vw H hid) (vw H' hid)->(∀i:Nat,Ow ρ1[i]? ->σ'[i]? ≠some (some (.ref D0)))->Q s')->TA Q s
section
variable {Y:Cx}{c:Ct}{tg:Expr}{ifs:List Expr}{g:FG}{p:FT}{A:FA}{TA:rK}{code:Code}
structure CLG(Y:Cx)(af:List (Addr×Obj))(c:Ct)(hid:cj)(ρ0:aJ)(L W H3:Hp)(D0:Addr)(fp:List Addr)(tn:Nat->Heap->Prop)(g:FG)(p:FT)(A:FA)(ds ys ad0:List D)(n i:Nat)(xs:List V)(ad:List D)(σ':St)(H':Hp)(s':KZ):Prop where
 e:n=ds.length-i
 hi:i<=ds.length
 I:Inv Y af σ' H' s'
 st:tn i s'.heap
 fr: ∀b∈fp,H' b=none
 sr:SR Y.K c hid ρ0 σ' H'
 sm:Same L H'
 ac:H' D0=some (.lst xs)
 rp:Reps Y.K (vw H' hid) xs ad
 w:Same W (vw H' hid)
 v:Same (vw H3 hid) (vw H' hid)
 na: ∀i:Nat,Ow ρ0[i]? ->σ'[i]? ≠some (some (.ref D0))
 go: ∃rest,lX g p A ρ0 (ds.drop i)=some rest/\ad++rest=ad0++ys
theorem uD(hcalm:Y.calm=true)(hxe:Y.xe=λ_ _=>False){n0:Nat}(hT:iV n0 g)(hg:pO Y c tg g)(hp:pX Y c ifs p)
 {af:List (Addr×Obj)} {σ3:St} {H3 L W:Hp} {s4:KZ} {hid:cj} {ρ0:aJ} {J:It} {it D0:Addr} {fp:List Addr} {tn:Nat->Heap->Prop} {ds ys ad0:List D} {xs0:List V} {R:Oa->KZ->Prop}
 (hA: ∀d ρ1,g d ρ0=some ρ1->A3 Y c hid D0 L W A TA ρ1)
 (hN:DV n0 ρ0) (I:Inv Y af σ3 H3 s4) (sr:SR Y.K c hid ρ0 σ3 H3) (hh:hid D0=true) (na: ∀i:Nat,Ow ρ0[i]? ->σ3[i]? ≠some (some (.ref D0))) (hacc:H3 D0=some (.lst xs0)) (rp0:Reps Y.K (vw H3 hid) xs0 ad0) (sm:Same L H3) (wv:Same W (vw H3 hid)) (T:Turn Y.prog Y.w Y.K tg J fp it tn) (st:tn 0 s4.heap) (hF: ∀b∈fp,kf Y af H3 b)
 (io:Em Y.K L W J ds) (hz:ad0.length+ys.length<=Lm) (hc:lX g p A ρ0 ds=some ys)
 (hTP:nC Y.prog Y.w Y.A code tg ifs (.ref it) Y.env TA R)
 (hR: ∀(s':KZ) (σ':St) (H':Hp) (xs:List V),Inv Y af σ' H' s'->SR Y.K c hid ρ0 σ' H'->Same L H'->H' D0=some (.lst xs)->Reps Y.K (vw H' hid) xs (ad0++ys)->Same (vw H3 hid) (vw H' hid)->(∀i:Nat,Ow ρ0[i]? ->σ'[i]? ≠some (some (.ref D0)))->R (.ok .next) s'):
 Mg (model Y.prog Y.w) Y.A code R s4:=by
 have stat: ∀ {H':Hp},(∀b∈fp,H' b=none)-> ∀b∈fp,kf Y af H' b:=λ{H'} hn b hb=>⟨hn b hb,(hF b hb).2⟩
 refine hTP (λn s'=> ∃(i:Nat) (xs:List V) (ad:List D) (σ':St) (H':Hp),CLG Y af c hid ρ0 L W H3 D0 fp tn g p A ds ys ad0 n i xs ad σ' H' s') ?_ ds.length s4
  ⟨0,xs0,ad0,σ3,H3,by simp,Na _,I,st,λb hb=>(hF b hb).1,sr,sm,hacc,rp0,wv,Same.refl _,na,ys,by simpa using hc,rfl⟩
 rintro n s5 ⟨i,xs,ad,σ5,H5,rfl,hi,I5,st5,f5,sr5,sm5,ac5,rp5,w5,v5,na5,rest,hc5,hy5⟩
 have wH:Same W H5:=w5.trans (gy _ _)
 by_cases hlt:i<ds.length
 ·have hd:ds[i]? =some ds[i]:=K0 hlt
  have e2:ds.drop i=ds[i]::ds.drop (i+1):=Ni hlt
  rw[e2] at hc5;unfold lX at hc5;obtain⟨go,yl⟩:=io.1 i ds[i] H5 hd sm5 wH
  refine cy (T.item Y rfl rfl rfl hcalm i af s5 σ5 H5 (λ_ _=>False) I5 (stat f5) st5 go) λr s6 hq_=>?_
  obtain⟨u,hr,h6⟩:=hq_
  subst hr;refine cy h6 λ_ s7 hq_=>?_
  obtain⟨x,H7,I7,r7,y7,st7,f7⟩:=hq_
  obtain⟨s7',rp⟩:=yl x H7 y7
  have rx:=rp hid sr5.tr w5
  have I7':=I7.pinned (stat f7) (T.obj _ _ st7)
  cases e3:g ds[i] ρ0 with
  |none=>rw[e3] at hc5;cases hc5
  |some ρ1=>
   rw[e3] at hc5;have hc5:(p ρ1).bind (λb=>if b=true then(A ρ1).bind λys=>(lX g p A ρ0 (ds.drop (i+1))).map (ys++ ·) else lX g p A ρ0 (ds.drop (i+1)))=some rest:=hc5
   obtain⟨tl1,tl2⟩:=hT _ _ _ e3
   have fg: ∀ {σ':St} {H':Hp},SR Y.K c hid ρ1 σ' H'->SR Y.K c hid ρ0 σ' H':=λ{σ' H'} z=>z.forget tl1 λj s e=>by
    by_cases hj:j<n0
    ·exact .inr ((tl2 j hj).trans e)
    ·exact .inl (hN j s (by omega) e)
   have ow01: ∀j:Nat,Ow ρ0[j]? ->Ow ρ1[j]? :=λj o=>by
    by_cases hj:j<n0
    ·rw[tl2 j hj];exact o
    ·exfalso
     cases e:ρ0[j]? with
     |none=>rw[e] at o;exact o
     |some s=>have:=hN j s (by omega) e;subst this;rw[e] at o;exact o
   have keepT: ∀ {σ':St} {H':Hp} {s':KZ},Inv Y (af++mT fp s7.heap) σ' H' s'->tn (i+1) s'.heap/\ ∀b∈fp,H' b=none:=λ{σ' H' s'} J'=>by
    refine⟨T.keep _ _ _ st7 λb hb o e=>(J'.pin (b,o) (Lx _ (Lx _ (fo hb e)))).1,λb hb=>?_⟩
    obtain⟨o,e,_⟩:=T.obj _ _ st7 b hb
    exact(J'.pin (b,o) (Lx _ (Lx _ (fo hb e)))).2.1
   refine cy (hxe▸hg hid ρ0 ds[i] _ s7 σ5 H7 x u (λσ' H'=>H'=H7/\SR Y.K c hid ρ1 σ' H7/\OwK ρ0 ρ1 σ5 σ') I7' r7 ⟨sr5.ext s7',rx,ρ1,e3,λσ' z o=>⟨rfl,z,o⟩⟩) λ_ s8 hq_=>?_
   obtain⟨σ8,H8,I8,e8,q8,o8⟩:=hq_
   subst e8;have na1: ∀j:Nat,Ow ρ1[j]? ->σ8[j]? ≠some (some (.ref D0)):=λj o=>by
    rw[(o8 j o).2];exact na5 j (o8 j o).1
   cases e4:p ρ1 with
   |none=>rw[e4] at hc5;cases hc5
   |some b=>
    rw[e4] at hc5;have hc5:(if b=true then(A ρ1).bind λys=>(lX g p A ρ0 (ds.drop (i+1))).map (ys++ ·) else lX g p A ρ0 (ds.drop (i+1)))=some rest:=hc5
    refine cy (hxe▸hp hid ρ1 _ s8 σ8 H8 (λb' H'=>b'=b/\Same H8 H') I8 ⟨q8,b,e4,λH' s'=>⟨rfl,s'⟩⟩) λok s9 hq_=>?_
    obtain⟨H9,I9,e9,sm9⟩:=hq_
    subst e9;have w9:Same (vw H5 hid) (vw H9 hid):=aV (s7'.trans sm9)
    cases ok with
    |false=>
     have hc5:lX g p A ρ0 (ds.drop (i+1))=some rest:=hc5
     obtain⟨k1,k2⟩:=keepT I9
     exact⟨ds.length- (i+1),by omega,i+1,xs,ad,σ8,H9,rfl,hlt,I9.unpinned,k1,k2,fg (q8.ext sm9),sm5.trans (s7'.trans sm9),sm9 _ _ (s7' _ _ ac5),rp5.mono w9,w5.trans w9,v5.trans w9,λj o=>na1 j (ow01 j o),rest,hc5,hy5⟩
    |true=>
     have hc5:((A ρ1).bind λys=>(lX g p A ρ0 (ds.drop (i+1))).map (ys++ ·))=some rest:=hc5
     cases e5:A ρ1 with
     |none=>rw[e5] at hc5;cases hc5
     |some zs=>
      rw[e5] at hc5;have hc5:(lX g p A ρ0 (ds.drop (i+1))).map (zs++ ·)=some rest:=hc5
      cases e6:lX g p A ρ0 (ds.drop (i+1)) with
      |none=>rw[e6] at hc5;cases hc5
      |some rest'=>
       rw[e6] at hc5;cases hc5
       have l1:=rp5.length
       have l2:=congrArg OC hy5
       simp only[LJ] at l2;refine hA ds[i] ρ1 e3 _ s9 σ8 H9 xs ad zs _ I9 (q8.ext sm9) (sm9 _ _ (s7' _ _ ac5)) (rp5.mono w9) (by omega) (sm5.trans (s7'.trans sm9)) (w5.trans w9) na1 e5 λs10 σ10 H10 xs' I10 q10 a10 rp10 smL v10 na10=>?_
       obtain⟨k1,k2⟩:=keepT I10
       exact⟨ds.length- (i+1),by omega,i+1,xs',ad++zs,σ10,H10,rfl,hlt,I10.unpinned,k1,k2,fg q10,smL,a10,rp10,(w5.trans w9).trans v10,(v5.trans w9).trans v10,λj o=>na10 j (ow01 j o),rest',e6,by rw[<-hy5];simp⟩
 ·have e:i=ds.length:=by omega
  subst e;rw[M8 (Ld _)] at hc5;cases hc5
  rw[Me] at hy5;subst hy5;refine cy (T.done Y rfl rfl rfl hcalm ds.length af s5 σ5 H5 (λ_ _=>False) I5 (stat f5) st5 (io.2 H5 sm5 wH)) λr s6 hq_=>?_
  obtain⟨hr,I6⟩:=hq_
  subst hr;exact hR s6 σ5 H5 xs I6 sr5 sm5 ac5 rp5 v5 na5
end
def uY(f:FE):FA:=λρ=>(f ρ).map λd=>[d]
def CY(gi:FA)(g:FG)(p:FT)(f:FE):FA:=λρ1=>(gi ρ1).bind λds=>lX g p (uY f) ρ1 ds
def xh(m:Nat)(gi1:FA)(g1:FG)(p1:FT)(gi2:FA)(g2:FG)(p2:FT)(f:FE):FE:=λρ=>(gi1 ρ).bind λds=>(lX g1 p1 (CY gi2 g2 p2 f) (ρ++K1 m .no) ds).bind λys=>if ys.length<=Lm then some (.lst ys) else none
theorem zJ {m:Nat}{gi1 gi2:FA}{g1 g2:FG}{p1 p2:FT}{f:FE}{ρ:aJ}{d:D}(h:xh m gi1 g1 p1 gi2 g2 p2 f ρ=some d): ∃ds ys,gi1 ρ=some ds/\lX g1 p1 (CY gi2 g2 p2 f) (ρ++K1 m .no) ds=some ys/\ys.length<=Lm/\d=.lst ys:=by
 unfold xh at h;cases e1:gi1 ρ with
 |none=>rw[e1] at h;cases h
 |some ds=>
  rw[e1] at h;dsimp only[Nn] at h;cases e2:lX g1 p1 (CY gi2 g2 p2 f) (ρ++K1 m .no) ds with
  |none=>rw[e2] at h;cases h
  |some ys=>
   rw[e2] at h;dsimp only at h;split at h
   ·cases h;exact⟨ds,ys,rfl,e2, ‹_›,rfl⟩
   ·cases h
def wc(n:Nat)(g:FG):Prop:= ∀d (ρ0 ρ1:aJ),g d ρ0=some ρ1-> ∀i:Nat,n<=i->ρ1[i]? =ρ0[i]?
def xB(n:Nat)(g:uo):Prop:= ∀d (ρ0 ρ1:aJ),g d ρ0=some ρ1-> ∀i:Nat,n<=i->ρ1[i]? =ρ0[i]?
theorem DX {n i:Nat}(h:i<n):wc n (gN i):=λd ρ0 ρ1 e=>by
 cases e
 exact λj hj=>K9 (by omega)
theorem De {n:Nat}:xB n iC:=λd ρ0 ρ1 e=>by
 unfold iC at e;split at e
 ·cases e;exact λ_ _=>rfl
 ·cases e
theorem vT {n:Nat}{g:FG}{gs:uo}(h1:wc n g)(h2:xB n gs):xB n (cA g gs):=λd ρ0 ρ1 e=>by
 cases d with
 |nil=>cases e
 |cons d ds=>
  have e:(g d ρ0).bind (λρ'=>gs ds ρ')=some ρ1:=e
  cases e1:g d ρ0 with
  |none=>rw[e1] at e;cases e
  |some ρ2=>
   rw[e1] at e;exact λi hi=>(h2 ds ρ2 ρ1 e i hi).trans (h1 d ρ0 ρ2 e1 i hi)
theorem Jp {n m:Nat}{gs:uo}(h:xB n gs):wc n (gT m gs):=λd ρ0 ρ1 e=>by
 unfold gT at e;split at e
 ·split at e
  ·exact h _ _ _ e
  ·cases e
 ·cases e
section
variable {prog:LB}{w:L1}{A:LC}{R:Oa->KZ->Prop}{s:KZ}{elt t1 t2 i1 i2:Expr}{ifs1 ifs2:List Expr}{scope:MI}{pos:Pos}{it acc:KU}{env:Env}
theorem An
 (h0:Mg (model prog w) A (.compLoop (.ListComp elt [⟨t1,i1,ifs1,0⟩,⟨t2,i2,ifs2,0⟩] scope pos) 1 it acc env) R s)
 (h:Lq (model prog w) A (OP it) (λit' s'=>Mg (model prog w) A (.compLoop (.ListComp elt [⟨t1,i1,ifs1,0⟩,⟨t2,i2,ifs2,0⟩] scope pos) 1 it' acc env) R s')
   (RF (model prog w) A env λx s'=>R (.error x) s') s):
 Mg (model prog w) A (.compStart (.ListComp elt [⟨t1,i1,ifs1,0⟩,⟨t2,i2,ifs2,0⟩] scope pos) 1 it acc env) R s:=by
 refine Rz (show Lq _ _ ((Rh (.ListComp elt [⟨t1,i1,ifs1,0⟩,⟨t2,i2,ifs2,0⟩] scope pos) 1 it acc env).onRaise (λx=>do NQ x env;NJ RB)) _ _ s from SE ?_)
 unfold Rh;show Lq _ _ (ask>>=_) _ _ s;refine KY (Ri (wpAny_ite ?_))
 split
 ·first
   |exact KY (Lc (Lc (Oq rfl h0)))
   |exact Lc (Oq rfl h0)
 ·first
   |exact KY (Op (KY (Mc (KY (Lv h (λit' s' h'=>Lc (Oq rfl h')) λ_ _ x=>x)))))
   |(refine KY (Op ?_);show Lq _ _ (NJ i2.pos>>=_) _ _ s;exact KY (Mc (KY (Lv h (λit' s' h'=>Lc (Oq rfl h')) λ_ _ x=>x))))
end
section
variable {Y:Cx}{c:Ct}{elt t1 t2 i1 i2:Expr}{ifs1 ifs2:List Expr}{scope:MI}{pos:Pos}{f:FE}{g2:FG}{p2:FT}{gi2:FA}{hid:cj}{D0:Addr}{L W:Hp}{ρ1:aJ}
theorem CT(hxe:Y.xe=λ_ _=>False)(he:DP Y c .s elt f)(hh:hid D0=true)(h00:c.H₀ D0=none)(nD:L D0=none):A3 Y c hid D0 L W (uY f) (qk Y.prog Y.w Y.A elt (.ref D0) Y.env) ρ1:=by
 intro af s σ H xs ad zs Q I sr ac rp hz smL wv na hA hQ;unfold uY at hA;cases e5:f ρ1 with
 |none=>rw[e5] at hA;cases hA
 |some y=>
  rw[e5] at hA;cases hA;unfold qk;refine cy (hxe▸he hid ρ1 _ s σ H (λv H'=>Same H H'/\Rep Y.K (vw H' hid) v y) I ⟨sr,y,e5,λv H' s' r=>⟨s',r⟩⟩) λv s10 hq_=>?_
  obtain⟨z,H10,I10,rz,sm10,rp10⟩:=hq_
  have a10:H10 D0=some (.lst xs):=sm10 _ _ ac
  refine cy (hxe▸gh (X:=Y) _ s10 σ H10 (.ref D0) [z] (.ref D0) [v] (λ_ H'=>H'=bI H10 D0 (.lst (xs++[z]))) I10 rfl (.cons rz .nil) ⟨D0,xs,z,rfl,rfl,a10,by simp at hz;omega,rfl⟩) λ_ s11 ⟨_,H11,I11,_,e11⟩=>?_
  subst e11;have vv:vw (bI H10 D0 (.lst (xs++[z]))) hid=vw H10 hid:=eY hh
  have w10:Same (vw H hid) (vw H10 hid):=aV sm10
  refine hQ s11 σ _ (xs++[z]) I11 ((sr.ext sm10).write hh h00 na a10) aP ?_ (λb o e=>?_) ?_ na
  ·rw[vv];exact(rp.mono w10).append (.cons rp10 .nil)
  ·rw[aF (bT e nD)];exact sm10 _ _ (smL _ _ e)
  ·rw[vv];exact w10
theorem zf(hcalm:Y.calm=true)(hxe:Y.xe=λ_ _=>False){n1:Nat}(hT:iV n1 g2)(hN:DV n1 ρ1)(hi:DIp Y c t2 i2 gi2)(hg:pO Y c t2 g2)(hp:pX Y c ifs2 p2)(he:DP Y c .s elt f)(hh:hid D0=true)(h00:c.H₀ D0=none)(nD:L D0=none):
 A3 Y c hid D0 L W (CY gi2 g2 p2 f) (lW Y.prog Y.w Y.A (.ListComp elt [⟨t1,i1,ifs1,0⟩,⟨t2,i2,ifs2,0⟩] scope pos) i2 (.ref D0) Y.env) ρ1:=by
 intro af s σ H xs ad zs Q I sr ac rp hz smL wv na hA hQ;unfold CY at hA;cases e5:gi2 ρ1 with
 |none=>rw[e5] at hA;cases hA
 |some ds=>
  rw[e5] at hA;have hA:lX g2 p2 (uY f) ρ1 ds=some zs:=hA
  unfold lW;refine cy (hxe▸hi hid ρ1 af s σ H (λJ H'=>Same H H'/\ItOk Y.K (vw H' hid) J ds) I ⟨sr,ds,e5,λJ H' s1 io=>⟨s1,io⟩⟩) λv s1 h1=>cy h1 λitv s2 h2=>?_
  obtain⟨it,fp,tn,J,H2,rfl,I2,T,st2,f2,sm,io⟩:=h2
  have l1:=rp.length
  have loop:Mg (model Y.prog Y.w) Y.A (.compLoop (.ListComp elt [⟨t1,i1,ifs1,0⟩,⟨t2,i2,ifs2,0⟩] scope pos) 1 (.ref it) (.ref D0) Y.env) (λr s'=>match r with
   | .ok _=>Q s'
   | .error _=>False) s2:=by
   refine uD (L:=L) (W:=vw H2 hid) (ad0:=ad) (xs0:=xs) (A:=uY f) (TA:=qk Y.prog Y.w Y.A elt (.ref D0) Y.env) hcalm hxe hT hg hp (λd ρ2 _=>CT hxe he hh h00 nD) hN I2 (sr.ext sm) hh na (sm _ _ ac) (rp.mono (aV sm)) (smL.trans sm) (Same.refl _) T st2 f2 io.b (by omega) hA Cz ?_
   intro s' σ' H' xs' I' sr' smL' ac' rp' v' na';exact hQ s' σ' H' xs' I' sr' ac' rp' smL' ((aV sm).trans v') na'
  exact An loop (T.self Y.A 0 _ _ _ st2 loop)
end
section
variable {X:Cx}{c:Ct}{elt t1 t2 i1 i2:Expr}{ifs1 ifs2:List Expr}{scope:MI}{pos:Pos}{N':List Str}{m n1:Nat}{gi1 gi2:FA}{g1 g2:FG}{p1 p2:FT}{f:FE}
theorem u7(hcalm:X.calm=true)(hk:scope.kind=.function)(hs:um scope X.env.scope=true)(hn:uq X.N N' scope=true)(hm:N'.length-X.N.length=m)(hT1:iV X.N.length g1)(hU1:wc n1 g1)(hn1:X.N.length<=n1)(hT2:iV n1 g2)
 (hset: ∀C s₀ H₀ ex,∀x,Lz i2 (aE X N' scope C s₀ H₀ ex).env x=pure x)
 (hg1: ∀C s₀ H₀ ex,pO (aE X N' scope C s₀ H₀ ex) c t1 g1) (hp1: ∀C s₀ H₀ ex,pX (aE X N' scope C s₀ H₀ ex) c ifs1 p1) (hi2: ∀C s₀ H₀ ex,DIp (aE X N' scope C s₀ H₀ ex) c t2 i2 gi2)
 (hg2: ∀C s₀ H₀ ex,pO (aE X N' scope C s₀ H₀ ex) c t2 g2) (hp2: ∀C s₀ H₀ ex,pX (aE X N' scope C s₀ H₀ ex) c ifs2 p2) (he: ∀C s₀ H₀ ex,DP (aE X N' scope C s₀ H₀ ex) c .s elt f)
 {E:KU->KZ->Prop} {af:List (Addr×Obj)} {σ:St} {H:Hp} {s:KZ} {hid:cj} {ρ:aJ} {J:It} {it:Addr} {fp:List Addr} {tn:Nat->Heap->Prop} {ds ys:List D} {RR:KU->Addr->Oa->KZ->Prop}
 (I:Inv X af σ H s) (sr:SR X.K c hid ρ σ H) (T:Turn X.prog X.w X.K t1 J fp it tn) (st:tn 0 s.heap) (hF: ∀b∈fp,kf X af H b) (io:Em X.K H (vw H hid) J ds) (hz:ys.length<=Lm) (hc:lX g1 p1 (CY gi2 g2 p2 f) (ρ++K1 m .no) ds=some ys)
 (hR: ∀(D C:Addr) (s':KZ) (H':Hp) (xs:List V),s.heap.objs.size<=D->s.heap.objs.size<=C->D≠C->H D=none->Same H H'->H' D=some (.lst xs)->Reps X.K (vw H' (cM hid D)) xs ys->(∃m,s'.heap.Ns C m)->H' C=none->s'.os=s.os->NI s'.gens->HOk X.prog X.w H' s'.heap->Un (kj X.stack) fp H H' s.heap s'.heap->RR (.ref D) C (.ok .next) s'):
 Lq (model X.prog X.w) X.A (To []) (λacc s₃=>Lq (model X.prog X.w) X.A (Of scope X.env.globals (tm X.env.cells scope.names []) [] X.env.qual none .none (some X.env)) (λcenv s₄=>
  Mg (model X.prog X.w) X.A (.compStart (.ListComp elt [⟨t1,i1,ifs1,0⟩,⟨t2,i2,ifs2,0⟩] scope pos) 0 (.ref it) acc {cenv with scope:=Od scope X.env}) (RR acc cenv.locals) s₄) E s₃) E s:=by
 refine ML (tu λh₁ hns₁ kp1 oc₁=>?_)
 dsimp only at hns₁ kp1 oc₁⊢
 generalize hH2:s.heap.push {cls:=.type "list",dict:=none,data:=.seq ([]:List KU).toArray}=H2 at hns₁ kp1 oc₁⊢
 have hC:H2.objs.size=s.heap.objs.size+1:=by rw[<-hH2,Mr]
 have hD:H s.heap.objs.size=none:=I.hok.fresh (Ld _)
 have I2:Inv X af σ (bI H s.heap.objs.size (.lst [])) {s with heap:=H2}:=by
  rw[<-hH2];exact I.laid (t':=s.toks) (λb o e=>K3 _ e) (Ld _) ⟨Na _,[],0,.nil,Lj _ rfl⟩
 have fpLt: ∀b∈fp,b<s.heap.objs.size:=λb hb=>let⟨o,e,_⟩:=T.obj 0 s.heap st b hb;Lh e
 have hF2: ∀b∈fp,kf X af (bI H s.heap.objs.size (.lst [])) b:=λb hb=>⟨by rw[aF (LF (fpLt b hb))];exact(hF b hb).1,(hF b hb).2⟩
 have kp0: ∀b o,s.heap.get? b=some o->H2.get? b=some o:=λb o e=>by rw[<-hH2];exact K3 _ e
 have IY:=qj (tk:=s.toks) (N':=N') (fp:=fp) I2 hF2 (λb hb=>let⟨o,e,_⟩:=T.obj 0 s.heap st b hb;⟨o,kp0 b o e⟩) hk hs hn hns₁ kp1 oc₁
 rw[hm] at IY;dsimp only at IY;have sr0:SR X.K c (cM hid s.heap.objs.size) (ρ++K1 m .no) (σ++K1 m none) (bI H s.heap.objs.size (.lst [])):=(sr.hide (bM hD _) hD aP).more m
 have hρ:ρ.length=X.N.length:=by rw[<-sr.len];exact I.len
 have nf:hid s.heap.objs.size=false:=sr.fresh hD
 have st1:tn 0 h₁:=T.keep _ _ _ st λb hb o e=>kp1 b o (kp0 b o e)
 have na0: ∀i:Nat,Ow (ρ++K1 m Sl.no)[i]? ->(σ++K1 m none)[i]? ≠some (some (V.ref s.heap.objs.size)):=(sr.more m).notOw nf
 have wv:Same (vw H hid) (vw (bI H s.heap.objs.size (.lst [])) (cM hid s.heap.objs.size)):=by rw[tT hD];exact Same.refl _
 have nos:DV X.N.length (ρ++K1 m Sl.no):=λi s hi e=>by
  rw[LQ (by omega),LV] at e
  split at e
  ·cases e;rfl
  ·cases e
 have loop: ∀s4:KZ,s4={s with heap:=h₁,toks:=s.toks}->
  Mg (model X.prog X.w) X.A (.compLoop (.ListComp elt [⟨t1,i1,ifs1,0⟩,⟨t2,i2,ifs2,0⟩] scope pos) 0 (.ref it) (.ref s.heap.objs.size) (Pe scope (oO X.env.cells scope H2.objs.size) H2.objs.size X.env)) (RR (.ref s.heap.objs.size) H2.objs.size) s4:=by
  rintro s4 rfl
  have fpY: ∀b∈fp,kf (aE X N' scope H2.objs.size {s with heap:=H2} (bI H s.heap.objs.size (.lst [])) fp) [] (bI H s.heap.objs.size (.lst [])) b:=λb hb=>
   ⟨(hF2 b hb).1,(IY.ok.exf b hb).1,IY.ok.exfs b hb,.inl hb,(IY.ok.exf b hb).2,λq hq=>by have hq':q∈([]:List (Addr×Obj))++[]:=hq;simp at hq'⟩
  refine uD (Y:=aE X N' scope H2.objs.size {s with heap:=H2} (bI H s.heap.objs.size (.lst [])) fp) (L:=H) (hid:=cM hid s.heap.objs.size) (W:=vw H hid) (ad0:=[]) (xs0:=[]) (A:=CY gi2 g2 p2 f) (TA:=lW X.prog X.w X.A (.ListComp elt [⟨t1,i1,ifs1,0⟩,⟨t2,i2,ifs2,0⟩] scope pos) i2 (.ref s.heap.objs.size) (Pe scope (oO X.env.cells scope H2.objs.size) H2.objs.size X.env))
   hcalm rfl hT1 (hg1 _ _ _ _) (hp1 _ _ _ _) (λd ρ1 e=>zf (Y:=aE X N' scope H2.objs.size {s with heap:=H2} (bI H s.heap.objs.size (.lst [])) fp) hcalm rfl hT2 (λi s hi e'=>?_) (hi2 _ _ _ _) (hg2 _ _ _ _) (hp2 _ _ _ _) (he _ _ _ _) fF (sr.fresh0 hD) hD) nos IY sr0 fF na0 aP .nil (bM hD _) wv T st1 fpY io (by simpa using hz) hc (zb (hset H2.objs.size {s with heap:=H2} (bI H s.heap.objs.size (.lst [])) fp)) ?_
  ·rw[hU1 _ _ _ e i hi] at e'
   exact nos i s (by omega) e'
  ·intro s' σ' H' xs I' _ sm' hx' rp' _ _
   have un1:Un (kj X.stack) fp H (bI H s.heap.objs.size (.lst [])) s.heap H2:=Un.laid (λb o e=>kp0 b o e) (Ld _) hD
   exact hR s.heap.objs.size H2.objs.size s' H' xs (Ld _) (by rw[hC];exact Nz _) (by rw[hC];exact LF (LY _)) hD sm' hx' rp' (let⟨m,hm,_⟩:=I'.loc;⟨m,hm⟩) I'.free I'.os I'.bare I'.hok (un1.trans I'.base)
 exact Og (loop _ rfl) (T.self X.A 0 _ _ _ st1 (loop _ rfl))
theorem vF(hcalm:X.calm=true)(n1:Nat)(hT1:iV X.N.length g1)(hU1:wc n1 g1)(hT2:iV n1 g2)(hi:BJ X c t1 i1 gi1)
 (hg1: ∀C s₀ H₀ ex,pO (aE X N' scope C s₀ H₀ ex) c t1 g1) (hp1: ∀C s₀ H₀ ex,pX (aE X N' scope C s₀ H₀ ex) c ifs1 p1) (hi2: ∀C s₀ H₀ ex,DIp (aE X N' scope C s₀ H₀ ex) c t2 i2 gi2)
 (hg2: ∀C s₀ H₀ ex,pO (aE X N' scope C s₀ H₀ ex) c t2 g2) (hp2: ∀C s₀ H₀ ex,pX (aE X N' scope C s₀ H₀ ex) c ifs2 p2) (he: ∀C s₀ H₀ ex,DP (aE X N' scope C s₀ H₀ ex) c .s elt f)
 (hk:scope.kind=.function:=by rfl) (hs:um scope X.env.scope=true:=by kernel_rfl) (hn:uq X.N N' scope=true:=by kernel_rfl) (hm:N'.length-X.N.length=m:=by rfl) (hn1:X.N.length<=n1:=by exact K4 rfl) (hset: ∀x,Lz i1 X.env x=pure x:=by intro _;rfl)
 (hset2: ∀C s₀ H₀ ex,∀x,Lz i2 (aE X N' scope C s₀ H₀ ex).env x=pure x:=by intros;rfl):
 DP X c .n (.ListComp elt [⟨t1,i1,ifs1,0⟩,⟨t2,i2,ifs2,0⟩] scope pos) (xh m gi1 g1 p1 gi2 g2 p2 f):=by
 intro hid ρ af s σ H Q I hq;obtain⟨sr,d,hd,q⟩:=hq
 obtain⟨ds,ys,e1,hc,hz,rfl⟩:=zJ hd
 rw[Sy];refine MT (use:=none) rfl hset (fx λx hx=>I.ok.has x (jr hs x hx)) hk (kJ hs) ?_
 refine cy (hi hid ρ af s σ H (λJ H'=>Same H H'/\Em X.K H' (vw H' hid) J ds) I ⟨sr,ds,e1,λJ H' s1 io=>⟨s1,io⟩⟩) λv s1 h1=>cy h1 λitv s2 h2=>?_
 obtain⟨it,fp,tn,J,H2,rfl,I2,T,st2,f2,sm,io⟩:=h2
 refine u7 (RR:=λacc C=>QX (model X.prog X.w) X.A X.xe none (EP X af σ Q) acc C) hcalm hk hs hn hm hT1 hU1 hn1 hT2 hset2 hg1 hp1 hi2 hg2 hp2 he I2 (sr.ext sm) T st2 f2 io hz hc ?_
 intro D C s' H' xs hDge hCge hDC hD sm' hx rp ⟨mm,hns⟩ hC' hos hbare hok hun;refine⟨mm,hns,λh' hsb=>⟨.ref D,H',?_,rfl,q _ H' (sm.trans sm') ⟨D,xs,ys,rfl,rfl,sm.free hD,hx,rp⟩⟩⟩
 have neC: ∀b o,s2.heap.get? b=some o->b≠C:=λb o e z=>by subst z;exact absurd (Lh e) (M3.mpr hCge)
 have hun':Un (kj X.stack) fp H2 H' s2.heap h':=⟨λb o e n h1 h2=>(hsb.2 b (neC b o e)).trans (hun.keep b o e n h1 h2),λb o e n h1 h2=>let⟨sl,z⟩:=hun.slot b o e n h1 h2;⟨sl,(hsb.2 b (neC b o e)).trans z⟩,hun.free,λb o e h2=>let⟨o',z⟩:=hun.there b o e h2;⟨o',(hsb.2 b (neC b o e)).trans z⟩,hun.tups,hun.frzs,hun.tbls⟩
 have hok':HOk X.prog X.w H' h':=λb o e=>by
  have nb: ∀b' o',H' b'=some o'->b'≠C:=λb' o' e' z=>by subst z;rw[hC'] at e';cases e'
  refine(hok b o e).stay (λc' u hc' z=>(hsb.2 c' ?_).trans z) (λ_ z=>z) λ_ _ z=>z
  rcases hc' with z'|z'
  ·rw[z'];exact nb b o e
  ·exact nb c' _ z'
 exact I2.call' (s':={s' with heap:=h'}) (ch:=fp) hos hun' hok' hbare λb hb=>⟨(f2 b hb).2.2.2.1,(f2 b hb).2.1,(f2 b hb).2.2.2.2.1,(f2 b hb).2.2.2.2.2⟩
end
def rN(ds:List D)(lo hi:Option Int):List D:=(ds.drop (HT.sIx ds.length 0 lo)).take (HT.sIx ds.length ds.length hi-HT.sIx ds.length 0 lo)
theorem BM {K:K7}{F:Hp}{xs:List V}{ds:List D}(r:Reps K F xs ds)(lo hi:Option Int):Reps K F (zp xs lo hi) (rN ds lo hi):=by
 unfold zp rN;rw[r.length];exact(r.drop _).take _
abbrev FO:=aJ->Option (Option Int)
def KB(K:K7)(c:Ct)(hid:cj)(f:FO)(ρ:aJ):TO:=λσ H Q=>SR K c hid ρ σ H/\ ∃o,f ρ=some o/\ ∀H',Same H H'->Q o H'
def DO(X:Cx)(c:Ct)(e:Option Expr)(f:FO):Prop:= ∀hid ρ,PO X e (KB X.K c hid f ρ)
theorem PO.imp {X:Cx}{e:Option Expr}{t t':TO}(h:PO X e t)(i: ∀σ H Q,t' σ H Q->t σ H Q):PO X e t':=λaf s σ H Q I q=>h af s σ H Q I (i σ H Q q)
section
variable {X:Cx}{c:Ct}{e a b:Expr}{f g:FE}{k:Kd}{pos p2:Pos}{lo hi:Option Expr}{l u:FO}
def B0:FO:=λ_=>some none
def z7(f:FE):FO:=λρ=>(f ρ).bind λd=>match d with
 | .int i=>some (some i)
 |_=>none
theorem xq:DO X c none B0:=λhid ρ=>PO.imp EC λσ H Q ⟨sr,o,e,q⟩=>by cases e;exact q H (Same.refl _)
theorem xI(h:DP X c k e f):DO X c (some e) (z7 f):=λhid ρ=>PO.imp (Dr (h hid ρ)) λσ H Q hq_=>by
 obtain⟨sr,o,e,q⟩:=hq_
 unfold z7 at e;cases e1:f ρ with
 |none=>rw[e1] at e;cases e
 |some d=>
  rw[e1] at e;cases d with
  |int i=>
   cases e
   refine⟨sr,_,e1,λv H' s r=>⟨i,?_,q H' s⟩⟩
   exact(RK.b k r λa n=>sr.fresh n).int
  |_=>cases e
def pL(f:FE)(l u:FO):FE:=λρ=>(f ρ).bind λd=>match d with
 | .lst ds=>(l ρ).bind λlo=>(u ρ).map λhi=>.lst (rN ds lo hi)
 |_=>none
theorem Am(he:DP X c k e f)(hl:DO X c lo l)(hu:DO X c hi u):DP X c .n (.Subscript e (.Slice lo hi none p2) pos) (pL f l u):=λhid ρ=>
 PE.imp (Ad DH (he hid ρ) (hl hid ρ) (hu hid ρ)) λσ H Q hq_=>by
  obtain⟨sr,d,hd,q⟩:=hq_
  unfold pL at hd;cases e1:f ρ with
  |none=>rw[e1] at hd;cases hd
  |some z=>
   rw[e1] at hd;cases z with
   |lst ds=>
    have hd:((l ρ).bind λlo=>(u ρ).map λhi=>D.lst (rN ds lo hi))=some d:=hd
    cases e2:l ρ with
    |none=>rw[e2] at hd;cases hd
    |some o1=>
     rw[e2] at hd;cases e3:u ρ with
     |none=>rw[e3] at hd;cases hd
     |some o2=>
      rw[e3] at hd;cases hd;refine⟨sr,_,e1,λv H1 s1 r1=>⟨sr.ext s1,o1,e2,λH2 s2=>⟨(sr.ext s1).ext s2,o2,e3,λH3 s3=>?_⟩⟩⟩
      obtain⟨a,xs,rfl,h1,h2⟩:=((RK.b k r1 λa n=>sr.fresh n).ext (s2.trans s3)).lst
      exact⟨a,xs,rfl,h1,λp hp=>q _ _ ((s1.trans (s2.trans s3)).trans (bM hp _)) (oE hp (s1.trans (s2.trans s3)) (BM h2 o1 o2))⟩
   |_=>cases hd
end
end L2
namespace PySem
open Sem (wp)
open AutoSeq1 (wpAny_loadPart')
section
variable {prog:LB}{w:L1}{A:LC}{E:KU->KZ->Prop}{s:KZ}
theorem qu {it t:Addr}{i:Nat}{us}{x:KU}{Q:KU->KZ->Prop}(hit:s.heap.IsTupleIter it t i)(ht:s.heap.IsTuple t us)(hx:us[i]? =some x)
 (hQ: ∀g,g.IsTupleIter it t (i+1)->MK it s.heap g->Q x {s with heap:=g}):Lq (model prog w) A (Mw (.ref it)) Q E s:=by
 obtain⟨o,ho,hc,hd⟩:=id hit
 obtain⟨ot,hot,_,nt,hdt⟩:=ht
 unfold Mw;refine KY (Nv (name:=Pu "__next__") hit.typeIs Ng (Os Ng hit.typeIs OL (show Lq _ _ (R0 (.ref it) 0>>=_) _ _ s from KY (Mx ho hd (x:=.ref t) rfl ?_)) (OH _)))
 show Lq _ _ (if(Mf t==Mq)=true then _ else _) _ _ s
 rw[if_neg (show¬((Mf t==Mq)=true) from N0)];refine(show Lq _ _ (R0 (.ref it) 1>>=_) _ _ s from KY (Mx ho hd (x:=.int i 0) rfl (show Lq _ _ (Rj (.ref t)>>=_) _ _ s from KY (R1 hot hdt ?_))))
 simp only[Mb,hx];exact KY (NM ho hd (by simp) (Lc ⟨x,rfl,Lc (hQ _ ⟨_,My _ ho (MR (N5 hd _)),(Obj.cls_mapFields ..).trans hc,by rw[N5 hd];simp[NR]⟩ (Ql ..))⟩))
theorem rJ {it t:Addr}{i:Nat}{us}{Q:KU->KZ->Prop}(hh:A.handled=none)(hit:s.heap.IsTupleIter it t i)(ht:s.heap.IsTuple t us)(hx:us[i]? =none)
 (hE: ∀g e,Ru it s.heap g->(∃o,g.get? e=some o/\o.cls=.type "StopIteration")->E (.ref e) {s with heap:=g}):Lq (model prog w) A (Mw (.ref it)) Q E s:=by
 obtain⟨o,ho,hc,hd⟩:=id hit
 obtain⟨ot,hot,_,nt,hdt⟩:=ht
 unfold Mw;refine KY (Nv (name:=Pu "__next__") hit.typeIs Ng (Os Ng hit.typeIs OL (show Lq _ _ (R0 (.ref it) 0>>=_) _ _ s from KY (Mx ho hd (x:=.ref t) rfl ?_)) (OH _)))
 show Lq _ _ (if(Mf t==Mq)=true then _ else _) _ _ s
 rw[if_neg (show¬((Mf t==Mq)=true) from N0)];refine(show Lq _ _ (R0 (.ref it) 1>>=_) _ _ s from KY (Mx ho hd (x:=.int i 0) rfl (show Lq _ _ (Rj (.ref t)>>=_) _ _ s from KY (R1 hot hdt ?_))))
 simp only[Mb,hx];refine KY (Op (KY (NM ho hd (by simp) (show Lq _ _ (newExc (.type "StopIteration") []>>=_) _ _ _ from KY ?_))))
 simp only[newExc,newTuple];refine KY (ML ?_ (by size_fits))
 refine KY (m:=R3 _ _) (Rt (a:=Mq) (by first|rfl|(simp only[R3];rfl)) (ML ?_ (by size_fits)))
 simp only[raiseNew];refine KY (wpAny_handled ?_)
 first|rw[show A.in1.handled=none from hh]|rw[hh]
 exact KY (Lc (wpAny_throw (hE _ _ (((Ql ..).extBut.push _).push _) ⟨_,Lj _ rfl,rfl⟩)))
theorem tM {e it:Addr}{i:Nat}{x old:KU}{N:Heap->Prop}{Q:Option KU->KZ->Prop}(he:OI s.heap e it i old)(hne:e≠it)(hNk: ∀g g',N g->(∀o,g.get? it=some o->g'.get? it=some o)->N g')
 (nx: ∀(A':LC) (Q':KU->KZ->Prop) (E':KU->KZ->Prop),(∀g,N g->MK it s.heap g->Q' x {s with heap:=g})->Lq (model prog w) A' (Mw (.ref it)) Q' E' s)
 (hQ: ∀g,S0 g e it ((i:Int)+1) x s.heap.objs.size->N g->g.get? s.heap.objs.size=some {cls:=.type "tuple",data:=.seq #[.int i s.toks,x]}->g.objs.size=s.heap.objs.size+1->
   (∀b o,b≠e->b≠it->s.heap.get? b=some o->g.get? b=some o)->Q (some (.ref s.heap.objs.size)) {s with heap:=g,toks:=s.toks+1}):Lq (model prog w) A (OO (.ref e)) Q E s:=by
 have hT:s.TypeIs (.ref e) "enumerate":=⟨_,he,rfl⟩
 unfold OO;refine KY (SF (Nv (name:=Pu "__next__") hT NG (Os NG hT Pv ?_ (Pi _))))
 obtain⟨hp,gn,dr,tk,os⟩:=s
 refine(show Lq _ _ (R0 (.ref e) 2>>=_) _ _ _ from KY (Mx he rfl (x:=.ref it) rfl (KY (nx _ _ _ λg₁ n₁ b₁=>?_))))
 replace b₁:MK it hp g₁:=b₁
 have e₁:OI g₁ e it i old:=(b₁.2 e hne).trans he
 refine(show Lq _ _ (R0 (.ref e) 3>>=_) _ _ ⟨g₁,gn,dr,tk,os⟩ from KY (Mx e₁ rfl (x:=NR i) rfl ?_))
 refine(show Lq _ _ (R0 (.ref e) 4>>=_) _ _ ⟨g₁,gn,dr,tk,os⟩ from KY (Mx e₁ rfl (x:=.none) rfl ?_))
 refine(show Lq _ _ (mkInt i>>=_) _ _ ⟨g₁,gn,dr,tk,os⟩ from KY (wpAny_mkInt ?_))
 refine(show Lq _ _ (U7 (.ref e) 3 (NR ((i:Int)+1))>>=_) _ _ ⟨g₁,gn,dr,tk+1,os⟩ from KY (NB e₁ (by simp) λg₂ e₂ b₂=>?_))
 replace b₂:MK e g₁ g₂:=b₂
 replace e₂:OI g₂ e it ((i:Int)+1) old:=e₂
 refine(show Lq _ _ (U7 (.ref e) 4 .none>>=_) _ _ ⟨g₂,gn,dr,tk+1,os⟩ from KY (NB e₂ (by simp) λg₃ e₃ b₃=>?_))
 replace b₃:MK e g₂ g₃:=b₃
 replace e₃:OI g₃ e it ((i:Int)+1) old:=e₃
 refine(show Lq _ _ (newTuple [.int i tk,x]>>=_) _ _ ⟨g₃,gn,dr,tk+1,os⟩ from KY (wpAny_newTuple ?_))
 have z₃:g₃.objs.size=hp.objs.size:=by rw[b₃.1,b₂.1,b₁.1]
 have le:e<hp.objs.size:=Lh he
 have e₄:OI (g₃.push {cls:=.type "tuple",data:=.seq #[.int i tk,x]}) e it ((i:Int)+1) old:=K3 _ e₃
 have n₄:N (g₃.push {cls:=.type "tuple",data:=.seq #[.int i tk,x]}):=hNk _ _ n₁ λo ho=>K3 _ (b₃.extBut _ _ (Lw hne) (b₂.extBut _ _ (Lw hne) ho))
 have t₄:(g₃.push {cls:=.type "tuple",data:=.seq #[.int i tk,x]}).get? hp.objs.size=some {cls:=.type "tuple",data:=.seq #[.int i tk,x]}:=by rw[<-z₃];exact Lj _ rfl
 have s₄:(g₃.push {cls:=.type "tuple",data:=.seq #[.int i tk,x]}).objs.size=hp.objs.size+1:=by rw[Mr,z₃]
 have k₄: ∀b o,b≠e->b≠it->hp.get? b=some o->(g₃.push {cls:=.type "tuple",data:=.seq #[.int i tk,x]}).get? b=some o:=λb o h1 h2 h3=>K3 _ (b₃.extBut b o h1 (b₂.extBut b o h1 (b₁.extBut b o h2 h3)))
 generalize g₃.push {cls:=.type "tuple",data:=.seq #[.int i tk,x]}=g₄ at e₄ n₄ t₄ s₄ k₄
 rw[z₃];refine(show Lq _ _ (NV (.ref e)>>=_) _ _ ⟨g₄,gn,dr,tk+1,os⟩ from KY ?_)
 unfold NV;refine KY (Mx e₄ rfl (x:=.none) rfl (Lc ?_))
 simp only[if_true];refine KY (Op (KY (Mx e₄ rfl (x:=old) rfl (KY (NB e₄ (by simp) λg₅ e₅ b₅=>?_)))))
 replace b₅:MK e g₄ g₅:=b₅
 replace e₅:OI g₅ e it ((i:Int)+1) x:=e₅
 refine(show Lq _ _ (NS (.ref e) (.ref hp.objs.size)>>=_) _ _ ⟨g₅,gn,dr,tk+1,os⟩ from KY ?_)
 unfold NS;refine KY (NB e₅ (by simp) λg₆ e₆ b₆=>?_)
 replace b₆:MK e g₅ g₆:=b₆
 replace e₆:S0 g₆ e it ((i:Int)+1) x hp.objs.size:=e₆
 refine NB e₆ (by simp) λg₇ e₇ b₇=>?_
 replace b₇:MK e g₆ g₇:=b₇
 replace e₇:S0 g₇ e it ((i:Int)+1) x hp.objs.size:=e₇
 refine KY (wpAny_letGo (Lc ⟨_,rfl,Lc (hQ g₇ e₇ (hNk _ _ n₄ λo ho=>?_) ?_ ?_ λb o h1 h2 h3=>?_)⟩))
 ·exact b₇.extBut _ _ (Lw hne) (b₆.extBut _ _ (Lw hne) (b₅.extBut _ _ (Lw hne) ho))
 ·exact b₇.extBut _ _ (NA le) (b₆.extBut _ _ (NA le) (b₅.extBut _ _ (NA le) t₄))
 ·rw[b₇.1,b₆.1,b₅.1,s₄]
 ·exact b₇.extBut b o h1 (b₆.extBut b o h1 (b₅.extBut b o h1 (k₄ b o h1 h2 h3)))
theorem uC {e it:Addr}{i:Nat}{old:KU}{Q:Option KU->KZ->Prop}(he:OI s.heap e it i old)
 (nx: ∀(A':LC),A'.handled=A.handled-> ∀(Q':KU->KZ->Prop) (E':KU->KZ->Prop),(∀g x,Ru it s.heap g->(∃o,g.get? x=some o/\o.cls=.type "StopIteration")->E' (.ref x) {s with heap:=g})->Lq (model prog w) A' (Mw (.ref it)) Q' E' s)
 (hQ: ∀g,Ru it s.heap g->Q none {s with heap:=g}):Lq (model prog w) A (OO (.ref e)) Q E s:=by
 have hT:s.TypeIs (.ref e) "enumerate":=⟨_,he,rfl⟩
 unfold OO;refine KY (SF (Nv (name:=Pu "__next__") hT NG (Os NG hT Pv (show Lq _ _ (R0 (.ref e) 2>>=_) _ _ _ from KY (Mx he rfl (x:=.ref it) rfl (KY (nx A.in1 rfl _ _ λg x k hx=>?_)))) (Pi _))))
 obtain⟨o,ho,hc⟩:=hx
 exact KY (wpAny_isInstance (T:="StopIteration") (b:=true) ⟨o,ho,hc⟩ isSubtype_stop (Lc (hQ _ k)))
end
set_option maxHeartbeats 1000000 in
theorem tN(l:Addr)(us:Array KU)(n:Nat)(dct:Option Addr)(sl:Array (Option KU)):
 Meets (Builtin.«enumerate.__new__» ⟨[.type "enumerate",.ref l],[]⟩) (λ_ R s=>s.heap.get? l=some {cls:=.type "tuple",dict:=dct,data:=.seq us n,slots:=sl}/\
  R (.ok (.ret (.ref (s.heap.push {cls:=.type "tuple_iterator",data:=.fields #[.ref l,.int 0 0]}).objs.size)))
   {s with heap:=(s.heap.push {cls:=.type "tuple_iterator",data:=.fields #[.ref l,.int 0 0]}).push {cls:=.type "enumerate",data:=.fields #[.none,.bool false,.ref s.heap.objs.size,NR 0,.none,.none]}}):=
 .of_wp λprog w A R s h=>by
  obtain⟨hp,g,d,tk,os⟩:=s;obtain⟨hl,h⟩:=h
  have hsub:=sub_enumerate
  have hL:Heap.IsTuple (Shared.heap ⟨hp,g,d,tk,os⟩) l us:=⟨_,hl,rfl,n,rfl⟩
  wp_walk using Nk hl
  refine wpAny_stack_any λst=>Lc ?_
  split
  ·rename_i c _ _ _ _ _
   cases (c==VY "enumerate")
   ·wp_walk using Nk hl,N1 hL
    exact⟨_,rfl,h⟩
   ·wp_walk using Nk hl,N1 hL
    exact⟨_,rfl,h⟩
  ·wp_walk using Nk hl,N1 hL
   exact⟨_,rfl,h⟩
section
variable {prog:LB}{w:L1}{A:LC}{E:KU->KZ->Prop}{s:KZ}
theorem rO {l:Addr}{us:Array KU}{Q:KU->KZ->Prop}(hL:s.heap.IsTuple l us)
 (h: ∀g,OI g (s.heap.objs.size+1) s.heap.objs.size 0 .none->g.IsTupleIter s.heap.objs.size l 0->g.objs.size=s.heap.objs.size+2->(∀b o,s.heap.get? b=some o->g.get? b=some o)->Q (.ref (s.heap.objs.size+1)) {s with heap:=g}):
 Lq (model prog w) A (call (.type "enumerate") [.ref l]) Q E s:=by
 obtain⟨⟨cls,dct,dat,sl⟩,ho,hc,n,hd⟩:=hL
 have hc:cls=.type "tuple":=hc
 have hd:dat=.seq us n:=hd
 subst hc hd;refine callType_new QF (by decide) (Pw _) (PP _) (λobj=>P4 obj _) PQ (tN l us n dct sl) ⟨ho,?_⟩
 have hz:(s.heap.push {cls:=.type "tuple_iterator",data:=.fields #[.ref l,.int 0 0]}).objs.size=s.heap.objs.size+1:=Mr ..
 show _/\_;rw[hz];have he:OI ((s.heap.push {cls:=.type "tuple_iterator",data:=.fields #[.ref l,.int 0 0]}).push {cls:=.type "enumerate",data:=.fields #[.none,.bool false,.ref s.heap.objs.size,NR 0,.none,.none]}) (s.heap.objs.size+1) s.heap.objs.size 0 .none:=by
  have:=Lj (s.heap.push {cls:=.type "tuple_iterator",data:=.fields #[.ref l,.int 0 0]}) (o:={cls:=.type "enumerate",data:=.fields #[.none,.bool false,.ref s.heap.objs.size,NR 0,.none,.none]}) rfl
  rw[hz] at this;exact this
 exact⟨⟨_,he,rfl⟩,h _ he ⟨_,K3 _ (Lj _ rfl),rfl,rfl⟩ (by rw[Mr,hz]) λb o x=>K3 _ (K3 _ x)⟩
end
end PySem
namespace L2
open PySem PySem.Spec PyProof.Rows
def Kq(K:K7)(a:Addr):It:=
 ⟨λi H=> ∃xs x,SqT K H a xs/\xs[i]? =some x,λi H x H'=> ∃T,x=.ref T/\H T=none/\ ∀xs,SqT K H a xs-> ∃y,xs[i]? =some y/\H'=bI H T (.tup [.int i,y]),λi H=> ∃xs,SqT K H a xs/\xs.length<=i⟩
theorem xa {P:LB}{w:L1}{K:K7}{es:List Expr}{x1}{pos:Pos}(a it e:Addr)(hei:e≠it):Turn P w K (.Tuple es x1 pos) (Kq K a) [e,it] e (λi h=>(∃old,OI h e it i old)/\h.IsTupleIter it a i) where
 mem:=by simp
 obj:=λi h st b hb=>by
  obtain⟨⟨old,he⟩,o,ho,hc,hd⟩:=st
  rcases Ll.mp hb with rfl|hb
  ·exact⟨_,he,λv z=>by cases z⟩
  ·have:b=it:=by simpa using hb
   subst this;exact⟨o,ho,λv z=>by rw[hd] at z;cases z⟩
 keep:=λi h h' st k=>by
  obtain⟨⟨old,he⟩,hit⟩:=st
  exact⟨⟨old,k e (by simp) _ he⟩,hit.at λo x=>k it (by simp) o x⟩
 item:=by
  intro X hP hw hK hc i af s σ H E I hf st hg;subst hP hw hK;obtain⟨xs,x,hq,hx⟩:=hg
  obtain⟨its,rv,p,hz⟩:=I.tuple hq
  obtain⟨u,hu,ru⟩:=rv.get hx
  obtain⟨⟨old,he⟩,hit⟩:=st
  obtain⟨e0,e1,e2,e3,e4,e5⟩:=hf e (by simp)
  obtain⟨f0,f1,f2,f3,f4,f5⟩:=hf it (by simp)
  have ht:s.heap.IsTuple a its.toArray:=p
  refine tM (x:=u) (N:=λg=>g.IsTupleIter it a (i+1)) he hei (λg g' n k=>n.at k) (λA' Q' E' hq'=>qu hit ht (by simpa using hu) λg n b=>hq' g n b) λg hout hit' hT hsz hk=>⟨_,rfl,?_⟩
  refine OT hout λg' he' hs'=>?_
  have elt:e<s.heap.objs.size:=Lh he
  have k2: ∀b o,b≠e->b≠it->s.heap.get? b=some o->g'.get? b=some o:=λb o h1 h2 h3=>(hs'.2 b h1).trans (hk b o h1 h2 h3)
  have hT':g'.get? s.heap.objs.size=some {cls:=.type "tuple",data:=.seq #[.int i s.toks,u]}:=(hs'.2 _ (NA elt)).trans hT
  have hn:H s.heap.objs.size=none:=I.hok.fresh (Ld _)
  have I1:Inv X af σ (bI H s.heap.objs.size (.tup [.int i,x])) {s with heap:=g',toks:=s.toks+1}:=by
   obtain⟨oi,hoi,hci,hdi⟩:=id (show g'.IsTupleIter it a (i+1) from hit'.at λo y=>(hs'.2 it (Lw hei)).trans y)
   obtain⟨os0,hos0,_⟩:=id hit
   have ilt:it<s.heap.objs.size:=Lh hos0
   have I0:Inv X af σ (bI H s.heap.objs.size (.tup [.int i,x])) {s with heap:=s.heap.push {cls:=.type "tuple",data:=.seq #[.int i s.toks,u]},toks:=s.toks+1}:=
    I.laid (t':=s.toks+1) (λb o q=>K3 _ q) (Ld _) (show ObjOk X.prog X.w _ _ _ (.tup [.int i,x]) from
     ⟨NP (kq (by simp)),[.int i s.toks,u],.cons ⟨_,rfl⟩ (.cons ru .nil),⟨_,Lj _ rfl,rfl,_,rfl⟩,_,Lj _ rfl,rfl⟩)
   have u1:((s.heap.push {cls:=.type "tuple",data:=.seq #[.int i s.toks,u]}).update it λ_=>oi).get? it=some oi:=My (λ_=>oi) (K3 _ hos0) (MR hdi)
   have I1:Inv X af σ (bI H s.heap.objs.size (.tup [.int i,x])) {s with heap:=(s.heap.push {cls:=.type "tuple",data:=.seq #[.int i s.toks,u]}).update it λ_=>oi,toks:=s.toks+1}:=
    I0.turned (t':=s.toks+1) (λb o hb q=>(LR _ _ (Lw hb)).trans q) (by rw[aF (LF ilt)];exact f0) f1 f3 f4 f5
   refine I1.turned (t':=s.toks+1) (λb o hb q=>?_) (by rw[aF (LF elt)];exact e0) e1 e3 e4 e5
   by_cases hbi:b=it
   ·subst hbi
    have q':((s.heap.push {cls:=.type "tuple",data:=.seq #[.int i s.toks,u]}).update b λ_=>oi).get? b=some o:=q
    rw[u1] at q';cases q';exact hoi
   ·have q':((s.heap.push {cls:=.type "tuple",data:=.seq #[.int i s.toks,u]}).update it λ_=>oi).get? b=some o:=q
    rw[LR _ _ (Lw hbi)] at q'
    by_cases hbT:b=s.heap.objs.size
    ·subst hbT
     rw[Lj _ rfl] at q';cases q'
     exact hT'
    ·rw[QZ _ _ _ hbT] at q'
     exact k2 b o hb hbi q'
  refine⟨.ref s.heap.objs.size,bI H s.heap.objs.size (.tup [.int i,x]),I1,rfl,⟨_,rfl,hn,λys hy=>⟨x,by rw[I.tuple_inj hy hq];exact hx,rfl⟩⟩,⟨⟨u,by simpa using he'⟩,hit'.at λo y=>(hs'.2 it (Lw hei)).trans y⟩,λb hb=>?_⟩
  rcases Ll.mp hb with rfl|hb
  ·rw[aF (LF elt)];exact e0
  ·have:b=it:=by simpa using hb
   subst this;obtain⟨o,ho,_⟩:=hit
   rw[aF (LF (Lh ho))];exact f0
 done:=by
  intro X hP hw hK hc i af s σ H E I hf st hg;subst hP hw hK;obtain⟨xs,hq,hx⟩:=hg
  obtain⟨its,rv,p,hz⟩:=I.tuple hq
  obtain⟨⟨old,he⟩,hit⟩:=st
  obtain⟨f0,f1,f2,f3,f4,f5⟩:=hf it (by simp)
  have hl:=rv.length
  have hh:=I.ok.hd hc
  refine uC he (λA' hA' Q' E' hq'=>rJ (hA'.trans hh) hit (show s.heap.IsTuple a its.toArray from p) (by simp;omega) hq') λg k=>⟨rfl,I.turned (t':=s.toks) (λb o hb z=>k b o hb z) f0 f1 f3 f4 f5⟩
 self:=λ_ _ _ _ _ st h=>let⟨⟨_,he⟩,_⟩:=st;Oh he h
section
variable {X:Cx}{c:Ct}{k:Kd}{es:List Expr}{x1:Nat}{tp pos p:Pos}
def mZ(ds:List D):List D:=(KW ds.length).map λ(i:Nat)=>D.tup [.int i,ds.getD i .non]
def Di(f:FE):FA:=λρ=>(f ρ).bind λd=>match d with
 | .tup ds=>some (mZ ds)
 |_=>none
theorem yR {K:K7}{W:Hp}{a:Addr}{xs:List V}{ds:List D}(h1:SqT K W a xs)(h2:Reps K W xs ds):ItOk K W (Kq K a) (mZ ds):=by
 have l:=h2.length
 have el:(mZ ds).length=ds.length:=by simp[mZ]
 refine⟨λi d H e s=>?_,λH s=>⟨_,Same.seqT s h1,by rw[el,<-l];exact Ld _⟩⟩
 have hi:i<ds.length:=by rw[<-el];exact(Lp.mp e).1
 have ex:xs[i]? =some xs[i]:=K0 (by omega)
 refine⟨⟨_,xs[i],Same.seqT s h1,ex⟩,λy H' ⟨T,e2,hT,e3⟩=>?_⟩
 subst e2;obtain⟨z,e4,e5⟩:=e3 _ (Same.seqT s h1)
 subst e5;refine⟨bM hT _,λhid tr sw=>?_⟩
 have hf:hid T=false:=by
  cases eh:hid T with
  |false=>rfl
  |true=>obtain⟨o,ho⟩:=tr T eh;rw[hT] at ho;cases ho
 obtain⟨d',e6,r6⟩:=h2.get' e4
 have ed:d=.tup [.int i,d']:=by
  unfold mZ at e;rw[Ln,LU hi] at e;have:ds.getD i .non=d':=by simp[MB,e6]
  rw[MP,this] at e;exact(LH e).symm
 rw[ed];exact nX hT hf (.cons .int (.cons (r6.mono sw) .nil))
theorem Ce {iter:Expr}{f:FE}(h:DP X c .s iter f)(hm:X.mg "enumerate"=none)(hg:Gl X "enumerate":=by rfl)(hs:Le [iter] X.env=[(false,eval iter X.env)]:=by rfl):DIp X c (.Tuple es x1 tp) (.Call (.Name "enumerate" p) [iter] [] pos) (Di f):=by
 intro hid ρ af s σ H R I hq;obtain⟨sr,ds,hd,q⟩:=hq
 unfold Di at hd;cases e1:f ρ with
 |none=>rw[e1] at hd;cases hd
 |some z=>
  rw[e1] at hd;cases z with
  |tup us=>
   cases hd
   refine Call_ (oR (u:=.type "enumerate") I hg hm (by kernel_rfl) (MH (cy (il (h hid ρ) mL hs pos af s σ H (λvs H'=> ∃v,vs=[v]/\Same H H'/\Rep X.K (vw H' hid) v (.tup us)) I ⟨sr,_,e1,λv H' s' r=>⟨v,rfl,s',r⟩⟩) λvs s1 ⟨ws,H1,I1,r1,w,e,s',r⟩=>?_) hs rfl))
   subst e;cases r1 with
   |cons ra rb=>
    cases rb
    cases r with
    |tup t1 t2=>
     cases ra
     obtain⟨its,rv,pt,hz⟩:=I1.tuple (Same.seqT (gy _ _) t1)
     refine rO (show s1.heap.IsTuple _ its.toArray from pt) λg he hit hsz hk=>?_
     refine Oh he ⟨_,[s1.heap.objs.size+1,s1.heap.objs.size],_,_,H1,rfl,I1.kept (t':=s1.toks) λb o e=>hk b o e,xa _ _ _ (NA (LY _)),⟨⟨_,he⟩,hit⟩,λb hb=>?_,q _ H1 s' (yR t1 t2)⟩
     rcases Ll.mp hb with rfl|hb
     ·exact I1.fpOk (Nz _) (I1.hok.fresh (Nz _))
     ·have:b=s1.heap.objs.size:=by simpa using hb
      subst this;exact I1.fpOk (Ld _) (I1.hok.fresh (Ld _))
  |_=>cases hd
end
open PySem PySem.W PySem.Calls PyProof.Rows
def G1 {α:Type}(d:α)(n:Nat):Option α:=if n<=Lm then some d else none
def Kl {α:Type}(d:α)(n:Nat):Option α:=if n<Lm then some d else none
theorem gv {α:Type}{d:α}{n:Nat}(h:n<=1000):G1 d n=some d:=if_pos (NP (kq h))
theorem sh {α:Type}{d:α}{n:Nat}(h:n<=1000):Kl d n=some d:=if_pos (kq h)
theorem EK(fs:FA)(ρ:aJ):bF fs ρ=(fs ρ).bind λds=>G1 (.tup ds) ds.length:=rfl
theorem n8(fs:FA)(ρ:aJ):dZ fs ρ=(fs ρ).bind λds=>G1 (.lst ds) ds.length:=rfl
theorem AG(m:Nat)(gi:FA)(g:FG)(p:FT)(f:FE)(ρ:aJ):aR m gi g p f ρ=(gi ρ).bind λds=>(G1 () ds.length).bind λ_=>(fA g p f (ρ++K1 m .no) ds).map D.lst:=by
 unfold aR G1;congr 1;funext ds
 split<;>rfl
theorem yF(bs:List D)(d:D):la bs [d]=Kl (.non,bs++[d]) bs.length:=rfl
theorem D7(bs:List D)(i:Int):rR bs [.int i]=(G1 () bs.length).bind λ_=>(rl bs.length i).bind λj=>(bs[j]?).map λd=>(d,bs.eraseIdx j):=by
 unfold rR G1;dsimp only;split
 ·rename_i j e
  split at e
  ·rw[if_pos ‹_›,e];rfl
  ·cases e
 ·rename_i e
  split at e
  ·rw[if_pos ‹_›,e];rfl
  ·rw[if_neg ‹_›];rfl
def IE(ds:List D):Option (List D):=match ds with
 | [.int j]=>if j.natAbs<4000000000 then some (vp 0 j.toNat) else none
 |_=>none
theorem uH(f:FA)(ρ:aJ):bz f ρ=(f ρ).bind IE:=rfl
theorem uN {j:Int}(h:j.natAbs<=1000):IE [.int j]=some (vp 0 j.toNat):=by
 show(if j.natAbs<4000000000 then some (vp 0 j.toNat) else none)=_
 rw[if_pos (by omega)]
theorem dY(i j:Int):bC (.int i) (.int j)=some (.int (i+j)):=rfl
theorem lT(i j:Int):km (.int i) (.int j)=some (.int (i-j)):=rfl
theorem ym(i j:Int):uv (.int i) (.int j)=some (.bl (decide (i<j))):=rfl
theorem xZ(i j:Int):GZ (.int i) (.int j)=some (.bl (decide (j<=i))):=rfl
theorem fc {i j:Int}(h:0<j):cH (.int i) (.int j)=some (.int (i % j)):=by
 unfold cH i2;dsimp only;rw[if_pos (by simpa using h)]
theorem wr {n:Nat}(h:n<10^200):n<2^1000:=Li h (by decide)
theorem ku {i j:Int}(h1:i.natAbs<10^200)(h2:j.natAbs<10^200):gR (.int i) (.int j)=some (.int (i*j)):=by
 unfold gR i2;dsimp only;rw[if_pos (by rw[decide_eq_true (wr h1),decide_eq_true (wr h2)];rfl)]
theorem kD {i j:Int}(h1:0<j)(h2:j.natAbs<10^200):iZ (.int i) (.int j)=some (.int (i / j)):=by
 unfold iZ i2;dsimp only;rw[if_pos (by rw[decide_eq_true h1,decide_eq_true (wr h2)];rfl)]
theorem nk {i j:Int}(h0:0<=j)(h1:j<=1000000)(h2:i.natAbs<2^64):gH (.int i) (.int j)=some (.int (i^j.toNat)):=by
 unfold gH i2;dsimp only;rw[if_pos (by rw[decide_eq_true h0,decide_eq_true h1,decide_eq_true h2];rfl)]
theorem jE {x y:D}(h:fq x<=32):iD x y=some (.bl (eN x y)):=if_pos h
theorem lJ {x y:D}(h:fq x<=32):nM x y=some (.bl (!eN x y)):=if_pos h
theorem kP(i j:Int):eN (.int i) (.int j)=decide (i=j):=by
 unfold eN;rw[LI];simp
theorem fE(i:Int):fq (.int i)=0:=by unfold fq;rfl
structure Bag(N:Nat)(a b:Int):Prop where
 a0:0<=a
 a1:a.natAbs<10^180
 b0:0<=b
 b1:b<=N
 lo:b≠0->a.natAbs<2147483647
abbrev bq(a b:Int):List D:=[.int a,.int b]
def tY:FS:=
 aD (fS (bL (av uv (ai 1) (ak bu (ae (ai 0) (aj))))) (aZ (av aW (ai 0) (ai 1))) (skip))
 (aZ (aA (.int 0)))
def jQ:List D->Option D:=gr .s 2 tY
def Bo:FS:=
 aD (bj 2 (av cH (ak vf (ae (ak (nF 2 jQ) (ae (ai 0) (ae (ai 1) (aj)))) (aj))) (av gR (av gR (av gH (aA (.int 10)) (aA (.int 60))) (av gH (aA (.int 10)) (aA (.int 60)))) (av gH (aA (.int 10)) (aA (.int 60))))))
 (aD (fS (bL (av GZ (ai 2) (av gH (aA (.int 10)) (aA (.int 18))))) (aZ (dZ (ae (ai 2) (ae (aA (.int 0)) (aj))))) (skip))
 (aD (bj 3 (av cH (av bC (av bC (ai 2) (av gR (aA (.int 7919)) (ai 1))) (aA (.int 17))) (aA (.int 2147483647))))
 (aD (gW (dU (bz (ae (ak lQ (ae (ak bu (ae (ai 0) (aj))) (ae (aA (.int 9)) (aj)))) (aj)))) (gN 4) (bj 3 (av cH (av bC (av bC (av gH (ai 3) (aA (.int 5))) (av cH (av aW (ai 0) (ai 4)) (aA (.int 2147483629)))) (av gR (aA (.int 31)) (ai 4))) (aA (.int 2147483647)))))
 (aZ (dZ (ae (ai 3) (ae (aA (.int 1)) (aj))))))))
def Bn:List D->Option D:=gr .n 5 Bo
def sW:FS:=
 aD (fS (bL (av iD (av aW (fI 0) (aA (.int 1))) (aA (.int 0)))) (aD (bj 2 (av cH (av aW (fI 0) (aA (.int 0))) (ai 1)))
 (aD (dc (ft 0 (aA (.int 0))) (pu (av iZ (av aW (fI 0) (aA (.int 0))) (ai 1))))
 (aZ (ai 2)))) (skip))
 (aD (dc (ft 0 (aA (.int 0))) (pu (av cH (av bC (av bC (av gH (av aW (fI 0) (aA (.int 0))) (aA (.int 5))) (av gR (aA (.int 48271)) (av aW (fI 0) (aA (.int 1))))) (aA (.int 11))) (aA (.int 2147483647)))))
 (aD (dc (ft 0 (aA (.int 1))) (pu (av bC (av aW (fI 0) (aA (.int 1))) (aA (.int 1)))))
 (aZ (av cH (av iZ (av cH (av gR (av aW (fI 0) (aA (.int 0))) (aA (.int 69621))) (aA (.int 2147483629))) (aA (.int 8))) (ai 1)))))
def fU:List D->List D->Option (D×List D):=vY .s 3 sW
def u0:FS:=
 aD (fK 2 (C1 (ai 1)))
 (aD (fK 3 (dZ (aj)))
 (aD (pV (bL (av nM (fI 2) (dZ (aj)))) (eX (bn 3 1 la (gj (bn 2 1 rR (gj (bn 0 1 fU (dU (ae (ak bu (ae (fI 2) (aj))) (aj)))) (dU (aj)))) (dU (aj))))) 16)
 (rS 3)))
def ky:List D->List D->Option (D×List D):=vY .n 4 u0
theorem dh {i m:Int}(h:0<m):0<=i % m/\i % m<m:=⟨Int.emod_nonneg _ (by omega),Int.emod_lt_of_pos _ h⟩
theorem jN {N:Nat}{a b m:Int}(B:Bag N a b)(hN:N<=1000000000)(hm:0<m)(hm2:m.natAbs<10^20): ∃d a' b',fU (bq a b) [.int m]=some (.int d,bq a' b')/\Bag (N+1) a' b'/\0<=d/\d<m:=by
 have hm3:m.natAbs<10^200:=Li hm2 (by decide)
 by_cases hb:b=0
 ·subst hb
  refine⟨a % m,a / m,0,?_,⟨RC B.a0 (by omega),?_,by omega,by omega,λz=>absurd rfl z⟩,dh hm⟩
  ·simp[fU,vY,sW,rB,bq,aD,fS,bL,av,aW,fI,ai,aA,jE,kP,fE,vo,pU,rl,bj,fc hm,dc,pu,kD hm hm3,ft,kN,j9,Hb,aZ,qw]
  ·have h1:=B.a1
   have:a / m<=a:=Int.ediv_le_self _ B.a0
   have:0<=a / m:=RC B.a0 (by omega)
   omega
 ·have lo:=B.lo hb
  have p1:a.natAbs<2^64:=Px lo (by decide)
  have p2:b.natAbs<10^200:=Li (show b.natAbs<10^10 by have:=B.b1;have:=B.b0;omega) (by decide)
  generalize hA:(a^5+48271*b+11) % 2147483647=A
  have hA':0<=A/\A<2147483647:=by rw[<-hA];exact dh (by decide)
  have p3:A.natAbs<10^200:=Li (show A.natAbs<10^10 by omega) (by decide)
  refine⟨A*69621 % 2147483629 / 8 % m,A,b+1,?_,⟨hA'.1,?_,by have:=B.b0;omega,by have:=B.b1;omega,λ_=>by omega⟩,dh hm⟩
  ·have c1:(48271:Int).natAbs<10^200:=Li (show(48271:Int).natAbs<10^10 by decide) (by decide)
   have c2:(69621:Int).natAbs<10^200:=Li (show(69621:Int).natAbs<10^10 by decide) (by decide)
   have c3:(8:Int).natAbs<10^200:=Li (show(8:Int).natAbs<10^10 by decide) (by decide)
   have e1:gH (.int a) (.int 5)=some (.int (a^5)):=nk (by decide) (by decide) p1
   have e2:gR (.int 48271) (.int b)=some (.int (48271*b)):=ku c1 p2
   have e3: ∀i:Int,cH (.int i) (.int 2147483647)=some (.int (i % 2147483647)):=λi=>fc (by decide)
   have e4: ∀i:Int,cH (.int i) (.int 2147483629)=some (.int (i % 2147483629)):=λi=>fc (by decide)
   have e5:gR (.int A) (.int 69621)=some (.int (A*69621)):=ku p3 c2
   have e6: ∀i:Int,iZ (.int i) (.int 8)=some (.int (i / 8)):=λi=>kD (by decide) c3
   simp[fU,vY,sW,rB,bq,aD,fS,bL,av,aW,fI,ai,aA,jE,kP,fE,vo,pU,rl,hb,skip,e1,e2,e3,e4,dY,dc,pu,ft,kN,j9,Hb,aZ,qw,hA,e5,e6,fc hm]
  ·exact Li (show A.natAbs<10^10 by omega) (by decide)
theorem aC {t u:FS}{ρ ρ':aJ}(h:t ρ=.nx ρ'):aD t u ρ=u ρ':=by unfold aD;rw[h]
theorem mR {t u:FS}{ρ ρ':aJ}{d:D}(h:t ρ=.rt d ρ'):aD t u ρ=.rt d ρ':=by unfold aD;rw[h]
abbrev nI(i:Nat):D:=.int (i:Int)
abbrev lE(ns:List Int):D:=.scr (ns.map D.int)
theorem CM(n:Nat):vp 0 n=(KW n).map nI:=by
 unfold vp;simp
theorem i5 {n j:Nat}(h:j<n):rl n (j:Int)=some j:=by
 unfold rl;rw[if_pos (by omega),if_pos (by omega)];simp
theorem Dm(ns:List Int)(k:Nat): ∃c,jQ [lE ns,nI k]=some (.int c):=by
 by_cases h:k<ns.length
 ·refine⟨ns[k],?_⟩
  simp[jQ,gr,tY,fO,aD,fS,bL,av,ai,ak,ae,aj,bu,ym,vo,h,aZ,aW,pU,i5 (show k<(ns.map D.int).length by simpa using h)]
  simp[i5 h,h]
 ·refine⟨0,?_⟩
  simp[jQ,gr,tY,fO,aD,fS,bL,av,ai,ak,ae,aj,bu,ym,vo,h,aZ,skip,aA]
theorem uE(ns:List Int)(k:D)(c:D): ∀(l:List Nat),(∀i∈l,i<ns.length/\i<1000)-> ∀(x:Int) (s4:Sl),0<=x->x<2147483647-> ∃(x':Int) (s4':Sl),0<=x'/\x'<2147483647/\
 fh (gN 4) (bj 3 (av cH (av bC (av bC (av gH (ai 3) (aA (.int 5))) (av cH (av aW (ai 0) (ai 4)) (aA (.int 2147483629)))) (av gR (aA (.int 31)) (ai 4))) (aA (.int 2147483647)))) (l.map nI) [.v (lE ns),.v k,.v c,.v (.int x),s4]=.nx [.v (lE ns),.v k,.v c,.v (.int x'),s4']
 | [],_,x,s4,h1,h2=>⟨x,s4,h1,h2,rfl⟩
 |i::l,hl,x,s4,h1,h2=>by
  obtain⟨hi,hi2⟩:=hl i (by simp)
  have e1:gH (.int x) (.int 5)=some (.int (x^5)):=nk (by decide) (by decide) (Li (show x.natAbs<10^10 by omega) (by decide))
  have e2:gR (.int 31) (nI i)=some (.int (31*i)):=ku (Li (show(31:Int).natAbs<10^10 by decide) (by decide)) (Li (show(i:Int).natAbs<10^10 by omega) (by decide))
  have e3: ∀i:Int,cH (.int i) (.int 2147483647)=some (.int (i % 2147483647)):=λi=>fc (by decide)
  have e4: ∀i:Int,cH (.int i) (.int 2147483629)=some (.int (i % 2147483629)):=λi=>fc (by decide)
  obtain⟨y1,y2⟩:=dh (i:=x^5+ns[i] % 2147483629+31*i) (m:=2147483647) (by decide)
  obtain⟨x',s4',g1,g2,g3⟩:=uE ns k c l (λj hj=>hl j (by simp[hj])) _ (.v (nI i)) y1 y2
  refine⟨x',s4',g1,g2,?_⟩
  rw[<-g3];simp[fh,gN,bj,av,ai,aA,e1,e2,e3,e4,aW,pU,i5 (show i<(ns.map D.int).length by simpa using hi),i5 hi,hi,dY]
theorem GY(ns:List Int)(k:Nat)(hk:k<=1000)(hn:ns.length<=63): ∃a b,Bn [lE ns,nI k]=some (.lst (bq a b))/\Bag 1 a b:=by
 obtain⟨c,hc⟩:=Dm ns k
 have p1:gH (.int 10) (.int 60)=some (.int (10^60)):=nk (by decide) (by decide) (by decide)
 have p2:gH (.int 10) (.int 18)=some (.int (10^18)):=nk (by decide) (by decide) (by decide)
 have q60:((10:Int)^60).natAbs<10^200:=by decide
 have q120:((10:Int)^60*10^60).natAbs<10^200:=by decide
 have m1:gR (.int (10^60)) (.int (10^60))=some (.int (10^60*10^60)):=ku q60 q60
 have m2:gR (.int (10^60*10^60)) (.int (10^60))=some (.int (10^60*10^60*10^60)):=ku q120 q60
 have m3:gR (.int 7919) (nI k)=some (.int (7919*k)):=ku (Li (show(7919:Int).natAbs<10^10 by decide) (by decide)) (Li (show(k:Int).natAbs<10^10 by omega) (by decide))
 generalize hA:(if c<0 then -c else c) % (10^60*10^60*10^60)=A
 have hA':0<=A/\A<10^60*10^60*10^60:=by rw[<-hA];exact dh (by decide)
 have s1:bj 2 (av cH (ak vf (ae (ak (nF 2 jQ) (ae (ai 0) (ae (ai 1) (aj)))) (aj))) (av gR (av gR (av gH (aA (.int 10)) (aA (.int 60))) (av gH (aA (.int 10)) (aA (.int 60)))) (av gH (aA (.int 10)) (aA (.int 60))))) [.v (lE ns),.v (nI k),.no,.no,.no]=.nx [.v (lE ns),.v (nI k),.v (.int A),.no,.no]:=by
  have m4: ∀i:Int,cH (.int i) (.int (10^60*10^60*10^60))=some (.int (i % (10^60*10^60*10^60))):=λi=>fc (by decide)
  unfold bj;have:av cH (ak vf (ae (ak (nF 2 jQ) (ae (ai 0) (ae (ai 1) (aj)))) (aj))) (av gR (av gR (av gH (aA (.int 10)) (aA (.int 60))) (av gH (aA (.int 10)) (aA (.int 60)))) (av gH (aA (.int 10)) (aA (.int 60)))) [.v (lE ns),.v (nI k),.no,.no,.no]=some (.int A):=by
   have ec:ak (nF 2 jQ) (ae (ai 0) (ae (ai 1) aj)) [.v (lE ns),.v (nI k),.no,.no,.no]=some (.int c):=hc
   simp only[av,ak,ae,aj,aA,K6,p1,m1,m2,vf];have ec':((ai 0 [.v (lE ns),.v (nI k),.no,.no,.no]).bind λd=>((ai 1 [.v (lE ns),.v (nI k),.no,.no,.no]).bind λd=>(some []).map λr=>d::r).map λr=>d::r).bind (nF 2 jQ)=some (.int c):=hc
   rw[ec'];simp only[K6,MP,m4,vf,hA]
  rw[this];rfl
 have r0:fO 5 [lE ns,nI k]=[.v (lE ns),.v (nI k),.no,.no,.no]:=rfl
 unfold Bn gr Bo;rw[r0,aC s1];have hA180:A.natAbs<10^180:=by
  have:(10:Int)^60*10^60*10^60=((10^180:Nat):Int):=by decide
  rw[this] at hA';omega
 by_cases hb:(10:Int)^18<=A
 ·refine⟨A,0,?_,⟨hA'.1,hA180,by decide,by decide,λz=>absurd rfl z⟩⟩
  simp only[aD,fS,bL,av,ai,MC,MD,K6,aA,p2,xZ,vo,decide_eq_true hb,aZ,n8,ae,aj,MP];rw[gv (by simp)]
 ·generalize hx:(A+7919*(k:Int)+17) % 2147483647=x
  have hx':0<=x/\x<2147483647:=by rw[<-hx];exact dh (by decide)
  have m4:cH (.int (A+7919*(k:Int)+17)) (.int 2147483647)=some (.int x):=by rw[fc (by decide),hx]
  have hr:bz (ae (ak lQ (ae (ak bu (ae (ai 0) (aj))) (ae (aA (.int 9)) (aj)))) (aj)) [.v (lE ns),.v (nI k),.v (.int A),.v (.int x),.no]=some ((KW (min ns.length 9)).map nI):=by
   rw[uH];simp only[ak,ae,aj,ai,aA,MD,K6,MP,bu,lQ,K5];have:(if(9:Int)<(ns.length:Int) then(9:Int) else(ns.length:Int))=((min ns.length 9:Nat):Int):=by split<;>omega
   rw[this,uN (by omega),CM,Mb]
  obtain⟨x',s4',g1,g2,g3⟩:=uE ns (nI k) (.int A) (KW (min ns.length 9)) (λi hi=>by have:=La.mp hi;omega) x .no hx'.1 hx'.2
  refine⟨x',1,?_,⟨g1,Li (show x'.natAbs<10^10 by omega) (by decide),by decide,by decide,λ_=>by omega⟩⟩
  have f1:gW (dU (bz (ae (ak lQ (ae (ak bu (ae (ai 0) (aj))) (ae (aA (.int 9)) (aj)))) (aj)))) (gN 4) (bj 3 (av cH (av bC (av bC (av gH (ai 3) (aA (.int 5))) (av cH (av aW (ai 0) (ai 4)) (aA (.int 2147483629)))) (av gR (aA (.int 31)) (ai 4))) (aA (.int 2147483647)))) [.v (lE ns),.v (nI k),.v (.int A),.v (.int x),.no]=.nx [.v (lE ns),.v (nI k),.v (.int A),.v (.int x'),s4']:=by
   unfold gW dU;rw[hr];exact g3
  have i1:fS (bL (av GZ (ai 2) (av gH (aA (.int 10)) (aA (.int 18))))) (aZ (dZ (ae (ai 2) (ae (aA (.int 0)) (aj))))) (skip) [.v (lE ns),.v (nI k),.v (.int A),.no,.no]=.nx [.v (lE ns),.v (nI k),.v (.int A),.no,.no]:=by
   simp only[fS,bL,av,ai,MC,MD,K6,aA,p2,xZ,vo,decide_eq_false hb,skip]
  have i2:bj 3 (av cH (av bC (av bC (ai 2) (av gR (aA (.int 7919)) (ai 1))) (aA (.int 17))) (aA (.int 2147483647))) [.v (lE ns),.v (nI k),.v (.int A),.no,.no]=.nx [.v (lE ns),.v (nI k),.v (.int A),.v (.int x),.no]:=by
   simp only[bj,av,ai,MC,MD,K6,aA,m3,dY,m4,List.set_cons_succ,List.set_cons_zero]
  rw[aC i1,aC i2,aC f1];simp only[aZ,n8,ae,aj,ai,aA,MC,MD,K6,MP];rw[gv (by simp)]
theorem cN {i n:Nat}{M:List D->List D->Option (D×List D)}{fs:GA}{ρ ρ1:aJ}{b0 bs ds bs':List D}{d:D}(h0:kN i ρ=some b0)(h1:fs ρ=some (ds,ρ1))(h2:kN i ρ1=some bs)(h3:ds.length=n)(h4:M bs ds=some (d,bs')):bn i n M fs ρ=some (d,j9 i bs' ρ1):=by
 unfold bn;rw[h0];dsimp only;rw[h1];dsimp only;rw[h2];dsimp only;rw[if_pos h3,h4]
theorem lN {f:GE}{fs:GA}{ρ ρ1 ρ2:aJ}{d:D}{ds:List D}(h1:f ρ=some (d,ρ1))(h2:fs ρ1=some (ds,ρ2)):gj f fs ρ=some (d::ds,ρ2):=by
 unfold gj bE;rw[h1];dsimp only[Nn];rw[h2];rfl
theorem ck {f:FA}{ρ:aJ}{ds:List D}(h:f ρ=some ds):dU f ρ=some (ds,ρ):=by unfold dU;rw[h];rfl
theorem gV {f:FE}{ρ:aJ}{d:D}(h:f ρ=some d):pu f ρ=some (d,ρ):=by unfold pu;rw[h];rfl
theorem sq {α β:Type}(f:α->β): ∀(l:List α) (j:Nat),(l.map f).eraseIdx j=(l.eraseIdx j).map f
 | [],_=>rfl
 |_::_,0=>rfl
 |x::l,j+1=>by simp[sq f l j]
theorem qz {α:Type}: ∀(l:List α) (j:Nat) (h:j<l.length),(l[j]::l.eraseIdx j).Perm l
 |_::_,0,_=>.refl _
 |x::l,j+1,h=>by
  have ih:=qz l j (by simpa using h)
  exact(List.Perm.swap _ _ _).trans (ih.cons x)
theorem jX: ∀r:List Nat,dB (r.map nI)=0
 | []=>by simp[dB]
 |a::r=>by
  rw[Lf];unfold dB;rw[jX r];simp[fq]
theorem Bu(r:List Nat):fq (.lst (r.map nI))<=32:=by unfold fq;rw[jX];omega
theorem Bq(r:List Nat):fq (.tup (r.map nI))<=32:=by unfold fq;rw[jX];omega
abbrev Kh:FS->Nat->FS:=λb n=>pV (bL (av nM (fI 2) (dZ (aj)))) b n
abbrev sE:FS:=eX (bn 3 1 la (gj (bn 2 1 rR (gj (bn 0 1 fU (dU (ae (ak bu (ae (fI 2) (aj))) (aj)))) (dU (aj)))) (dU (aj))))
theorem HI(n:D)(bg:List D)(left found:List Nat):bL (av nM (fI 2) (dZ (aj))) [.arg bg,.v n,.own (left.map nI),.own (found.map nI)]=some (!left.isEmpty):=by
 have h0:dZ aj [.arg bg,.v n,.own (left.map nI),.own (found.map nI)]=some (.lst []):=by
  rw[n8];simp only[aj,K6];exact gv (by simp)
 unfold bL av;rw[h0];simp only[fI,MC,MD,K6];rw[lJ (Bu left)];cases left with
 |nil=>simp[vo,eN,eW]
 |cons x r=>simp[vo,eN,eW]
theorem Az(n:D){N:Nat}{a b:Int}(B:Bag N a b)(hN:N<=1000000000)(left found:List Nat)(h0:0<left.length)(h1:left.length<=100)(h2:found.length<=100):
 ∃(j:Nat) (hj:j<left.length) (a' b':Int),sE [.arg (bq a b),.v n,.own (left.map nI),.own (found.map nI)]=.nx [.arg (bq a' b'),.v n,.own ((left.eraseIdx j).map nI),.own ((found++[left[j]]).map nI)]/\Bag (N+1) a' b':=by
 obtain⟨d,a',b',e,B',d0,d1⟩:=jN (m:=left.length) B hN (by omega) (Li (show(left.length:Int).natAbs<10^10 by omega) (by decide))
 obtain⟨j,rfl⟩: ∃j:Nat,d=(j:Int):=⟨d.toNat,by omega⟩
 have hj:j<left.length:=by omega
 refine⟨j,hj,a',b',?_,B'⟩
 have e2:rR (left.map nI) [.int (j:Int)]=some (nI left[j],(left.eraseIdx j).map nI):=by
  rw[D7,gv (by simp;omega)]
  simp only[K6];rw[i5 (by simpa using hj)]
  simp[hj,sq]
 have e3:la (found.map nI) [nI left[j]]=some (.non,(found++[left[j]]).map nI):=by
  rw[yF,sh (by simp;omega)];simp
 have g:bn 0 1 fU (dU (ae (ak bu (ae (fI 2) (aj))) (aj))) [.arg (bq a b),.v n,.own (left.map nI),.own (found.map nI)]=some (nI j,[.arg (bq a' b'),.v n,.own (left.map nI),.own (found.map nI)]):=by
  simp[bn,kN,dU,ae,ak,fI,aj,bu,e,j9]
 have g2:bn 2 1 rR (gj (bn 0 1 fU (dU (ae (ak bu (ae (fI 2) (aj))) (aj)))) (dU (aj))) [.arg (bq a b),.v n,.own (left.map nI),.own (found.map nI)]=some (nI left[j],[.arg (bq a' b'),.v n,.own ((left.eraseIdx j).map nI),.own (found.map nI)]):=by
  refine(cN (i:=2) (n:=1) (b0:=left.map nI) (ds:=[nI j]) (ρ1:=[.arg (bq a' b'),.v n,.own (left.map nI),.own (found.map nI)]) rfl (lN g rfl) rfl rfl e2).trans rfl
 have g3:bn 3 1 la (gj (bn 2 1 rR (gj (bn 0 1 fU (dU (ae (ak bu (ae (fI 2) (aj))) (aj)))) (dU (aj)))) (dU (aj))) [.arg (bq a b),.v n,.own (left.map nI),.own (found.map nI)]=some (.non,[.arg (bq a' b'),.v n,.own ((left.eraseIdx j).map nI),.own ((found++[left[j]]).map nI)]):=by
  refine(cN (i:=3) (n:=1) (b0:=found.map nI) (ds:=[nI left[j]]) (ρ1:=[.arg (bq a' b'),.v n,.own ((left.eraseIdx j).map nI),.own (found.map nI)]) rfl (lN g2 rfl) rfl rfl e3).trans rfl
 unfold sE eX;rw[g3]
theorem Fj(n:D): ∀(f:Nat) (left found:List Nat) (N:Nat) (a b:Int),left.length<f->left.length<=50->found.length+left.length<=100->Bag N a b->N+left.length<=1000000000->
 ∃(o:List Nat) (a' b':Int),Kh sE f [.arg (bq a b),.v n,.own (left.map nI),.own (found.map nI)]=.nx [.arg (bq a' b'),.v n,.own [],.own ((found++o).map nI)]/\o.Perm left/\Bag (N+left.length) a' b'
 |0,left,found,N,a,b,h,_,_,_,_=>absurd h (OG _)
 |f+1,left,found,N,a,b,h,h1,h2,B,hN=>by
  unfold Kh pV;rw[HI];cases e:left.isEmpty with
  |true=>
   have:left=[]:=by simpa using e
   subst this;exact⟨[],a,b,by simp,.refl _,by simpa using B⟩
  |false=>
   have h0:0<left.length:=by cases left with
    |nil=>cases e
    |cons x r=>simp
   obtain⟨j,hj,a1,b1,e1,B1⟩:=Az n B (by omega) left found h0 (by omega) (by omega)
   have hl:(left.eraseIdx j).length=left.length-1:=by rw[List.length_eraseIdx];simp[hj]
   obtain⟨o,a2,b2,e2,p,B2⟩:=Fj n f (left.eraseIdx j) (found++[left[j]]) (N+1) a1 b1 (by omega) (by omega) (by simp;omega) B1 (by omega)
   refine⟨left[j]::o,a2,b2,?_,?_,?_⟩
   ·simp only[Bool.not_false]
    rw[e1];dsimp only;have:pV (bL (av nM (fI 2) (dZ aj))) sE f=Kh sE f:=rfl
    rw[this,e2];simp
   ·exact(p.cons _).trans (qz left j hj)
   ·rw[show N+left.length=N+1+(left.eraseIdx j).length by omega];exact B2
structure Ord(n:Nat)(r:List Nat):Prop where
 perm:r.Perm (KW n)
theorem Ord.len {n:Nat}{r:List Nat}(o:Ord n r):r.length=n:=by rw[o.perm.length_eq];simp
theorem Ord.lt {n:Nat}{r:List Nat}(o:Ord n r){v:Nat}(h:v∈r):v<n:=by simpa using o.perm.mem_iff.mp h
theorem Ord.has {n:Nat}{r:List Nat}(o:Ord n r){v:Nat}(h:v<n):v∈r:=o.perm.mem_iff.mpr (by simpa using h)
theorem Ord.nd {n:Nat}{r:List Nat}(o:Ord n r):r.Nodup:=o.perm.nodup_iff.mpr ME
theorem E6 {n:Nat}(h:n<=1000)(f:FE)(ρ:aJ)(e:f ρ=some (nI n)):C1 f ρ=some (.lst ((KW n).map nI)):=by
 unfold C1 EH;rw[e];simp only[K6];rw[if_pos (by omega),CM];rfl
theorem uU {N:Nat}{a b:Int}(B:Bag N a b){n:Nat}(hn:n<=12)(hN:N<=900000000): ∃(o:List Nat) (a' b':Int),ky (bq a b) [nI n]=some (.lst (o.map nI),bq a' b')/\Ord n o/\Bag (N+n) a' b':=by
 obtain⟨o,a',b',e,p,B'⟩:=Fj (nI n) 16 (KW n) [] N a b (by simp;omega) (by simp;omega) (by simp;omega) B (by simp;omega)
 refine⟨o,a',b',?_,⟨p⟩,by simpa using B'⟩
 have r0:rB 4 (bq a b) [nI n]=[.arg (bq a b),.v (nI n),.no,.no]:=rfl
 have s1:fK 2 (C1 (ai 1)) [.arg (bq a b),.v (nI n),.no,.no]=.nx [.arg (bq a b),.v (nI n),.own ((KW n).map nI),.no]:=by
  unfold fK;rw[E6 (n:=n) (by omega) (ai 1) _ rfl]
  rfl
 have s2:fK 3 (dZ (aj)) [.arg (bq a b),.v (nI n),.own ((KW n).map nI),.no]=.nx [.arg (bq a b),.v (nI n),.own ((KW n).map nI),.own []]:=by
  unfold fK;rw[n8];simp only[aj,K6];rw[gv (by simp)]
  rfl
 unfold ky vY u0;rw[r0,aC s1,aC s2];have e':pV (bL (av nM (fI 2) (dZ (aj)))) sE 16 [.arg (bq a b),.v (nI n),.own ((KW n).map nI),.own []]=.nx [.arg (bq a' b'),.v (nI n),.own [],.own (o.map nI)]:=e
 rw[aC e'];simp[rS,v4,qw]
theorem az {F:D->D->Option D}{f g:FE}{ρ:aJ}{x y:D}(h1:f ρ=some x)(h2:g ρ=some y):av F f g ρ=F x y:=by unfold av;rw[h1,K6,h2,K6]
theorem xV {F:D->D->Option D}{f g:GE}{ρ ρ1 ρ2:aJ}{x y d:D}(h1:f ρ=some (x,ρ1))(h2:g ρ1=some (y,ρ2))(h3:F x y=some d):p7 F f g ρ=some (d,ρ2):=by
 unfold p7 bE;rw[h1];dsimp only[Nn];rw[h2];dsimp only[Nn];rw[h3];rfl
theorem bv {i:Nat}{f:FE}{ρ:aJ}{d:D}(h:f ρ=some d):bj i f ρ=.nx (ρ.set i (.v d)):=by unfold bj;rw[h]
theorem jb {i:Nat}{f:GE}{ρ ρ1:aJ}{d:D}(h:f ρ=some (d,ρ1)):jD i f ρ=.nx (ρ1.set i (.v d)):=by unfold jD;rw[h]
theorem Dh {i:Nat}{f:GE}{ρ ρ1:aJ}{ds:List D}(h:f ρ=some (.lst ds,ρ1)):wt i f ρ=.nx (ρ1.set i (.own ds)):=by unfold wt;rw[h];rfl
theorem i9 {i:Nat}{f:FE}{ρ:aJ}{ds:List D}(h:f ρ=some (.lst ds)):fK i f ρ=.nx (ρ.set i (.own ds)):=by unfold fK;rw[h];rfl
theorem cD {f:FA}{ρ:aJ}{ds:List D}(h:f ρ=some ds)(h2:ds.length<=1000):bF f ρ=some (.tup ds):=by
 rw[EK,h,K6,gv h2]
theorem li {f:FA}{ρ:aJ}{ds:List D}(h:f ρ=some ds)(h2:ds.length<=1000):dZ f ρ=some (.lst ds):=by
 rw[n8,h,K6,gv h2]
theorem ao {f:FE}{fs:FA}{ρ:aJ}{d:D}{ds:List D}(h1:f ρ=some d)(h2:fs ρ=some ds):ae f fs ρ=some (d::ds):=by unfold ae;rw[h1,h2];rfl
theorem bU {F:List D->Option D}{f:FA}{ρ:aJ}{ds:List D}(h:f ρ=some ds):ak F f ρ=F ds:=by unfold ak;rw[h];rfl
theorem FD {r:List Nat}{c:Nat}(h:c<r.length):pU (r.map nI) (c:Int)=some (nI (r.getD c 0)):=nK (by rw[Ln,K0 h];simp[MB,h])
theorem yz {r:List Nat}{c:Nat}(h:c<r.length):aW (.lst (r.map nI)) (nI c)=some (nI (r.getD c 0)):=FD h
theorem gI {r:List Nat}{c:Nat}(h:c<r.length):aW (.tup (r.map nI)) (nI c)=some (nI (r.getD c 0)):=FD h
theorem iJ(a b:Nat):eN (nI a) (nI b)=decide (a=b):=by
 rw[kP];rw[LI];simp;omega
theorem GM(a b:Nat):bC (nI a) (nI b)=some (nI (a+b)):=by rw[dY];simp
theorem yX(a:Nat):bC (nI a) (.int 1)=some (nI (a+1)):=by rw[dY];simp
theorem EN {a n:Nat}(h:0<n):cH (nI a) (nI n)=some (nI (a % n)):=by rw[fc (by omega)];rfl
theorem nS {i:Nat}{fi:FE}{d:D}{ρ:aJ}{bs:List D}{j:Nat}(h1:kN i ρ=some bs)(h2:fi ρ=some (nI j))(h3:j<bs.length):ft i fi d ρ=some (j9 i (bs.set j d) ρ):=by
 unfold ft;rw[h1];dsimp only;rw[h2];dsimp only;rw[i5 h3]
theorem uJ(x:List Nat)(j v:Nat):(x.map nI).set j (nI v)=(x.set j v).map nI:=by rw[TH]
def v7(n:Nat)(r x:List Nat)(c:Nat):List Nat:=if x.getD c 0=r.getD c 0 then(x.set c (x.getD ((c+1) % n) 0)).set ((c+1) % n) (x.getD c 0) else x
abbrev yL:FS:=aD (bj 7 (av cH (av bC (ai 6) (aA (.int 1))) (ai 1)))
 (fS (bL (av iD (av aW (fI 5) (ai 6)) (av aW (ai 4) (ai 6)))) (dc (gT 2 (cA (ft 5 (ai 6)) (cA (ft 5 (ai 7)) (iC)))) (pu (bF (ae (av aW (fI 5) (ai 7)) (ae (av aW (fI 5) (ai 6)) (aj)))))) (skip))
theorem AQ(bg:List D)(p q:D)(n:Nat)(r x:List Nat)(c:Nat)(s7:Sl)(hr:r.length=n)(hx:x.length=n)(hc:c<n):
 yL [.arg bg,.v (nI n),.v p,.v q,.v (.lst (r.map nI)),.own (x.map nI),.v (nI c),s7]=.nx [.arg bg,.v (nI n),.v p,.v q,.v (.lst (r.map nI)),.own ((v7 n r x c).map nI),.v (nI c),.v (nI ((c+1) % n))]:=by
 have hd:(c+1) % n<n:=R4 _ (by omega)
 have e1:bj 7 (av cH (av bC (ai 6) (aA (.int 1))) (ai 1)) [.arg bg,.v (nI n),.v p,.v q,.v (.lst (r.map nI)),.own (x.map nI),.v (nI c),s7]=.nx [.arg bg,.v (nI n),.v p,.v q,.v (.lst (r.map nI)),.own (x.map nI),.v (nI c),.v (nI ((c+1) % n))]:=
  (bv ((az (az (x:=nI c) (y:=.int 1) rfl rfl |>.trans (yX c)) (y:=nI n) rfl).trans (EN (by omega)))).trans rfl
 unfold yL;rw[aC e1];have i1:av aW (fI 5) (ai 6) [.arg bg,.v (nI n),.v p,.v q,.v (.lst (r.map nI)),.own (x.map nI),.v (nI c),.v (nI ((c+1) % n))]=some (nI (x.getD c 0)):=(az (x:=.lst (x.map nI)) (y:=nI c) rfl rfl).trans (yz (by omega))
 have i2:av aW (ai 4) (ai 6) [.arg bg,.v (nI n),.v p,.v q,.v (.lst (r.map nI)),.own (x.map nI),.v (nI c),.v (nI ((c+1) % n))]=some (nI (r.getD c 0)):=(az (x:=.lst (r.map nI)) (y:=nI c) rfl rfl).trans (yz (by omega))
 have i3:av aW (fI 5) (ai 7) [.arg bg,.v (nI n),.v p,.v q,.v (.lst (r.map nI)),.own (x.map nI),.v (nI c),.v (nI ((c+1) % n))]=some (nI (x.getD ((c+1) % n) 0)):=(az (x:=.lst (x.map nI)) (y:=nI ((c+1) % n)) rfl rfl).trans (yz (by omega))
 unfold fS bL;rw[az i1 i2,jE (by rw[fE];omega),iJ]
 by_cases e:x.getD c 0=r.getD c 0
 ·rw[decide_eq_true e]
  simp only[vo];unfold dc;rw[gV (cD (ao i3 (ao i1 rfl)) (by simp))]
  simp only[gT,LM,OJ,cA];unfold v7;rw[if_pos e];rw[nS (bs:=x.map nI) (j:=c) rfl rfl (by simp;omega)]
  simp only[K6];rw[nS (bs:=(x.map nI).set c (nI (x.getD ((c+1) % n) 0))) (j:=(c+1) % n) rfl rfl (by simp;omega)]
  simp only[K6,iC,uJ];rfl
 ·rw[decide_eq_false e]
  simp only[vo,skip];unfold v7;rw[if_neg e]
theorem swap_perm(x:List Nat)(c d:Nat)(hc:c<x.length)(hd:d<x.length):((x.set c (x.getD d 0)).set d (x.getD c 0)).Perm x:=by
 have e:(x.toArray.swap c d (by simpa using hc) (by simpa using hd)).toList=(x.set c (x.getD d 0)).set d (x.getD c 0):=by
  simp[Array.toList_swap,MB,hc,hd]
 rw[<-e];have:=Array.swap_perm (xs:=x.toArray) (i:=c) (j:=d) (by simpa using hc) (by simpa using hd)
 simpa using (Array.perm_iff_toList_perm.mp this)
theorem tB {x:List Nat}(h:x.Nodup){i j:Nat}(hi:i<x.length)(hj:j<x.length)(e:x.getD i 0=x.getD j 0):i=j:=by
 have:x[i]=x[j]:=by simpa [MB,hi,hj] using e
 exact(Q9 h).mp this
theorem Ord.fix {n:Nat}{r x:List Nat}(or:Ord n r)(ox:Ord n x){c:Nat}(hc:c<n)(hn:2<=n):Ord n (v7 n r x c)/\((∀i,i<c->x.getD i 0≠r.getD i 0)-> ∀i,i<c+1->(v7 n r x c).getD i 0≠r.getD i 0):=by
 have lx:=ox.len
 have lr:=or.len
 have hd:(c+1) % n<n:=R4 _ (by omega)
 have gx: ∀i,i<n->x.getD i 0=x[i]! :=λi hi=>by simp[MB,lx,hi]
 unfold v7
 by_cases e:x.getD c 0=r.getD c 0
 ·rw[if_pos e]
  have ne:(c+1) % n≠c:=by
   by_cases h:c+1<n
   ·rw[Nat.mod_eq_of_lt h];omega
   ·rw[show c+1=n by omega,Nat.mod_self];omega
  refine⟨⟨(swap_perm x c _ (by omega) (by omega)).trans ox.perm⟩,λh i hi=>?_⟩
  have g:((x.set c (x.getD ((c+1) % n) 0)).set ((c+1) % n) (x.getD c 0)).getD i 0=if i=(c+1) % n then x.getD c 0 else if i=c then x.getD ((c+1) % n) 0 else x.getD i 0:=by
   simp only[MB,Q0,Pz]
   by_cases h1:(c+1) % n=i
   ·subst h1;simp[lx,hd]
   ·rw[if_neg h1,if_neg (Lw h1)]
    by_cases h2:c=i
    ·subst h2;simp[lx,hc]
    ·rw[if_neg h2,if_neg (Lw h2)]
  rw[g]
  by_cases h1:i=(c+1) % n
  ·rw[if_pos h1,e]
   intro z;have:=tB or.nd (by omega) (by omega) z
   omega
  ·rw[if_neg h1]
   by_cases h2:i=c
   ·rw[if_pos h2,h2,<-e]
    intro z;have:=tB ox.nd (by omega) (by omega) z
    omega
   ·rw[if_neg h2];exact h i (by omega)
 ·rw[if_neg e]
  refine⟨ox,λh i hi=>?_⟩
  by_cases hic:i=c
  ·subst hic;exact e
  ·exact h i (by omega)
theorem Ff(bg:List D)(p q:D){n:Nat}{r:List Nat}(or:Ord n r)(hn:2<=n): ∀(k c:Nat) (x:List Nat) (s6 s7:Sl),c+k=n->Ord n x->(∀i,i<c->x.getD i 0≠r.getD i 0)->
 ∃(x':List Nat) (s6' s7':Sl),fh (gN 6) yL ((Mj c k).map nI) [.arg bg,.v (nI n),.v p,.v q,.v (.lst (r.map nI)),.own (x.map nI),s6,s7]=.nx [.arg bg,.v (nI n),.v p,.v q,.v (.lst (r.map nI)),.own (x'.map nI),s6',s7']/\Ord n x'/\ ∀i,i<n->x'.getD i 0≠r.getD i 0
 |0,c,x,s6,s7,h,ox,hi=>⟨x,s6,s7,rfl,ox,λi h'=>hi i (by omega)⟩
 |k+1,c,x,s6,s7,h,ox,hi=>by
  obtain⟨o1,o2⟩:=or.fix ox (c:=c) (by omega) hn
  obtain⟨x',a,b,e,o3,o4⟩:=Ff bg p q or hn k (c+1) (v7 n r x c) (.v (nI c)) (.v (nI ((c+1) % n))) (by omega) o1 (o2 hi)
  refine⟨x',a,b,?_,o3,o4⟩
  rw[Ph,Lf];unfold fh;have:gN 6 (nI c) [.arg bg,.v (nI n),.v p,.v q,.v (.lst (r.map nI)),.own (x.map nI),s6,s7]=some [.arg bg,.v (nI n),.v p,.v q,.v (.lst (r.map nI)),.own (x.map nI),.v (nI c),s7]:=rfl
  rw[this];dsimp only;rw[AQ bg p q n r x c s7 or.len ox.len (by omega)]
  exact e
theorem cE {α:Type}{g:FG}{f:FE}{ρ0:aJ}{h o:α->D}: ∀(l:List α),(∀i∈l,∃ρ1,g (h i) ρ0=some ρ1/\f ρ1=some (o i))->fA g cq f ρ0 (l.map h)=some (l.map o)
 | [],_=>rfl
 |a::l,H=>by
  obtain⟨ρ1,h1,h2⟩:=H a (by simp)
  have ih:=cE l λi hi=>H i (by simp[hi])
  rw[Lf];unfold fA;rw[h1,K6];simp only[cq,K6,if_true,h2,ih];rfl
theorem bV {m:Nat}{gi:FA}{g:FG}{p:FT}{f:FE}{ρ:aJ}{ds ys:List D}(h1:gi ρ=some ds)(h2:ds.length<=1000)(h3:fA g p f (ρ++K1 m .no) ds=some ys):aR m gi g p f ρ=some (.lst ys):=by
 rw[AG,h1,K6,gv h2,K6,h3];rfl
theorem DD: ∀n,2<=n->n<=6-> ∀b,1<=b->b<n->Ord n ((KW n).map λi=>(i+b) % n):=by
 intro n h1 h2 b h3 h4;refine⟨?_⟩
 have: ∀n:_root_.Fin 7,∀b:_root_.Fin 7,((KW n.val).map λi=>(i+b.val) % n.val).isPerm (KW n.val)=true\/ ¬(b.val<n.val):=by decide
 rcases this ⟨n,by omega⟩ ⟨b,by omega⟩ with h|h
 ·exact List.isPerm_iff.mp h
 ·exact absurd h4 h
abbrev aN(r:List Nat):D:=.tup (r.map nI)
abbrev aX(r x:List Nat):D:=.tup [aN r,aN x]
structure Sq(n:Nat)(r x:List Nat):Prop where
 hr:Ord n r
 hx:Ord n x
 ne: ∀i,i<n->x.getD i 0≠r.getD i 0
theorem cz {f:FA}{ρ:aJ}{n:Nat}(h:f ρ=some [nI n])(hn:n<=1000):bz f ρ=some ((KW n).map nI):=by
 rw[uH,h,K6,uN (by omega),CM];rfl
theorem JX {j:Int}(h:0<=j):D.int j=nI j.toNat:=by show D.int j=D.int (j.toNat:Int);rw[Int.toNat_of_nonneg h]
theorem IX {n:Nat}{P:List D->Option D}{ds:List D}(h:ds.length=n):nF n P ds=P ds:=if_pos h
theorem gc {g:FG}{f:GE}{ρ ρ1 ρ2:aJ}{d:D}(h1:f ρ=some (d,ρ1))(h2:g d ρ1=some ρ2):dc g f ρ=.nx ρ2:=by unfold dc;rw[h1];dsimp only;rw[h2];rfl
theorem bJ {n:Nat}{P:List D->Option D}{fs:FA}{ρ:aJ}{ds:List D}(h:fs ρ=some ds)(hl:ds.length=n):ak (nF n P) fs ρ=P ds:=(bU h).trans (IX hl)
theorem Ai {F:List D->Option D}{fs:GA}{ρ ρ1:aJ}{ds:List D}{d:D}(h:fs ρ=some (ds,ρ1))(h2:F ds=some d):pf F fs ρ=some (d,ρ1):=by unfold pf;rw[h];dsimp only[Nn];rw[h2];rfl
theorem cg {kd:Kd}{n:Nat}{t:FS}{ds:List D}{ρ:aJ}{d:D}(h:t (fO n ds)=.rt d ρ):gr kd n t ds=some d:=by unfold gr;rw[h]
theorem bc {f:FE}{ρ:aJ}{d:D}(h:f ρ=some d):aZ f ρ=.rt d ρ:=by unfold aZ;rw[h]
theorem xU: ∀bs:List Bool,mX (bs.map D.bl)=some bs
 | []=>rfl
 |b::r=>by show(mX (r.map D.bl)).map (b:: ·)=_;rw[xU r];rfl
theorem Do(bs:List Bool):uT [.lst (bs.map D.bl)]=some (.bl (bs.any id)):=by
 show(mX (bs.map D.bl)).map (λbs=>D.bl (bs.any id))=_
 rw[xU];rfl
theorem xG {p:FT}{t u:FS}{ρ:aJ}(h:p ρ=some false):fS p t u ρ=u ρ:=by unfold fS;rw[h]
theorem i0 {p:FT}{t u:FS}{ρ:aJ}(h:p ρ=some true):fS p t u ρ=t ρ:=by unfold fS;rw[h]
theorem wu {p q:FT}{ρ:aJ}{b:Bool}(h1:p ρ=some false)(h2:q ρ=some b):rj p q ρ=some b:=by unfold rj;rw[h1];exact h2
theorem IW {p q:FT}{ρ:aJ}(h1:p ρ=some true):rj p q ρ=some true:=by unfold rj;rw[h1];rfl
theorem xn {p q:FT}{ρ:aJ}{b:Bool}(h1:p ρ=some true)(h2:q ρ=some b):qt p q ρ=some b:=by unfold qt;rw[h1];exact h2
theorem Hj {p q:FT}{ρ:aJ}(h1:p ρ=some false):qt p q ρ=some false:=by unfold qt;rw[h1];rfl
theorem C4 {p q:FT}{ρ:aJ}{a b:Bool}(h1:p ρ=some a)(h2:a=true->q ρ=some b)(h3:a=false->b=false):qt p q ρ=some b:=by
 cases a with
 |true=>exact xn h1 (h2 rfl)
 |false=>rw[h3 rfl];exact Hj h1
theorem A1 {p:FT}{ρ:aJ}{b:Bool}(h:p ρ=some b):Fw p ρ=some (.bl b):=by unfold Fw;rw[h];rfl
theorem qh {f:GE}{ρ ρ1:aJ}{d:D}(h:f ρ=some (d,ρ1)):eX f ρ=.nx ρ1:=by unfold eX;rw[h]
theorem bN {f:FE}{ρ:aJ}{b:Bool}(h:f ρ=some (.bl b)):bL f ρ=some b:=by unfold bL;rw[h];rfl
theorem kR {f:FE}{ρ:aJ}{b:Bool}(h:f ρ=some (.bl b)):fZ f ρ=some b:=by unfold fZ;rw[h];rfl
theorem jB {p:FT}{ρ:aJ}{b:Bool}(h:p ρ=some b):fJ p ρ=some (!b):=by unfold fJ;rw[h];rfl
theorem yb {x:D}(h:fq x<=32):iD x x=some (.bl true):=by rw[jE h,nE]
theorem fG {g:FG}{b:FS}{d:D}{r:List D}{ρ ρ1 ρ2:aJ}(h1:g d ρ=some ρ1)(h2:b ρ1=.nx ρ2):fh g b (d::r) ρ=fh g b r ρ2:=by
 show(match g d ρ with
  |none=>Out.no
  |some ρ1=>match b ρ1 with
   | .nx ρ2=>fh g b r ρ2
   | .ct ρ2=>fh g b r ρ2
   | .bk ρ2=>.nx ρ2
   | .rt d ρ2=>.rt d ρ2
   | .no=>.no)=_
 rw[h1];dsimp only;rw[h2]
theorem ir {f:GA}{g:FG}{b:FS}{ρ ρ1:aJ}{ds:List D}(h:f ρ=some (ds,ρ1)):gW f g b ρ=fh g b ds ρ1:=by unfold gW;rw[h]
theorem C5 {f:FE}{ρ:aJ}{ds:List D}(h:f ρ=some (.lst ds)):oY f ρ=some ds:=by unfold oY;rw[h];rfl
theorem iQ {kd:Kd}{n:Nat}{t:FS}{ds:List D}{d:D}(h: ∃ρ,t (fO n ds)=.rt d ρ):gr kd n t ds=some d:=let⟨_,h⟩:=h;cg h
theorem FV {t u:FS}{ρ:aJ}{d:D}(P:aJ->Prop)(h: ∃ρ',t ρ=.nx ρ'/\P ρ')(hu: ∀ρ',P ρ'-> ∃ρ'',u ρ'=.rt d ρ''): ∃ρ'',aD t u ρ=.rt d ρ'':=by
 obtain⟨ρ',h1,h2⟩:=h
 obtain⟨ρ'',h3⟩:=hu ρ' h2
 exact⟨ρ'',(aC h1).trans h3⟩
theorem C9 {f:GA}{g:FG}{b:FS}{ρ ρ1:aJ}{ds:List D}{P:aJ->Prop}(h:f ρ=some (ds,ρ1))(hl: ∃ρ',fh g b ds ρ1=.nx ρ'/\P ρ'): ∃ρ',gW f g b ρ=.nx ρ'/\P ρ':=by
 obtain⟨ρ',h1,h2⟩:=hl
 exact⟨ρ',(ir h).trans h1,h2⟩
theorem yp {g:FG}{b:FS}{P:aJ->Prop}: ∀(l:List D),(∀d∈l,∀ρ,P ρ-> ∃ρ1 ρ2,g d ρ=some ρ1/\b ρ1=.nx ρ2/\P ρ2)-> ∀ρ,P ρ-> ∃ρ',fh g b l ρ=.nx ρ'/\P ρ'
 | [],_,ρ,p=>⟨ρ,rfl,p⟩
 |d::l,h,ρ,p=>by
  obtain⟨ρ1,ρ2,h1,h2,p2⟩:=h d (by simp) ρ p
  obtain⟨ρ',e,p'⟩:=yp l (λd' hd=>h d' (by simp[hd])) ρ2 p2
  exact⟨ρ',(fG h1 h2).trans e,p'⟩
theorem Fr(i:Int){n:Nat}(h:0<n):(i % (n:Int)).toNat<n/\(((i % (n:Int)).toNat:Nat):Int)=i % n:=by
 have:=dh (i:=i) (m:=n) (by omega)
 omega
theorem uf {i:Nat}{fs:GA}{ρ ρ1:aJ}{b0 bs:List D}{d:D}(h0:kN i ρ=some b0)(h1:fs ρ=some ([d],ρ1))(h2:kN i ρ1=some bs)(h3:bs.length<=900):eX (bn i 1 la fs) ρ=.nx (j9 i (bs++[d]) ρ1):=
 qh (cN h0 h1 h2 rfl (by rw[yF,sh (by omega)]))
theorem gu {α:Type}{g:FG}{p:FT}{f:FE}{ρ0:aJ}{h o:α->D}{q:α->Bool}: ∀(l:List α),(∀i∈l,∃ρ1,g (h i) ρ0=some ρ1/\p ρ1=some (q i)/\(q i=true->f ρ1=some (o i)))->fA g p f ρ0 (l.map h)=some ((l.filter q).map o)
 | [],_=>rfl
 |a::l,H=>by
  obtain⟨ρ1,h1,h2,h3⟩:=H a (by simp)
  have ih:=gu l λi hi=>H i (by simp[hi])
  rw[Lf];unfold fA;rw[h1,K6,h2,K6];cases e:q a with
  |true=>rw[if_pos rfl,h3 e,K6,ih];simp[e]
  |false=>rw[if_neg (by simp),ih];simp[e]
theorem jU {α:Type}{g:FG}{p:FT}{A:FA}{ρ0:aJ}{h:α->D}{q:α->Bool}{o:α->List D}: ∀(l:List α),(∀i∈l,∃ρ1,g (h i) ρ0=some ρ1/\p ρ1=some (q i)/\(q i=true->A ρ1=some (o i)))->lX g p A ρ0 (l.map h)=some ((l.filter q).flatMap o)
 | [],_=>rfl
 |a::l,H=>by
  obtain⟨ρ1,h1,h2,h3⟩:=H a (by simp)
  have ih:=jU l λi hi=>H i (by simp[hi])
  rw[Lf];unfold lX;rw[h1,K6,h2,K6];cases e:q a with
  |true=>rw[if_pos rfl,h3 e,K6,ih];simp[e]
  |false=>rw[if_neg (by simp),ih];simp[e]
theorem yr {f:FE}{ρ:aJ}{d:D}(h:f ρ=some d):uY f ρ=some [d]:=by unfold uY;rw[h];rfl
theorem x6 {m:Nat}{gi1 gi2:FA}{g1 g2:FG}{p1 p2:FT}{f:FE}{ρ:aJ}{ds ys:List D}(h1:gi1 ρ=some ds)(h2:lX g1 p1 (CY gi2 g2 p2 f) (ρ++K1 m .no) ds=some ys)(h3:ys.length<=1000):xh m gi1 g1 p1 gi2 g2 p2 f ρ=some (.lst ys):=by
 unfold xh;rw[h1,K6,h2,K6,if_pos (NP (kq h3))]
theorem BD {gi:FA}{g:FG}{p:FT}{f:FE}{ρ:aJ}{ds ys:List D}(h1:gi ρ=some ds)(h2:lX g p (uY f) ρ ds=some ys):CY gi g p f ρ=some ys:=by
 unfold CY;rw[h1,K6,h2]
theorem uF(r:List Nat)(ρ:aJ)(f:FE)(h:f ρ=some (.lst (r.map nI))):ak bu (ae f aj) ρ=some (nI r.length):=by
 rw[bU (ao h rfl)];show some (D.int ((r.map nI).length:Int))=_;rw[K5]
theorem eL(r:List Nat)(ρ:aJ)(f:FE)(h:f ρ=some (aN r)):ak bu (ae f aj) ρ=some (nI r.length):=by
 rw[bU (ao h rfl)];show some (D.int ((r.map nI).length:Int))=_;rw[K5]
theorem J8(a b:Nat):km (nI a) (nI b)=some (.int ((a:Int) -b)):=lT _ _
theorem Fi(L:List Nat)(c:Nat):(L.map nI).any (λd=>eN d (nI c))=decide (c∈L):=by
 induction L with
 |nil=>simp
 |cons a L ih=>
  rw[Lf,Ml,ih,iJ,LI];simp only[NY,decide_eq_true_eq,Ll];exact or_congr_left eq_comm
theorem Ko(L:List Nat)(c:Nat):mC false (nI c) (.lst (L.map nI))=some (.bl (decide (c∈L))):=by
 unfold mC p9;dsimp only;rw[jX,if_pos (by omega),Fi]
 rfl
def gb:FS:=
 aD (fK 3 (ak yu (ae (ai 0) (aj))))
 (aD (dc (gT 2 (cA (ft 3 (ai 1)) (cA (ft 3 (ai 2)) (iC)))) (pu (bF (ae (av aW (ai 0) (ai 2)) (ae (av aW (ai 0) (ai 1)) (aj))))))
 (aZ (ak dC (ae (fI 3) (aj)))))
def ge:List D->Option D:=gr .s 4 gb
def JD(n s e x:Nat):Bool:=decide (((x:Int) -s) % n<((e:Int) -s) % n)
def lF(o:List Nat)(a b:Nat):List Nat:=(o.set a (o.getD b 0)).set b (o.getD a 0)
theorem xC {n:Nat}{o:List Nat}(ho:o.length=n){a b:Nat}(ha:a<n)(hb:b<n):ge [aN o,nI a,nI b]=some (aN (lF o a b)):=by
 apply cg (kd:=.s) (n:=4) (t:=gb)
 unfold gb;refine(aC (ρ':=[.v (aN o),.v (nI a),.v (nI b),.own (o.map nI)]) ((i9 (ds:=o.map nI) rfl).trans rfl)).trans ?_
 refine(aC (ρ':=[.v (aN o),.v (nI a),.v (nI b),.own ((lF o a b).map nI)]) (gc (gV (cD (ao ((az (x:=aN o) (y:=nI b) rfl rfl).trans (gI (by omega))) (ao ((az (x:=aN o) (y:=nI a) rfl rfl).trans (gI (by omega))) rfl)) (by simp))) ?_)).trans (bc rfl)
 simp only[gT,LM,OJ,cA];rw[nS (bs:=o.map nI) (j:=a) rfl rfl (by simp;omega)]
 simp only[K6];rw[nS (bs:=(o.map nI).set a (nI (o.getD b 0))) (j:=b) rfl rfl (by simp;omega)]
 simp only[K6,iC,uJ];rfl
theorem lI {α β:Type}(f:α->β): ∀l:List α,l.flatMap (λc=>[f c])=l.map f
 | []=>rfl
 |a::l=>by rw[NL,lI f l];rfl
theorem wj: ∀k:List Int,dB (k.map D.int)=0
 | []=>by simp[dB]
 |a::k=>by rw[Lf];unfold dB;rw[wj k];simp[fq]
theorem En(k:List Int):fq (tL k)=1:=by unfold tL fq;rw[wj]
theorem AS: ∀ks:List (List Int),dB (ks.map tL)<=1
 | []=>by simp[dB]
 |k::ks=>by
  rw[Lf];unfold dB;have:=AS ks
  rw[En];omega
theorem BQ: ∀k l:List Int,eW (k.map D.int) (l.map D.int)=decide (k=l)
 | [],[]=>by simp[eW]
 | [],_::_=>by simp[eW]
 |_::_,[]=>by simp[eW]
 |a::k,b::l=>by
  rw[Lf,Lf];unfold eW;rw[BQ k l,kP,LI];simp
theorem yP(k l:List Int):eN (tL k) (tL l)=decide (k=l):=by
 unfold tL eN;exact BQ k l
theorem Ord.get {n:Nat}{o:List Nat}(O:Ord n o){i:Nat}(h:i<n):o.getD i 0<n:=by
 have ho:=O.len
 have:o.getD i 0=o[i]'(by omega):=by simp[MB,ho,h]
 rw[this];exact O.lt (Nw _)
theorem Ord.inj {n:Nat}{o:List Nat}(O:Ord n o){i j:Nat}(hi:i<n)(hj:j<n)(e:o.getD i 0=o.getD j 0):i=j:=tB O.nd (by rw[O.len];exact hi) (by rw[O.len];exact hj) e
theorem nY {m:Nat}: ∀ {l:List D},(∀d∈l,fq d<=m)->dB l<=m
 | [],_=>by simp[dB]
 |d::l,h=>by
  unfold dB;have h1:=h d (by simp)
  have h2:=nY (l:=l) λx hx=>h x (by simp[hx])
  omega
theorem vy {α:Type}{g:FG}{b:FS}{h:α->D}{ok:α->Bool}{d:D}{P:aJ->Prop}: ∀(l:List α),(∀x∈l,∀ρ,P ρ-> ∃ρ1,g (h x) ρ=some ρ1/\(ok x=true-> ∃ρ2,b ρ1=.nx ρ2/\P ρ2)/\(ok x=false-> ∃ρ2,b ρ1=.rt d ρ2))->
 ∀ρ,P ρ->(l.all ok=true-> ∃ρ',fh g b (l.map h) ρ=.nx ρ'/\P ρ')/\(l.all ok=false-> ∃ρ',fh g b (l.map h) ρ=.rt d ρ')
 | [],_,ρ,p=>⟨λ_=>⟨ρ,rfl,p⟩,λz=>by simp at z⟩
 |x::l,H,ρ,p=>by
  obtain⟨ρ1,h1,h2,h3⟩:=H x (by simp) ρ p
  rw[Sz,Lf];cases e:ok x with
  |true=>
   obtain⟨ρ2,e2,p2⟩:=h2 e
   have ih:=vy l (λy hy=>H y (by simp[hy])) ρ2 p2
   rw[O7,fG h1 e2];exact ih
  |false=>
   obtain⟨ρ2,e2⟩:=h3 e
   refine⟨λz=>by simp at z,λ_=>⟨ρ2,?_⟩⟩
   show(match g (h x) ρ with
    |none=>Out.no
    |some ρ1=>match b ρ1 with
     | .nx ρ2=>fh g b (l.map h) ρ2
     | .ct ρ2=>fh g b (l.map h) ρ2
     | .bk ρ2=>.nx ρ2
     | .rt d ρ2=>.rt d ρ2
     | .no=>.no)=_
   rw[h1];dsimp only;rw[e2]
section
variable {X:Cx}{c:Ct}{k:Kd}{pos:Pos}
def Cs(i j:Nat)(fs:FA):FS:=λρ=>match fs ρ with
 |some [d1,d2]=>.nx ((ρ.set i (.v d1)).set j (.v d2))
 |_=>.no
theorem FZ(i j:Nat){x y:Str}{a b:Expr}{fs:FA}{px py pt:Pos}{kt k2 pt2}(hc:X.calm=true)(hN:X.N.Nodup)(ha:DA X c [a,b] fs)(hi:X.N[i]? =some x:=by rfl)(hj:X.N[j]? =some y:=by rfl)(hij:i≠j:=by decide)
 (hx:X.env.scope.names.lookup x=some .local:=by rfl) (hy:X.env.scope.names.lookup y=some .local:=by rfl)
 (hw:Oy [.Tuple [.Name x px,.Name y py] kt pt] (.Tuple [a,b] k2 pt2) X.env=pure (some [x,y]):=by rfl)
 (hs:Ox [.Tuple [.Name x px,.Name y py] kt pt] (.Tuple [a,b] k2 pt2) pos.line X.env=pure false:=by rfl):
 DS X c k (.Assign [.Tuple [.Name x px,.Name y py] kt pt] (.Tuple [a,b] k2 pt2) pos) (Cs i j fs):=λρ=>
 PS.imp (Hm hc hN hi hj hij hx hy (Il λhid=>ha hid ρ) hw hs) λD σ H hq_=>by
  obtain⟨hid,sr,q⟩:=hq_
  unfold Cs at q;cases e1:fs ρ with
  |none=>rw[e1] at q;exact q.elim
  |some ds=>
   rw[e1] at q
   match ds,e1,q with
   | [],_,q=>exact q.elim
   | [_],_,q=>exact q.elim
   |_::_::_::_,_,q=>exact q.elim
   | [d1,d2],e1,q=>
     refine⟨hid,sr,[d1,d2],e1,λvs H1 s1 r1=>?_⟩
     cases r1 with
     |cons r1 t=>
      cases t with
      |cons r2 t=>
       cases t
       exact⟨_,_,rfl,q _ H1 hid (((sr.ext s1).setV r1 i).setV r2 j) (aV s1)⟩
end
open PySem PySem.W PySem.Spec PyProof.Rows
theorem Reps.insertIdx {K:K7}{F:Hp}{x:V}{u:D}(r:Rep K F x u){xs:List V}{us:List D}(i:Nat)(h:Reps K F xs us):Reps K F (xs.take i++x::xs.drop i) (us.take i++u::us.drop i):=(h.take i).append (.cons r (h.drop i))
def yx:V->List V->Hp->VK->Prop:=λx vs H Q=> ∃l xs i y,x=.ref l/\vs=[.int i,y]/\H l=some (.lst xs)/\0<=i/\i<=xs.length/\xs.length<Lm/\Q .non (bI H l (.lst (xs.take i.toNat++y::xs.drop i.toNat)))
section
variable {X:Cx}
theorem sF:Jm X "list.insert" yx:=by
 intro af s σ H x vs v us Q I rx rv h;obtain⟨l,xs,i,y,rfl,rfl,hH,h1,h2,hz,q⟩:=h
 cases rx
 cases rv with
 |cons r0 r1=>cases r1 with
  |cons r1 r2=>
   cases r2
   obtain⟨t,rfl⟩:=r0
   rename_i w;obtain⟨z,its,n,r,hl,e⟩:=I.lstM hH
   have l63:=lZ
   have fit:R6 i=true:=by
    have:=RU (k:=i) (by omega) (by omega)
    simpa using this
   refine QD O8 ⟨_,e,rfl⟩ F.entry_list_insert (F.args_list_insert_3 _ _ _) (AutoSeq1.list_insert_list_int_val_1 l its.toArray n i t w (by rw[fit];simp) (by rw[Lr];omega)) ⟨e,?_⟩
   refine⟨.non,_,I.lset (its':=its.take i.toNat++w::its.drop i.toNat) hH e ?_ ((r.take _).append (.cons r1 (r.drop _))) ?_,rfl,q⟩
   ·show(its.toArray.extract 0 (if i<0 then(i+(its.toArray.size:Int)).toNat else min i.toNat its.toArray.size)).push w++its.toArray.extract (if i<0 then(i+(its.toArray.size:Int)).toNat else min i.toNat its.toArray.size)=_
    rw[if_neg (by omega),Lr,show min i.toNat its.length=i.toNat by omega]
    apply Array.ext'
    have hh:its.length- (i.toNat)+i.toNat=its.length:=by omega
    simp[NC]
   ·rw[LJ,LM,Nt,Pd];omega
end
def vO:List D->List D->Option (D×List D):=λbs ds=>match ds with
 | [.int i,d]=>if 0<=i/\i<=bs.length/\bs.length<Lm then some (.non,bs.take i.toNat++d::bs.drop i.toNat) else none
 |_=>none
theorem si {K:K7}:ID K yx 2 vO:=by
 intro H hid a xs us bs ds bs' d Q h1 h2 h3 h4 h5 h6 q;unfold vO at h6;split at h6
 ·split at h6
  ·rename_i hc
   cases h6
   cases h4 with
   |cons r0 t0=>cases t0 with
    |cons r1 t1=>
     cases t1
     cases r0
     exact⟨a,xs,_,_,rfl,rfl,h1,hc.1,by rw[h3.length];exact hc.2.1,by rw[h3.length];exact hc.2.2,q _ _ (h3.insertIdx r1 _) .non⟩
  ·cases h6
 ·cases h6
section
variable {X:Cx}{c:Ct}{a b e:Expr}{f g:FE}{pos p p2 p3:Pos}{k:Kd}
def FF(K:K7):R2:=λx y H Q=> ∃l b xs zs,x=.ref l/\y=.ref b/\SqL K H l xs/\SqL K H b zs/\xs.length+zs.length<=Lm/\ ∀p,H p=none->Q (.ref p) (bI H p (.lst (xs++zs)))
theorem Dc:md X (N9 .Add) (FF X.K):=by
 intro af s σ H x y v u Q I rx ry h;obtain⟨l,b,xs,zs,rfl,rfl,hL,hB,hz,q⟩:=h
 cases rx
 cases ry
 obtain⟨its,r,⟨o,n,e,c1,d1,t1⟩,z1⟩:=I.list hL
 obtain⟨its2,r2,⟨o2,n2,e2,c2,d2,t2⟩,z2⟩:=I.list hB
 obtain⟨oc,od,ot,sl⟩:=o
 obtain⟨oc2,od2,ot2,sl2⟩:=o2
 dsimp only at c1 d1 t1 c2 d2 t2;subst c1 d1 t1 c2 d2 t2;have hl:=r.length
 have hl2:=r2.length
 refine concat_meets ⟨_,e,rfl⟩ ⟨_,e2,rfl⟩ noFill_list_add seq_list_add PySem.F.slot_list_add PySem.F.entry_list_add (PySem.F.args_list_add_2 _ _) (list_addW l b its.toArray its2.toArray n n2 none none sl sl2 (by rw[Lr,Lr];omega)) ⟨e,e2,?_⟩
 have ea:its.toArray++its2.toArray=(its++its2).toArray:=by simp
 rw[ea];exact⟨.ref _,_,I.lnew (t':=s.toks) (r.append r2) (by rw[LJ];omega),rfl,q _ I.fresh⟩
def jw:D->D->Option D
 | .lst xs,.lst ys=>if xs.length+ys.length<=Lm then some (.lst (xs++ys)) else none
 |_,_=>none
theorem EQ {K:K7}:pg K .n (FF K) jw:=by
 intro H hid v u x y d Q hf h r1 r2 q;unfold jw at h;split at h
 ·split at h
  ·rename_i hz
   cases h
   obtain⟨a,xs,rfl,h1,h2⟩:=r1.lst
   obtain⟨b,ys,rfl,h3,h4⟩:=r2.lst
   exact⟨a,b,xs,ys,rfl,rfl,h1,h3,by rw[h2.length,h4.length];exact hz,λp hp=>q _ _ (bM hp _) (oE hp (Same.refl _) (h2.append h4))⟩
  ·cases h
 ·cases h
theorem nB {k1 k2:Kd}(ha:DP X c k1 a f)(hb:DP X c k2 b g):DP X c .n (.BinOp a .Add b pos) (av jw f g):=qy Dc EQ ha hb
end
abbrev z0:List Value:=[.type "ValueError",.type "Exception",.type "BaseException",.type "object"]
structure ExcC(K:K7)(C:Addr):Prop where
 ga:NN K (.ref C) "__getattribute__"=some (some (.builtin "BaseException.__getattribute__"))
 gt:NN K (.ref C) "__getattr__"=some none
 cl:NN K (.ref C) "__class__"=some (some (.builtin "object.__class__"))
 sp:Va K (.builtin "object.__class__") "__get__"=some (some (.builtin "getset_descriptor.__get__"))
 tk:W.takesIn K (.builtin "object.__class__")=some true
 mo:OA K C (.type "object")=some true
 mb:OA K C (.type "BaseException")=some true
section
variable {K:K7}{C:Addr}{prog:LB}{w:L1}{A:LC}{E:KU->KZ->Prop}{s:KZ}{a:Addr}{o:Obj}
theorem ExcC.cls(X:ExcC K C): ∃cd,Q1 K C=some cd:=by
 obtain⟨cd,h,_⟩:=Lo.mp X.mo
 exact⟨cd,h⟩
end
def Trc(h B:Heap)(e:Addr)(o0:Obj):Prop:=
 ∃vs T oT ts,h.get? e=some {o0 with data:=.fields vs}/\vs[1]? =some (.ref T)/\B.get? T=none/\T≠e/\h.get? T=some oT/\oT.data=.fields ts/\ts[3]? =some .none
def KM(h:Heap)(e:Addr)(o0:Obj):Prop:= ∃vs,h.get? e=some {o0 with data:=.fields vs}/\vs[1]? =some .none
structure InFl(B:Heap)(l:List Env)(e:Addr)(o0:Obj)(h:Heap):Prop where
 st:B.StaysIn h
 ne:B.get? e=none
 ff:h.FunFrames B l
 tr:Trc h B e o0\/KM h e o0
section
variable {M:Ro}{A:LC}{E:KU->KZ->Prop}{s:KZ}{B:Heap}{env:Env}{outer:List Env}{L e:Addr}{o0:Obj}
theorem uO {vs:Array KU}{head:KU}{hn:Bool}{Q:Unit->KZ->Prop}(hfr:A.frames=some (env::outer))(hl:s.heap.FunFrames B (env::outer))(hf:env.frame=some L)
 (he:s.heap.get? e=some {o0 with data:=.fields vs}) (hsz:1<vs.size) (hB:B.StaysIn s.heap) (ne:B.get? e=none)
 (h: ∀h',InFl B (env::outer) e o0 h'->Trc h' B e o0->s.heap.UpToSlots h'->Q () {s with heap:=h'}):
 Lq M A (do let a <-frameOf env;let pl <-entryPlaceOf L hn;let b <-Qm head a .none (NR L) .none pl;U7 (.ref e) 1 b) (λ_ s'=>Lq M A (Pj (.ref e) none) Q E s') E s:=by
 have hne:e∉kj (env::outer):=λhm=>by
  obtain⟨_,o,ho,nf⟩:=hl.mem hm
  rw[he] at ho;cases ho;exact nf vs rfl
 refine KY (wpAny_frameOf_fun hfr hl hf λh1 k1=>KY (wpAny_entryPlaceOf λpl hp=>?_))
 unfold Qm newFields;refine KY (ML ?_ (hp.sizeOk5 _ _ _ _ _))
 have e1:h1.get? e=some {o0 with data:=.fields vs}:=(k1.2.1 e hne).trans he
 generalize hten:([head,.ref L,.none,NR L,.none]++(if pl.isEmpty then K1 6 Mq else pl)).toArray=ten
 have tsz:3<ten.size:=by rw[<-hten];simp only[Lr,LJ,LM,OJ];omega
 generalize hT:h1.objs.size=T
 have Tn:h1.get? T=none:=by rw[<-hT];exact PU (Ld _)
 have Te:T≠e:=λq=>by rw[q,e1] at Tn;cases Tn
 have e2:(h1.push {cls:=.type "traceback",dict:=none,data:=.fields ten}).get? e=some {o0 with data:=.fields vs}:=K3 _ e1
 have t2:(h1.push {cls:=.type "traceback",dict:=none,data:=.fields ten}).get? T=some {cls:=.type "traceback",dict:=none,data:=.fields ten}:=by rw[<-hT];exact Lj h1 rfl
 refine NM e2 rfl hsz ?_
 have e3:=My (Nb (·.setIfInBounds 1 (Mf T))) e2 (MR rfl)
 have t3:=(LR (h1.push {cls:=.type "traceback",dict:=none,data:=.fields ten}) (Nb (·.setIfInBounds 1 (Mf T))) (Lw Te)).trans t2
 unfold Pj;refine KY (Mx e3 rfl (x:=.ref T) (by simp[hsz]) ?_)
 rw[if_pos (by simp:(Mf T !=Mq)=true)]
 refine NM t3 rfl tsz ?_
 have kp: ∀b o,b≠e->h1.get? b=some o->(((h1.push {cls:=.type "traceback",dict:=none,data:=.fields ten}).update e (Nb (·.setIfInBounds 1 (Mf T)))).update T
  (Nb (·.setIfInBounds 3 ((none:Option Addr).elim Mq λf=>NR f)))).get? b=some o:=λb o nb hb=>by
  rw[LR _ _ (λq=>by rw[<-q,Tn] at hb;cases hb),LR _ _ (Lw nb)]
  exact K3 _ hb
 have nr: ∀b o,s.heap.get? b=some o->(∀vs,o.data≠ .fields vs)->b≠e:=λb o hb nf q=>by
  rw[q,he] at hb;cases hb;exact nf vs rfl
 have B1:B.StaysIn h1:=λb o hb=>(k1.2.1 b λhm=>by rw[(hl.mem hm).1] at hb;cases hb).trans (hB b o hb)
 have TB:B.get? T=none:=by
  cases q:B.get? T with
  |none=>rfl
  |some o=>rw[B1 T o q] at Tn;cases Tn
 have tr:Trc (((h1.push {cls:=.type "traceback",dict:=none,data:=.fields ten}).update e (Nb (·.setIfInBounds 1 (Mf T)))).update T
  (Nb (·.setIfInBounds 3 ((none:Option Addr).elim Mq λf=>NR f)))) B e o0:=
  ⟨_,T,_,_,(LR _ _ Te).trans e3,by simp[hsz],TB,Te,My _ t3 (MR rfl),rfl,by simp[tsz]⟩
 refine h _ ⟨λb o hb=>kp b o (λq=>by rw[q,ne] at hb;cases hb) (B1 b o hb),ne,hl.of_keeps λb o hb nf=>?_,.inl tr⟩ tr λb o hb nf=>?_
 ·obtain⟨sl,q⟩:=k1.2.2 b o hb
  exact⟨_,kp b _ (nr b o hb nf) q,rfl⟩
 ·obtain⟨sl,q⟩:=k1.2.2 b o hb
  exact⟨sl,kp b _ (nr b o hb nf) q⟩
theorem xH {Q:Unit->KZ->Prop}(hfr:A.frames=some (env::outer))(hf:env.frame=some L)(x:InFl B (env::outer) e o0 s.heap)
 (h: ∀h',InFl B (env::outer) e o0 h'->Trc h' B e o0->s.heap.UpToSlots h'->Q () {s with heap:=h'}):
 Lq M A (NQ (.ref e) env) (λ_ s'=>Lq M A (Pj (.ref e) none) Q E s') E s:=by
 obtain⟨st,ne,ff,tr⟩:=x
 unfold NQ;simp only[hf];rcases tr with⟨vs,T,oT,ts,he,h1,TB,Te,hT,hd,h3⟩|⟨vs,he,h1⟩
 ·refine KY (Mx he rfl h1 ?_)
  rw[if_pos (by simp:(Mf T !=Mq)=true)]
  refine KY (Mx hT hd h3 ?_)
  rw[if_neg (by simp[NR]: ¬((Mq==NR L)=true))]
  refine KY (NM hT hd (Nh.mp h3).1 ?_)
  have ot: ∀b,b≠T->(s.heap.update T (Nb (·.setIfInBounds 3 Mq))).get? b=s.heap.get? b:=λb nb=>LR _ _ (Lw nb)
  have nr: ∀b o,s.heap.get? b=some o->(∀vs,o.data≠ .fields vs)->b≠T:=λb o hb nf q=>by
   rw[q,hT] at hb;cases hb;exact nf ts hd
  exact uO hfr (ff.of_keeps λb o hb nf=>⟨o,(ot b (nr b o hb nf)).trans hb,rfl⟩) hf ((ot e (Lw Te)).trans he) (Nh.mp h1).1
   (λb o hb=>(ot b λq=>by rw[q,TB] at hb;cases hb).trans (st b o hb)) ne λh' x1 x2 x3=>h h' x1 x2 λb o hb nf=>x3 b o ((ot b (nr b o hb nf)).trans hb) nf
 ·refine KY (Mx he rfl h1 ?_)
  rw[if_neg (by decide)]
  exact uO hfr ff hf he (Nh.mp h1).1 st ne h
theorem Bf {Q:Unit->KZ->Prop}(hfr:A.frames=some (env::outer))(hf:env.frame=some L)(x:InFl B (env::outer) e o0 s.heap)
 (h: ∀h',InFl B outer e o0 h'->s.heap.UpToSlots h'->Q () {s with heap:=h'}):Lq M A (Th env (.ref e)) Q E s:=by
 unfold Th;exact KY (xH hfr hf x λh' x1 _ x3=>h h' ⟨x1.st,x1.ne,x1.ff.2.2,x1.tr⟩ x3)
theorem EM {Q:Unit->KZ->Prop}{l:List Env}(x:InFl B l e o0 s.heap)(t:Trc s.heap B e o0)
 (h: ∀h',InFl B l e o0 h'->Trc h' B e o0->s.heap.UpToSlots h'->Q () {s with heap:=h'}):Lq M A (Pj (.ref e) none) Q E s:=by
 obtain⟨vs,T,oT,ts,he,h1,TB,Te,hT,hd,h3⟩:=t
 have sz:=(Nh.mp h3).1
 unfold Pj;refine KY (Mx he rfl h1 ?_)
 rw[if_pos (by simp:(Mf T !=Mq)=true)]
 refine NM hT hd sz ?_
 have ot: ∀b,b≠T->(s.heap.update T (Nb (·.setIfInBounds 3 ((none:Option Addr).elim Mq λf=>NR f)))).get? b=s.heap.get? b:=λb nb=>LR _ _ (Lw nb)
 have nr: ∀b o,s.heap.get? b=some o->(∀vs,o.data≠ .fields vs)->b≠T:=λb o hb nf q=>by
  rw[q,hT] at hb;cases hb;exact nf ts hd
 have tr:Trc (s.heap.update T (Nb (·.setIfInBounds 3 ((none:Option Addr).elim Mq λf=>NR f)))) B e o0:=
  ⟨vs,T,_,_,(ot e (Lw Te)).trans he,h1,TB,Te,My _ hT (MR (N5 hd _)),N5 hd _,by simp[sz]⟩
 exact h _ ⟨λb o hb=>(ot b λq=>by rw[q,TB] at hb;cases hb).trans (x.st b o hb),x.ne,x.ff.of_keeps λb o hb nf=>⟨o,(ot b (nr b o hb nf)).trans hb,rfl⟩,.inl tr⟩ tr λb o hb nf=>⟨o.slots,(ot b (nr b o hb nf)).trans hb⟩
end
theorem yD {h base g:Heap}{F:List Addr}: ∀ {l:List Env},h.FunFrames base l->(∀b∈kj l,b∈F)->h.FunFrames (Oo g F) l
 | [],_,_=>trivial
 |env::r,⟨hk,⟨L,o,hf,hn,ho,hd⟩,hr⟩,hF=>by
  refine⟨hk,⟨L,o,hf,RH F (hF L ?_),ho,hd⟩,yD hr λb hb=>hF b ?_⟩
  ·unfold kj;rw[MM,hf];exact Lu
  ·unfold kj;rw[MM,hf];exact Lb _ hb
def Away(X:Cx)(af:List (Addr×Obj))(H:Hp)(F:List Addr):Prop:=(∀b∈kj X.stack,b∈F)/\
 ∀b∈F,b∉kj X.stack->X.s₀.heap.objs.size<=b/\H b=none/\b≠X.env.locals/\(∀x c,X.env.cells.lookup x=some c->c≠b)/\ ∀p∈X.pn++af,p.1≠b
section
variable {X:Cx}{af:List (Addr×Obj)}{σ:St}{H:Hp}{s:KZ}{F:List Addr}{h':Heap}
theorem Away.free(w:Away X af H F)(I:Inv X af σ H s){b:Addr}(hb:b∈F):H b=none:=by
 by_cases q:b∈kj X.stack
 ·exact I.stkFree b q
 ·exact(w.2 b hb q).2.1
theorem Inv.flown(I:Inv X af σ H s)(w:Away X af H F)(st:(Oo s.heap F).StaysIn h')(up:s.heap.UpToSlots h'):Inv X af σ H {s with heap:=h'}:=by
 have kp: ∀b o,s.heap.get? b=some o->b∉F->h'.get? b=some o:=λb o e n=>st b o (Qo _ e n)
 have fr: ∀b∈kj X.stack,∃o,s.heap.get? b=some o/\ ∀vs,o.data≠ .fields vs:=λb hb=>(I.stack.mem hb).2
 refine I.call' (s':={s with heap:=h'}) (ch:=F.filter λb=>decide (b∉kj X.stack)) rfl ⟨?_,?_,λ_ _ _ n _=>n,?_,λ_ _ q=>q,λ_ _ _ q=>q,λ_ ps q=>⟨#[],by rw[q];simp⟩⟩ ?_ I.bare ?_
 ·intro b o e n hb hc
  refine kp b o e λhF=>hc ?_
  rw[L8,decide_eq_true_eq];exact⟨hF,hb⟩
 ·intro b o e n hb hc
  obtain⟨o',e',nf⟩:=fr b hb
  rw[e] at e';cases e';exact up b o e nf
 ·intro b o e hc
  by_cases hF:b∈F
  ·by_cases hs:b∈kj X.stack
   ·obtain⟨o',e',nf⟩:=fr b hs
    obtain⟨sl,q⟩:=up b o' e' nf
    exact⟨_,q⟩
   ·exact absurd (by rw[L8,decide_eq_true_eq];exact⟨hF,hs⟩) hc
  ·exact⟨o,kp b o e hF⟩
 ·intro a o e
  refine(I.hok a o e).stay (λb u hb q=>kp b u q λhF=>?_) (λ_ q=>q) λ_ _ q=>q
  have:=w.free I hF
  rcases hb with rfl|hb
  ·rw[e] at this;cases this
  ·rw[hb] at this;cases this
 ·intro b hb
  rw[L8,decide_eq_true_eq] at hb;obtain⟨q1,q2,q3,q4,q5⟩:=w.2 b hb.1 hb.2
  exact⟨.inr q1,q3,q4,q5⟩
end
def XS(X:Cx)(af:List (Addr×Obj))(σ:St)(H:Hp)(o0:Obj)(ea:Addr)(s':KZ):Prop:=
 ∃(g:Heap) (F:List Addr),Inv X af σ H {s' with heap:=g}/\Away X af H F/\InFl (Oo g F) X.stack ea o0 s'.heap/\g.UpToSlots s'.heap/\g.get? ea=none
theorem XS.inv {X:Cx}{af:List (Addr×Obj)}{σ:St}{H:Hp}{o0:Obj}{ea:Addr}{s':KZ}(x:XS X af σ H o0 ea s'):Inv X af σ H s':=by
 obtain⟨g,F,I,w,fl,up,_⟩:=x
 exact I.flown (s:={s' with heap:=g}) w fl.st up
def JG(P:LB)(w:L1)(G:Addr->Obj->Prop):xK:=λouter H s E e s'=>
 ∃(ea:Addr) (o0:Obj) (C:Addr) (g:Heap) (F:List Addr) (H':Hp),e=.ref ea/\o0.cls=.ref C/\G C o0/\s'.os=s.os/\NI s'.gens/\Un (kj outer) [] H H' s.heap g/\HOk P w H' g/\
  InFl (Oo g F) outer ea o0 s'.heap/\g.UpToSlots s'.heap/\(∀b∈kj outer,b∈F)/\(∀b∈F,H' b=none/\(b∉kj outer->s.heap.objs.size<=b))/\g.get? ea=none/\E (.ref C) none H'
theorem EI {X:Cx}{af:List (Addr×Obj)}{σ:St}{H:Hp}{s s':KZ}{G:Addr->Obj->Prop}{E:XK}{e:KU}(I:Inv X af σ H s)(h:JG X.prog X.w G X.stack H s E e s'):
 ∃ea o0 C H',e=.ref ea/\o0.cls=.ref C/\G C o0/\XS X af σ H' o0 ea s'/\E (.ref C) none H':=by
 obtain⟨ea,o0,C,g,F,H',rfl,hc,hG,os,bare,un,hok,fl,up,hF,aw,gn,hE⟩:=h
 have J:Inv X af σ H' {s' with heap:=g}:=I.call' (s':={s' with heap:=g}) (ch:=[]) os un hok bare λb z=>absurd z (by simp)
 refine⟨ea,o0,C,H',rfl,hc,hG,⟨g,F,J,⟨hF,λb hb nb=>?_⟩,fl,up,gn⟩,hE⟩
 have sz:=(aw b hb).2 nb
 have lt: ∀ {c o},s.heap.get? c=some o->c≠b:=λ{c o} q z=>by subst z;exact absurd (Lh q) (M3.mpr sz)
 refine⟨LW I.sz sz,(aw b hb).1,λz=>?_,λx c q=>?_,λp hp=>?_⟩
 ·have:=I.lt
  rw[<-z] at this;exact absurd this (M3.mpr sz)
 ·obtain⟨v,o,ho,_⟩:=I.cell x c q
  exact lt ho
 ·exact lt (I.pin p hp).1
theorem AL {CX:xK}{P:LB}{w:L1}{K:K7}{mg:Str->Option KU}{base:Heap}{N:List Str}{qual:Str}{scope:MI}{f:Addr}{cd:KU}{A:LC}{outer:List Env}{s:KZ}{H:Hp}{E:XK}{G:Addr->Obj->Prop}
 {af:List (Addr×Obj)} {σ:St} {H':Hp} {o0:Obj} {ea C:Addr} {s':KZ} (x:XS (o9 CX P w K mg base N qual scope f cd A outer s H E) af σ H' o0 ea s') (hc:o0.cls=.ref C) (hG:G C o0) (hE:E (.ref C) none H') {Q:Unit->KZ->Prop} {E':KU->KZ->Prop}
 (q: ∀s'',JG P w G outer H s E (.ref ea) s''->Q () s''):Lq (model P w) (A.deeper (NF qual scope s.heap.objs.size f cd)) (Th (NF qual scope s.heap.objs.size f cd) (.ref ea)) Q E' s':=by
 obtain⟨g,F,I,aw,fl,up,gn⟩:=x
 refine Bf (L:=s.heap.objs.size) I.ok.frames rfl fl λh' fl' up'=>q _ ?_
 have L:(o9 CX P w K mg base N qual scope f cd A outer s H E).stack=NF qual scope s.heap.objs.size f cd::outer:=rfl
 have sub: ∀b∈kj outer,b∈kj (NF qual scope s.heap.objs.size f cd::outer):=λb hb=>by
  unfold kj;rw[MM];exact Lb _ hb
 refine⟨ea,o0,C,g,F,H',rfl,hc,hG,I.os,I.bare,I.base,I.hok,fl',up.trans up',λb hb=>aw.1 b (sub b hb),λb hb=>⟨aw.free I hb,λnb=>?_⟩,gn,hE⟩
 by_cases z:b∈kj (NF qual scope s.heap.objs.size f cd::outer)
 ·have:b=s.heap.objs.size\/b∈kj outer:=by
   unfold kj at z;rw[MM] at z;exact Ll.mp z
  rcases this with rfl|q
  ·exact Ld _
  ·exact absurd q nb
 ·exact(aw.2 b hb z).1
structure Ex where
 x:Str
 n:Int
abbrev x8(K:K7)(z:Ex)(C:Addr):Prop:=LN K K8 z.x=some (some (.ref C))
def G0:Addr->Obj->Prop:=λ_ o0=>o0.dict=none
abbrev Jg(P:LB)(w:L1):xK:=JG P w G0
def EX(X:Cx)(σ:St):XK:=λv _ H'=> ∀af ea o0 s',o0.cls=v->o0.dict=none->XS X af σ H' o0 ea s'->X.xe (.ref ea) s'
abbrev RE:=aJ->Option (Except Ex D)
abbrev RA:=aJ->Option (Except Ex (List D))
def KA(X:Cx)(c:Ct)(hid:cj)(k:Kd)(f:RE)(ρ:aJ):TE:=λσ H Q=>SR X.K c hid ρ σ H/\ ∃r,f ρ=some r/\match r with
 | .ok d=> ∀v H',Same H H'->RK X.K k H H' hid v d->Q v H'
 | .error z=> ∀C H',Same H H'->x8 X.K z C->EX X σ (.ref C) none H'
def DR(X:Cx)(c:Ct)(k:Kd)(e:Expr)(f:RE):Prop:= ∀hid ρ,PE X e (KA X c hid k f ρ)
def Kb(X:Cx)(c:Ct)(hid:cj)(f:RA)(ρ:aJ):TA:=λσ H Q=>SR X.K c hid ρ σ H/\ ∃r,f ρ=some r/\match r with
 | .ok ds=> ∀vs H',Same H H'->Reps X.K (vw H' hid) vs ds->Q vs H'
 | .error z=> ∀C H',Same H H'->x8 X.K z C->EX X σ (.ref C) none H'
def Ja(X:Cx)(c:Ct)(es:List Expr)(f:RA):Prop:= ∀hid ρ,PA X es (Kb X c hid f ρ)
section
variable {X:Cx}{c:Ct}{e a b:Expr}{es rest:List Expr}{k:Kd}{pos p:Pos}{x:Str}{f:Addr}{fd:M5}{ps:List Str}{j n:Nat}
def iU(f:FA):RA:=λρ=>(f ρ).map .ok
theorem DA.rr {f:FA}(h:DA X c es f):Ja X c es (iU f):=λhid ρ=>PA.imp (h hid ρ) λσ H Q hq_=>by
 obtain⟨sr,r,hr,q⟩:=hq_
 unfold iU at hr;cases e1:f ρ with
 |none=>rw[e1] at hr;cases hr
 |some d=>rw[e1] at hr;cases hr;exact⟨sr,d,e1,q⟩
def pi(f:RE)(fs:RA):RA:=λρ=>(f ρ).bind λr=>match r with
 | .error z=>some (.error z)
 | .ok d=>(fs ρ).map λq=>match q with
   | .error z=>.error z
   | .ok ds=>.ok (d::ds)
theorem AB {f:RE}{fs:RA}(ha:DR X c .s e f)(hr:Ja X c es fs)(hs:Le (e::es) X.env=(false,eval e X.env)::Le es X.env:=by rfl):Ja X c (e::es) (pi f fs):=λhid ρ=>
 PA.imp (il (ha hid ρ) (hr hid ρ) hs) λσ H Q hq_=>by
  obtain⟨sr,r,h,q⟩:=hq_
  unfold pi at h;cases e1:f ρ with
  |none=>rw[e1] at h;cases h
  |some r1=>
   rw[e1] at h;refine⟨sr,r1,e1,?_⟩
   cases r1 with
   |error z=>cases h;exact q
   |ok d=>
    have h:(fs ρ).map (λq=>match q with
     | .error z=>Except.error z
     | .ok ds=>.ok (d::ds))=some r:=h
    intro v H1 s1 r1;cases e2:fs ρ with
    |none=>rw[e2] at h;cases h
    |some r2=>
     rw[e2] at h;refine⟨sr.ext s1,r2,e2,?_⟩
     cases r2 with
     |error z=>cases h;exact λC H' s2=>q C H' (s1.trans s2)
     |ok ds=>cases h;exact λvs H2 s2 r2=>q _ H2 (s1.trans s2) (.cons (r1.mono (aV s2)) r2)
def za(K:K7)(k:Kd)(n:Nat)(P:List D->Option (Except Ex D)):Sp:=λvs H Q E=> ∃hid ds,Hy hid H/\Reps K (vw H hid) vs ds/\ds.length=n/\ ∃r,P ds=some r/\match r with
 | .ok d=> ∀v H',Same H H'->RK K k H H' hid v d->Q v H'
 | .error z=> ∀C H',Same H H'->x8 K z C->E (.ref C) none H'
structure ClX(P:LB)(w:L1)(K:K7)(mg:Str->Option KU)(base:Heap)(k:Nat)(x:Str)(ps:List Str)(sp:Sp):Prop where
 ex: ∃f fd,FnOk P w K mg base (Jg P w) k f fd ps sp/\mg x=some (.ref f)/\Ly K (.ref f)=true/\Binds K fd ps []
theorem EU {sp:Sp}{af:List (Addr×Obj)}{σ:St}{H:Hp}{s:KZ}{Q:VK}{us:List KU}{vs:List V}(F:FnOk X.prog X.w X.K X.mg X.base (Jg X.prog X.w) j f fd ps sp)(hr:Room j X.A)(hb:Binds X.K fd ps [])
 (I:Inv X af σ H s) (r:Vals vs us) (h:sp vs H Q (EX X σ)):Lq (model X.prog X.w) X.A (call (.ref f) us) (EP X af σ Q) X.xe s:=by
 have hl:(us++[]).length=ps.length:=by rw[Me,<-r.length];exact F.len _ _ _ _ h
 have hb':=hb s us I.kIn hl
 rw[Me] at hb';refine wpAny_call (Oc (F.run X.A X.stack s H ⟨us,[]⟩ us vs Q (EX X σ) hr I.env0 hb' r h) λr s' hq=>?_)
 cases r with
 |error e=>
  obtain⟨ea,o0,C,H',rfl,hc,hG,xs,hE⟩:=EI I hq
  exact hE af ea o0 s' hc hG xs
 |ok fl=>
  cases fl with
  |ret u=>exact I.after hq
  |next=>exact False.elim hq
  |brk=>exact False.elim hq
  |cont=>exact False.elim hq
theorem BI {sp:Sp}{t:TA}(F:FnOk X.prog X.w X.K X.mg X.base (Jg X.prog X.w) j f fd ps sp)(hr:Room j X.A)(hg:Gl X x)(hm:X.mg x=some (.ref f))(hk:Ly X.K (.ref f)=true)(hb:Binds X.K fd ps [])
 (ha:PA X (e::es) t) (hdb:(x==("__debug__":Str))=false:=by decide) (he:Le (e::es) X.env=(false,eval e X.env)::Le es X.env:=by rfl) (hpl:(M2 pos (Le es X.env)).any (·.1)=false:=by rfl):
 PE X (.Call (.Name x p) (e::es) [] pos) (λσ H Q=>t σ H λvs H1=>sp vs H1 Q (EX X σ)):=by
 intro af s σ H Q I h;refine N2 (mz I hg hm ?_ hdb)
 refine Tg (h₀:=X.base) I.ok.mod.kin hk (cy (ha pos af s σ H _ I h) λus s1 ⟨vs,H1,I1,r,q⟩=>⟨I1.kIn,?_⟩) he hpl
 exact EU F hr hb I1 r q
def eg(n:Nat)(P:List D->Option (Except Ex D))(fs:RA):RE:=λρ=>(fs ρ).bind λq=>match q with
 | .error z=>some (.error z)
 | .ok ds=>if ds.length=n then P ds else none
theorem sN {P:List D->Option (Except Ex D)}{fs:RA}(F:ClX X.prog X.w X.K X.mg X.base j x ps (za X.K k n P))(hr:Room j X.A)(ha:Ja X c (e::es) fs)
 (hg:Gl X x:=by rfl) (hdb:(x==("__debug__":Str))=false:=by decide) (he:Le (e::es) X.env=(false,eval e X.env)::Le es X.env:=by rfl) (hpl:(M2 pos (Le es X.env)).any (·.1)=false:=by rfl):
 DR X c k (.Call (.Name x p) (e::es) [] pos) (eg n P fs):=λhid ρ=>by
 obtain⟨f,fd,F,hm,hk,hb⟩:=F.ex
 refine PE.imp (BI F hr hg hm hk hb (ha hid ρ) hdb he hpl) λσ H Q hq_=>?_
 obtain⟨sr,r,h,q⟩:=hq_
 unfold eg at h;cases e1:fs ρ with
 |none=>rw[e1] at h;cases h
 |some r1=>
  rw[e1] at h;refine⟨sr,r1,e1,?_⟩
  cases r1 with
  |error z=>cases h;exact q
  |ok ds=>
   have h:(if ds.length=n then P ds else none)=some r:=h
   split at h
   ·intro vs H1 s1 r1
    refine⟨hid,ds,(sr.ext s1).trk,r1, ‹_›,r,h,?_⟩
    cases r with
    |ok d=>exact λv H' s2 r2=>q v H' (s1.trans s2) (RK.left s1 r2)
    |error z=>exact λC H' s2=>q C H' (s1.trans s2)
   ·cases h
def s0(n:Nat)(P:List D->Option D)(fs:RA):RE:=eg n (λds=>(P ds).map .ok) fs
theorem FY {P:List D->Option D}{fs:RA}(C:Cl X.prog X.w X.K X.mg X.base j x ps (dS X.K k n P))(hr:Room j X.A)(ha:Ja X c (e::es) fs)
 (hg:Gl X x:=by rfl) (hdb:(x==("__debug__":Str))=false:=by decide) (he:Le (e::es) X.env=(false,eval e X.env)::Le es X.env:=by rfl) (hpl:(M2 pos (Le es X.env)).any (·.1)=false:=by rfl):
 DR X c k (.Call (.Name x p) (e::es) [] pos) (s0 n P fs):=λhid ρ=>by
 obtain⟨f,fd,F,hm,hk,hb⟩:=C.ex
 refine PE.imp (pW F hr hg hm hk hb .nil (xA (X:=X)) (ha hid ρ) hdb he hpl) λσ H Q hq_=>?_
 obtain⟨sr,r,h,q⟩:=hq_
 unfold s0 eg at h;cases e1:fs ρ with
 |none=>rw[e1] at h;cases h
 |some r1=>
  rw[e1] at h;refine⟨sr,r1,e1,?_⟩
  cases r1 with
  |error z=>cases h;exact q
  |ok ds=>
   have h:(if ds.length=n then(P ds).map Except.ok else none)=some r:=h
   split at h
   ·cases e2:P ds with
    |none=>rw[e2] at h;cases h
    |some d=>
     rw[e2] at h;cases h;intro vs H1 s1 r1;show dS X.K k n P (vs++[]) H1 Q E0;rw[Me];exact⟨hid,ds,(sr.ext s1).trk,r1, ‹_›,d,e2,λv H' s2 r2=>q v H' (s1.trans s2) (RK.left s1 r2)⟩
   ·cases h
end
abbrev OX:=Except (Ex×aJ) Out
abbrev FX:=aJ->OX
def EndX(X:Cx)(c:Ct)(k:Kd)(D:Ends)(W:Hp):OX->Prop
 | .ok o=>EndOk X.K c k D W o
 | .error z=> ∀σ' H' hid' C,SR X.K c hid' z.2 σ' H'->Same W (vw H' hid')->x8 X.K z.1 C->EX X σ' (.ref C) none H'
theorem EndX.mono {X:Cx}{c:Ct}{k:Kd}{D:Ends}{W W':Hp}{o:OX}(h:EndX X c k D W o)(s:Same W W'):EndX X c k D W' o:=by
 cases o with
 |ok o=>exact EndOk.mono h s
 |error z=>exact λσ' H' hid' C a b=>h σ' H' hid' C a (s.trans b)
def Hz(X:Cx)(c:Ct)(k:Kd)(t:FX)(ρ:aJ):TS:=λD σ H=> ∃hid,SR X.K c hid ρ σ H/\EndX X c k D (vw H hid) (t ρ)
def Hs(X:Cx)(c:Ct)(k:Kd)(st:Stmt)(t:FX):Prop:= ∀ρ,PS X st (Hz X c k t ρ)
def tD(X:Cx)(c:Ct)(k:Kd)(st:List Stmt)(t:FX):Prop:= ∀ρ,PSs X st (Hz X c k t ρ)
section
variable {X:Cx}{c:Ct}{k:Kd}{st:Stmt}{sts rest:List Stmt}{t u:FX}{e:Expr}{pos pos' p:Pos}{x:Str}{i:Nat}
theorem PS.nox {t:TS}(h:PS X.nox st t):PS X st t:=λaf s σ H D I hw=>
 Lv (h af s σ H D (I.wish _) hw) (λ_ _ q=>q.unwish) λ_ _ z=>False.elim z
def kA(t:FS):FX:=λρ=>.ok (t ρ)
theorem kz {t:FS}(h:DS X.nox c k st t):Hs X c k st (kA t):=λρ=>PS.nox (h ρ)
theorem oA {t:FS}(h:vV X.nox c k sts t):tD X c k sts (kA t):=λρ=>PSs.nox (h ρ)
def eJ(t u:FX):FX:=λρ=>match t ρ with
 | .ok (.nx ρ')=>u ρ'
 | .ok o=>.ok o
 | .error z=>.error z
theorem fP(h:Hs X c k st t):tD X c k [st] t:=λρ=>x5 (h ρ)
theorem cT(h1:Hs X c k st t)(h2:tD X c k rest u):tD X c k (st::rest) (eJ t u):=λρ=>
 PSs.imp (uy (h1 ρ) (xL λρ1=>h2 ρ1)) λD σ H hq_=>by
  obtain⟨hid,sr,q⟩:=hq_
  refine⟨hid,sr,?_⟩
  unfold eJ at q;cases e:t ρ with
  |error z=>rw[e] at q;exact q
  |ok o=>
   rw[e] at q;cases o with
   |nx ρ1=>exact λσ1 H1 hid1 sr1 v1=>⟨ρ1,hid1,sr1,EndX.mono q v1⟩
   |rt d ρ1=>exact q
   |bk ρ1=>exact q
   |ct ρ1=>exact q
   |no=>exact q
def rg(p:FT)(t u:FX):FX:=λρ=>match p ρ with
 |some true=>t ρ
 |some false=>u ρ
 |none=>.ok .no
theorem mP {p:FT}{a b:List Stmt}(hp:DT X c e p)(ha:tD X c k a t)(hb:tD X c k b u):Hs X c k (.If e a b pos) (rg p t u):=λρ=>
 PS.imp (Ft (Hq λhid=>hp hid ρ) (ha ρ) (hb ρ)) λD σ H hq_=>by
  obtain⟨hid,sr,q⟩:=hq_
  cases e1:p ρ with
  |none=>unfold rg at q;rw[e1] at q;exact q.elim
  |some x=>
   refine⟨hid,sr,x,e1,λH1 s1=>?_⟩
   unfold rg at q;rw[e1] at q;cases x with
   |true=>exact wb ⟨hid,sr.ext s1,EndX.mono q (aV s1)⟩
   |false=>exact wJ ⟨hid,sr.ext s1,EndX.mono q (aV s1)⟩
theorem jo:tD X c k [] (kA skip):=λρ=>PSs.imp x9 λD σ H ⟨hid,sr,q⟩=>q σ H hid sr (Same.refl _)
theorem DT.nox {p:FT}(h:DT X.nox c e p):DT X c e p:=λhid ρ=>PT.nox (h hid ρ)
def j4(f:RE):FX:=λρ=>match f ρ with
 |some (.ok d)=>.ok (.rt d ρ)
 |some (.error z)=>.error (z,ρ)
 |none=>.ok .no
theorem mi {f:RE}(he:DR X c k e f)(hk:k≠ .b:=by decide):Hs X c k (.Return (some e) pos) (j4 f):=λρ=>PS.imp (wE (nT λhid=>he hid ρ)) λD σ H hq_=>by
 obtain⟨hid,sr,q⟩:=hq_
 unfold j4 at q;cases e1:f ρ with
 |none=>rw[e1] at q;exact q.elim
 |some r=>
  rw[e1] at q;refine⟨hid,sr,r,e1,?_⟩
  cases r with
  |ok d=>exact λv H' s r=>q v H' (Bx hk (sr.post s r hk) sr.h0)
  |error z=>exact λC H' s hn=>q σ H' hid C (sr.ext s) (aV s) hn
end
theorem Ea {K:K7}{h:Heap}{C:Addr}{bmB:List KU}{newId:String}(KI:K.In h)(q:Qc K C bmB newId=true): ∃bm N nm qn bs hdct sn sub ab col dd k0 k1 k2 k3 k5 mN,
 h.get? C=some (excClassObj nm qn C N bs bm hdct sn sub ab col dd k0 k1 k2 k3 k5 newId)/\h.Ns N mN/\mN "__init__"=none/\OwnTail h bmB bm:=by
 unfold Qc at q;split at q
 ·rename_i dd cd sl ho
  split at q
  ·rename_i C' bm k0 k1 k2 k3 n k5 hm hs
   simp only[Lk,beq_iff_eq,M0] at q;obtain⟨⟨⟨⟨⟨rfl,rfl⟩,iN⟩,ht⟩,hok⟩,hni⟩:=q
   obtain⟨nm,bs,mro,ns,qn,hd,sn,sub,ab,col,del⟩:=cd
   dsimp only at hm iN hok hni;subst hm iN;obtain⟨l⟩:=sl
   simp only at hs;subst hs;exact⟨bm,ns,nm,qn,bs,hd,sn,sub,ab,col,dd,k0,k1,k2,k3,k5,_,KI _ _ ho,.of_isNs (W.isNs_of_in KI hok),W.nsMap_none_of_in KI hok hni,W.tail_of_in KI ht⟩
  ·cases q
 ·cases q
section
variable {X:Cx}{c:Ct}{k:Kd}{e:Expr}{es:List Expr}{pos np cpos:Pos}{x:Str}{C:Addr}
theorem DL {af:List (Addr×Obj)}{σ:St}{H:Hp}{s:KZ}{h':Heap}{ea:Addr}{vs:List KU}(I:Inv X af σ H s)(m:Heap.MadeExcOf s.heap h' ea (.ref C) vs):
 XS X af σ H {cls:=.ref C,data:=.plain} ea {s with heap:=h'}:=by
 obtain⟨t,he,htn,ht⟩:=m.there
 refine⟨s.heap,kj X.stack,I,⟨λ_ q=>q,λb hb nb=>absurd hb nb⟩,⟨λb o q=>m.keeps b o (QL _ q),?_,yD (I.stack.of_keeps λb o q _=>⟨o,m.keeps b o q,rfl⟩) λ_ q=>q,.inr ⟨_,he,rfl⟩⟩,.of_keeps m.keeps,m.new⟩
 cases q:(Oo s.heap (kj X.stack)).get? ea with
 |none=>rfl
 |some o=>have:=QL _ q;rw[m.new] at this;cases this
def rC(z:Ex)(fs:FA):FX:=λρ=>match fs ρ with
 |some ds=>if ds.length<=20 then .error (z,ρ) else .ok .no
 |none=>.ok .no
theorem mj {n:Int}{fs:FA}(hm:X.mg x=some (.ref C))(hN:LN X.K K8 x=some (some (.ref C)))(ho:Qc X.K C z0 "ValueError.__new__"=true)(hd:X.A.handled=none)(ha:DA X c (e::es) fs)(hg:Gl X x:=by rfl)(hdb:(x==("__debug__":Str))=false:=by decide)
 (he:Le (e::es) X.env=(false,eval e X.env)::Le es X.env:=by rfl) (hpl:(M2 cpos (Le es X.env)).any (·.1)=false:=by rfl):
 Hs X c k (.Raise (some (.Call (.Name x np) (e::es) [] cpos)) none pos) (rC ⟨x,n⟩ fs):=λρ af s σ H D I hq_=>by
 obtain⟨hid,sr,q⟩:=hq_
 unfold rC at q;cases e1:fs ρ with
 |none=>rw[e1] at q;exact q.elim
 |some ds=>
  rw[e1] at q;dsimp only at q
  by_cases hl:ds.length<=20
  ·rw[if_pos hl] at q
   obtain⟨bm,N,nm,qn,bs,hdct,sn,sub,ab,col,dd,k0,k1,k2,k3,k5,mN,hC,hNs,hni,T⟩:=Ea I.mod.kin ho
   refine wpAny_Raise_call_subT (C:=C) (nm:=nm) (q:=qn) (N:=N) (bs:=bs) (bm:=bm) (hdct:=hdct) (sn:=sn) (sub:=sub) (ab:=ab) (col:=col) (dd:=dd) (k0:=k0) (k1:=k1) (k2:=k2) (k3:=k3) (k5:=k5)
    P5 (mN:=mN) (T.hasType P5.hasBase) hd (by rw[he];show(false||(M2 cpos (Le es X.env)).any (·.1))=false;rw[hpl];rfl) hni (mz I hg hm ⟨rfl,?_⟩ hdb)
   have P:=ha hid ρ cpos af s σ H (λvs H'=>Same H H'/\Reps X.K (vw H' hid) vs ds) I ⟨sr,ds,e1,λvs H' a b=>⟨a,b⟩⟩
   rw[he] at P⊢;refine PX (Lv P (λus s1 ⟨vs,H1,I1,r,sm,rp⟩=>⟨rfl,?_,I1.bk _ _ hC,hNs.keeps I1.bk,T.keeps I1.bk,λh' ea m=>?_⟩) λ_ _ y=>y)
   ·show us.length<=Lm
    rw[<-r.length,rp.length];exact LW hl (by decide)
   ·exact q σ H1 hid C (sr.ext sm) (aV sm) hN af ea _ _ rfl rfl (DL I1 m)
  ·rw[if_neg hl] at q;exact q.elim
end
section
variable {X:Cx}
def Ky(neg:Bool):R2:=λx y H Q=>(y=.non\/ ∃b,y=.bl b)/\Q (.bl (if neg then !decide (x=y) else decide (x=y))) H
theorem IQ:md X (Mp .Is) (Ky false):=by
 intro af s σ H x y v u Q I rx ry h;obtain⟨hy,q⟩:=h
 have key: ∀b:Bool,b=decide (x=y)->EP X af σ Q (.bool b) s:=λb e=>⟨.bl b,H,I,rfl,by rw[e];exact q⟩
 rcases hy with rfl|⟨b,rfl⟩
 ·cases ry
  exact is_none_gen (key _ rx.none_iff)
 ·cases ry
  cases x with
  |non=>cases rx;exact Lc (key _ (by simp))
  |bl c=>cases rx;exact Lc (key _ (by rw[LI];simp))
  |int _=>obtain⟨t,rfl⟩:=rx;exact Lc (key _ (by simp))
  |str _=>obtain⟨t,rfl⟩:=rx;exact Lc (key _ (by simp))
  |byt _=>obtain⟨t,rfl⟩:=rx;exact Lc (key _ (by simp))
  |flt _=>obtain⟨t,rfl⟩:=rx;exact Lc (key _ (by simp))
  |ref _=>cases rx;exact Lc (key _ (by simp))
  |ty _=>cases rx;exact Lc (key _ (by simp))
end
def vg:D->D->Bool
 | .non,.non=>true
 | .bl a,.bl b=>a==b
 |_,_=>false
def Jj(neg:Bool):D->D->Option D:=λx y=>match y with
 | .non=>some (.bl (if neg then !vg x y else vg x y))
 | .bl _=>some (.bl (if neg then !vg x y else vg x y))
 |_=>none
theorem IS {K:K7}(neg:Bool):pg K .s (Ky neg) (Jj neg):=by
 intro H hid v u x y d Q hf h r1 r2 q;have key: ∀ {w:V},Rep1 K H (vw H hid) u y->(u=.non\/ ∃b,u=.bl b)->decide (v=u)=vg x y:=λ{w} _ hu=>by
  cases x with
  |non=>cases r1.non;rcases hu with rfl|⟨b,rfl⟩<;>cases y<;>first|rfl|(cases r2.non;done)|(cases r2.bl;done)|(cases r2.bl;rfl)|(cases r2.int;done)|(cases r2.str;done)|(obtain⟨a,xs,e,_⟩:=r2.tup;cases e;done)|(obtain⟨a,xs,e,_⟩:=r2.lst;cases e;done)|(obtain⟨a,xs,e,_⟩:=r2.scr;cases e;done)
  |bl c=>cases r1.bl;rcases hu with rfl|⟨b,rfl⟩<;>cases y<;>first|rfl|(cases r2.non;done)|(cases r2.bl;show decide (V.bl c=V.bl _)=(c==_);rw[LI];simp;done)|(cases r2.bl;done)|(cases r2.int;done)|(cases r2.str;done)|(obtain⟨a,xs,e,_⟩:=r2.tup;cases e;done)|(obtain⟨a,xs,e,_⟩:=r2.lst;cases e;done)|(obtain⟨a,xs,e,_⟩:=r2.scr;cases e;done)
  |int i=>cases r1.int;rcases hu with rfl|⟨b,rfl⟩<;>cases y<;>rfl
  |str z=>cases r1.str;rcases hu with rfl|⟨b,rfl⟩<;>cases y<;>rfl
  |tup ds=>obtain⟨a,xs,rfl,_⟩:=r1.tup;rcases hu with rfl|⟨b,rfl⟩<;>cases y<;>rfl
  |lst ds=>obtain⟨a,xs,rfl,_⟩:=r1.lst;rcases hu with rfl|⟨b,rfl⟩<;>cases y<;>rfl
  |scr ds=>obtain⟨a,xs,rfl,_⟩:=r1.scr;rcases hu with rfl|⟨b,rfl⟩<;>cases y<;>rfl
 unfold Jj at h;split at h
 ·have hu:u=.non:=r2.non
  cases h
  refine⟨.inl hu,?_⟩
  rw[key (w:=v) r2 (.inl hu)];exact q _ H (Same.refl _) .bl
 ·have hu:=r2.bl
  cases h
  refine⟨.inr ⟨_,hu⟩,?_⟩
  rw[key (w:=v) r2 (.inr ⟨_,hu⟩)];exact q _ H (Same.refl _) .bl
 ·cases h
def ut(kd:Kd)(n:Nat)(t:FX)(ds:List D):Option (Except Ex D):=match t (fO n ds) with
 | .ok (.rt d _)=>some (.ok d)
 | .ok (.nx _)=>(match kd with
   | .n=>none
   |_=>some (.ok .non))
 | .ok _=>none
 | .error z=>some (.error z.1)
section
variable {P:LB}{w:L1}{K:K7}{mg:Str->Option KU}{base:Heap}{x:Str}{st:Stmt}{N ps:List Str}{k n:Nat}{kd:Kd}
theorem ma {t:FX}(F:Df K mg x st ps)(S:FnScope N ps (aq st))(hkd:kd≠ .b)(hn:ps.length=n)
 (body: ∀(f:Addr) (cdv:KU) (A:LC) (outer:List Env) (s:KZ) (H:Hp) (hid:cj) (E:XK),Room k (A.deeper (NF x (aq st) s.heap.objs.size f cdv))->
   tD (o9 (Jg P w) P w K mg base N x (aq st) f cdv A outer s H E) ⟨H,hid,λ_=>false⟩ kd (aK st) t):
 ClX P w K mg base (k+1) x ps (za K kd n (ut kd N.length t)):=by
 obtain⟨f,fd,F,hm,hb⟩:=F.ex
 subst hn;refine⟨f,fd,?_,hm,F.kp,hb⟩
 obtain⟨oc,od,kV,doc,pm,an,cdv,ct,osl,rfl,lk,hcd⟩:=F.ex
 refine E4 lk hcd S (λvs H Q E h=>?_) λA outer s H vs Q E hr h=>?_
 ·obtain⟨hid,ds,_,r,hl,_⟩:=h
  rw[r.length,hl]
 ·obtain⟨hid,ds,tr,r,hl,r0,hP,q⟩:=h
  refine⟨_,body f cdv A outer s H hid E hr (fO N.length ds),hid,SR.begins tr r,?_⟩
  unfold ut at hP;cases e:t (fO N.length ds) with
  |error z=>
   rw[e] at hP;cases hP
   intro σ' H' hid' C sr _ hn af ea o0 s' hc hd xs;have sm:Same H H':=λb o z=>sr.kp b o z rfl
   exact AL xs hc hd (q C H' sm hn) λs'' h=>h
  |ok o=>
   rw[e] at hP;cases o with
   |nx ρ=>
    intro σ' H' hid' sr _;have sm:Same H H':=λb o z=>sr.kp b o z rfl
    cases kd with
    |b=>exact absurd rfl hkd
    |s=>cases hP;exact q _ H' sm .non
    |n=>cases hP
   |rt d' ρ=>
    cases hP
    intro v H' R;have sm:Same H H':=λb o z=>R.kp b o z rfl
    cases kd with
    |b=>exact absurd rfl hkd
    |s=>exact q v H' sm R.val
    |n=>exact q v H' sm R.val
   |bk ρ=>cases hP
   |ct ρ=>cases hP
   |no=>cases hP
end
def pH(x y:Str):Bool:=x==y||y==("RookError":Str)
structure ExRow(K:K7)(mg:Str->Option KU)(CR:Addr)(x:Str)(C:Addr):Prop where
 mg:mg x=some (.ref C)
 ns:LN K K8 x=some (some (.ref C))
 cc:ExcC K C
 ty:R7 K (.ref C)=some (.type "type")
 mr: ∃cd,Q1 K C=some cd/\cd.mro=(if C=CR then .ref CR::z0 else .ref C:: .ref CR::z0)
structure ExTab(K:K7)(mg:Str->Option KU)(CR:Addr)(tbl:List (Str×Addr)):Prop where
 row: ∀p∈tbl,ExRow K mg CR p.1 p.2
 root:(("RookError":Str),CR)∈tbl
 nd:(tbl.map (·.2)).Nodup
section
variable {K:K7}{mg:Str->Option KU}{CR:Addr}{tbl:List (Str×Addr)}
theorem mB: ∀ {l:List (Str×Addr)},(l.map (·.2)).Nodup-> ∀ {p q:Str×Addr},p∈l->q∈l->p.2=q.2->p=q
 | [],_,_,_,h,_,_=>nomatch h
 |a::l,nd,p,q,hp,hq,e=>by
  rw[Lf,Ma] at nd;rcases Ll.mp hp with ep|ep
  ·rcases Ll.mp hq with eq|eq
   ·rw[ep,eq]
   ·exact absurd (LX.mpr ⟨q,eq,by rw[<-e,ep]⟩) nd.1
  ·rcases Ll.mp hq with eq|eq
   ·exact absurd (LX.mpr ⟨p,ep,by rw[e,eq]⟩) nd.1
   ·exact mB nd.2 ep eq e
theorem ExTab.addr(T:ExTab K mg CR tbl){p q:Str×Addr}(hp:p∈tbl)(hq:q∈tbl)(e:p.1=q.1):p.2=q.2:=by
 have h1:=(T.row p hp).ns
 have h2:=(T.row q hq).ns
 rw[e,h2] at h1;injection h1 with h1
 injection h1 with h1
 exact(OB h1).symm
theorem ExTab.mro(T:ExTab K mg CR tbl){p q:Str×Addr}(hp:p∈tbl)(hq:q∈tbl):OA K p.2 (.ref q.2)=some (pH p.1 q.1):=by
 obtain⟨cd,h1,h2⟩:=(T.row p hp).mr
 unfold OA;rw[h1,K6,h2];have hr:q.2=CR↔q.1=("RookError":Str):=⟨λe=>by rw[mB T.nd hq T.root e],λe=>T.addr hq T.root e⟩
 have hs:p.2=q.2↔p.1=q.1:=⟨λe=>by rw[mB T.nd hp hq e],T.addr hp hq⟩
 have ev:pH p.1 q.1=(decide (p.2=q.2)||decide (q.2=CR)):=by
  unfold pH;congr 1
  ·rw[LI,beq_iff_eq,decide_eq_true_eq];exact hs.symm
  ·rw[LI,beq_iff_eq,decide_eq_true_eq];exact hr.symm
 rw[ev]
 by_cases e:p.2=CR
 ·rw[if_pos e,if_neg (by simp)]
  congr 1
  rw[e,LI,On,NY,decide_eq_true_eq,decide_eq_true_eq,Ll];exact⟨λh=>h.elim (λh=>.inl (OB h).symm) λh=>by simp[z0] at h,λh=>.inl (h.elim (λh=>by rw[h]) λh=>by rw[h])⟩
 ·rw[if_neg e,if_neg (by simp)]
  congr 1
  rw[LI,On,NY,decide_eq_true_eq,decide_eq_true_eq,Ll,Ll];exact⟨λh=>h.elim (λh=>.inl (OB h).symm) λh=>h.elim (λh=>.inr (OB h)) λh=>by simp[z0] at h,λh=>h.elim (λh=>.inl (by rw[h])) λh=>.inr (.inl (by rw[h]))⟩
end
section
variable {X:Cx}{c:Ct}{k:Kd}{e:Expr}{pos p p1 p2 p3 py:Pos}{x y z:Str}{i:Nat}{CR C:Addr}{tbl:List (Str×Addr)}
theorem ED {ns:List Str}{tbl:List (Str×Addr)}(e:tbl.map (·.1)=ns){x:Str}(h:ns.contains x=true): ∃C,(x,C)∈tbl:=by
 rw[<-e,On] at h;obtain⟨q,h1,h2⟩:=LX.mp h
 exact⟨q.2,by rw[<-h2];exact h1⟩
variable(T:ExTab X.K X.mg CR tbl)
include T
end
abbrev Cx.inTry(X:Cx)(pn:List (Addr×Obj))(E:KU->KZ->Prop):Cx:={X with pn:=pn,xe:=E}
abbrev Cx.caught(X:Cx)(v:Option KU):Cx:={X with A:=X.A.mark v,calm:=false,xe:=λ_ _=>False}
section
variable {X:Cx}{af pins':List (Addr×Obj)}{σ:St}{H:Hp}{s:KZ}{E:KU->KZ->Prop}{v:Option KU}{a:Addr}
theorem Cx.Ok.inTry {pn:List (Addr×Obj)}(ok:X.Ok):(X.inTry pn E).Ok:=⟨ok.mod,ok.kind,ok.glob,ok.blt,ok.above,ok.inj,ok.has,ok.cab,ok.hd,ok.frames,ok.stk,ok.exf,ok.bs,ok.bsz,ok.noex,ok.exfs,ok.funs,ok.frf⟩
theorem Cx.Ok.outTry {pn:List (Addr×Obj)}(ok:(X.inTry pn E).Ok):X.Ok:=⟨ok.mod,ok.kind,ok.glob,ok.blt,ok.above,ok.inj,ok.has,ok.cab,ok.hd,ok.frames,ok.stk,ok.exf,ok.bs,ok.bsz,ok.noex,ok.exfs,ok.funs,ok.frf⟩
theorem Inv.inTry(I:Inv X af σ H s):Inv (X.inTry (X.pn++af) E) [] σ H s:=
 ⟨I.ok.inTry,I.os,I.bare,I.base,I.loc,I.cell,I.free,I.freeC,λp hp=>I.pin p (by rw[Me] at hp;exact hp),I.hok,I.len⟩
theorem Inv.outTry(I:Inv (X.inTry (X.pn++af) E) pins' σ H s):Inv X af σ H s:=
 ⟨I.ok.outTry,I.os,I.bare,I.base,I.loc,I.cell,I.free,I.freeC,λp hp=>I.pin p (Mi _ hp),I.hok,I.len⟩
theorem Inv.caught(I:Inv X af σ H s):Inv (X.caught v) af σ H s:=
 ⟨⟨I.ok.mod,I.ok.kind,I.ok.glob,I.ok.blt,I.ok.above,I.ok.inj,I.ok.has,I.ok.cab,(λq=>nomatch q),I.ok.frames,I.ok.stk,I.ok.exf,I.ok.bs,I.ok.bsz,I.ok.noex,I.ok.exfs,I.ok.funs,I.ok.frf⟩,I.os,I.bare,I.base,I.loc,I.cell,I.free,I.freeC,I.pin,I.hok,I.len⟩
theorem Inv.uncaught(ok:X.Ok)(I:Inv (X.caught v) af σ H s):Inv X af σ H s:=⟨ok,I.os,I.bare,I.base,I.loc,I.cell,I.free,I.freeC,I.pin,I.hok,I.len⟩
theorem SP.outTry {D:Ends}{f:Flow}(h:SP (X.inTry (X.pn++af) E) pins' D f s):SP X af D f s:=by
 cases f with
 |next=>obtain⟨σ',H',I,q⟩:=h;exact⟨σ',H',I.outTry,q⟩
 |brk=>obtain⟨σ',H',I,q⟩:=h;exact⟨σ',H',I.outTry,q⟩
 |cont=>obtain⟨σ',H',I,q⟩:=h;exact⟨σ',H',I.outTry,q⟩
 |ret u=>obtain⟨v,σ',H',I,r,q⟩:=h;exact⟨v,σ',H',I.outTry,r,q⟩
theorem XS.outTry {o0:Obj}{ea:Addr}(x:XS (X.inTry (X.pn++af) E) pins' σ H o0 ea s):XS X af σ H o0 ea s:=by
 obtain⟨g,F,I,aw,fl,up,gn⟩:=x
 exact⟨g,F,I.outTry,⟨aw.1,λb hb nb=>⟨(aw.2 b hb nb).1,(aw.2 b hb nb).2.1,(aw.2 b hb nb).2.2.1,(aw.2 b hb nb).2.2.2.1,λp hp=>(aw.2 b hb nb).2.2.2.2 p (Mi _ hp)⟩⟩,fl,up,gn⟩
theorem ObjOk.there {P:LB}{w:L1}{h:Heap}{o:HO}(x:ObjOk P w H h a o): ∃u,h.get? a=some u:=by
 induction o with
 |lst xs=>obtain⟨_,_,_,_,e⟩:=x;exact⟨_,e⟩
 |tup xs=>obtain⟨_,_,_,⟨_,e,_⟩,_⟩:=x;exact⟨_,e⟩
 |dK kvs=>obtain⟨_,_,_,_,o,_,_,e,_⟩:=x;exact⟨_,e⟩
 |dT kvs=>obtain⟨_,_,_,_,o,_,_,e,_⟩:=x;exact⟨_,e⟩
 |set S n=>obtain⟨o,_,_,_,e,_⟩:=x;exact⟨_,e⟩
 |tst xs=>obtain⟨o,_,_,_,e,_⟩:=x;exact⟨_,e⟩
 |ins C dx fs=>obtain⟨_,_,_,e,_⟩:=x;exact⟨_,e⟩
 |own y=>obtain⟨_,e⟩:=x;exact⟨_,e⟩
 |xd fs=>obtain⟨_,⟨_,_,_,e,_⟩,_⟩:=x;exact⟨_,e⟩
 |rng lo hi=>obtain⟨_,_,_,e⟩:=x;exact⟨_,e⟩
 |frz ob u ih=>obtain⟨e,_⟩:=x;exact⟨_,e⟩
 |nst p u ih=>exact ih x
 |tbl ps=>exact⟨_,show h.get? a=some _ from x⟩
 |met f y=>exact⟨_,show h.get? a=some _ from x⟩
 |ext φ=>obtain⟨_,⟨_,e⟩,_⟩:=x;exact⟨_,e⟩
theorem Inv.newer {g:Heap}(Ig:Inv X af σ H {s with heap:=g})(gn:g.get? a=none):H a=none:=by
 cases q:H a with
 |none=>rfl
 |some u=>
  obtain⟨o,e⟩:=(Ig.hok a u q).there
  rw[show g.get? a=some o from e] at gn;cases gn
theorem Inv.track {g:Heap}{o:Obj}{φ:Heap->Prop}(I:Inv X af σ H s)(Ig:Inv X af σ H {s with heap:=g})(gn:g.get? a=none)(ho:s.heap.get? a=some o)(hφ:φ s.heap)
 (hst: ∀h1 h2:Heap,φ h1->(∀o,h1.get? a=some o->h2.get? a=some o)->φ h2):Inv X af σ (bI H a (.ext φ)) s:=by
 have Ha:=Ig.newer gn
 have ne: ∀ {b o},g.get? b=some o->b≠a:=λ{b o} e z=>by rw[z,gn] at e;cases e
 have nt: ∀ {b u},H b=some u->b≠a:=λ{b u} e z=>by rw[z,Ha] at e;cases e
 have hL:X.env.locals≠a:=by
  obtain⟨m,⟨o',es,ep,e,_⟩,_⟩:=Ig.loc
  exact ne e
 refine⟨I.ok,I.os,I.bare,⟨I.base.keep,I.base.slot,λb ob e n hx=>?_,I.base.there,λb xs e=>?_,λb ob u e=>?_,λb ps e=>?_⟩,I.loc,I.cell,?_,λx c e=>?_,λp hp=>?_,λb u e=>?_,I.len⟩
 ·obtain⟨o',e'⟩:=Ig.base.there b ob e hx
  rw[aF (ne e')];exact I.base.free b ob e n hx
 ·have:=I.base.tups b xs e
  rw[aF (nt this)];exact this
 ·have:=I.base.frzs b ob u e
  rw[aF (nt this)];exact this
 ·obtain⟨m,e'⟩:=I.base.tbls b ps e
  exact⟨m,by rw[aF (nt e')];exact e'⟩
 ·rw[aF hL];exact I.free
 ·obtain⟨w,o',e',_⟩:=Ig.cell x c e
  rw[aF (ne e')];exact I.freeC x c e
 ·obtain⟨h1,h2,h3⟩:=I.pin p hp
  exact⟨h1,by rw[aF (ne (Ig.pin p hp).1)];exact h2,h3⟩
 ·by_cases z:b=a
  ·subst z
   rw[aP] at e;cases e
   exact⟨hφ,⟨o,ho⟩,hst⟩
  ·rw[aF z] at e
   exact(I.hok b u e).stay (λ_ _ _ q=>q) (λc q=>by rw[aF (nt q)];exact q) λc xs q=>by rw[aF (nt q)];exact q
theorem Inv.blind {h':Heap}{t':Nat}{m':Str->Option KU}(I:Inv X af σ H s)(hn:h'.Ns X.env.locals m')(sb:MK X.env.locals s.heap h'):Inv X af (K1 X.N.length none) H {s with heap:=h',toks:=t'}:=by
 have kp: ∀b o,b≠X.env.locals->s.heap.get? b=some o->h'.get? b=some o:=λb o n e=>(sb.2 b n).trans e
 have n0: ∀ {b o},X.s₀.heap.get? b=some o->b≠X.env.locals:=λ{b o} e z=>by
  have:=Lh e
  rw[z] at this;exact absurd this (M3.mpr I.ok.above)
 refine⟨I.ok,I.os,I.bare,⟨λb o e n hf hx=>kp b o (n0 e) (I.base.keep b o e n hf hx),λb o e n hf hx=>?_,I.base.free,λb o e hx=>?_,I.base.tups,I.base.frzs,I.base.tbls⟩,⟨m',hn,λi x v _ e=>?_⟩,λx c e=>?_,I.free,I.freeC,λp hp=>?_,λb u e=>?_,by simp⟩
 ·obtain⟨sl,q⟩:=I.base.slot b o e n hf hx
  exact⟨sl,kp b _ (n0 e) q⟩
 ·obtain⟨o',q⟩:=I.base.there b o e hx
  exact⟨o',kp b _ (n0 e) q⟩
 ·rw[LV] at e
  split at e<;>cases e
 ·obtain⟨v,o,q,r⟩:=I.cell x c e
  exact⟨v,o,kp c o (I.cne x c e) q,r⟩
 ·obtain⟨h1,h2,h3,h4⟩:=I.pin p hp
  exact⟨kp _ _ h3 h1,h2,h3,h4⟩
 ·refine(I.hok b u e).stay (λc o hc q=>kp c o (λz=>?_) q) (λ_ q=>q) λ_ _ q=>q
  have:=I.free
  rw[<-z] at this;rcases hc with rfl|hc
  ·rw[e] at this;cases this
  ·rw[hc] at this;cases this
end
section
variable {K:K7}{c:Ct}{hid:cj}{ρ:aJ}{σ:St}{H:Hp}{a:Addr}{x:Str}{n:Int}
theorem SR.setEx(h:SR K c hid ρ σ H)(ho:ObOk K c hid H a (.exc x n))(i:Nat):SR K c hid (ρ.set i (.ob (.exc x n))) (σ.set i (some (.ref a))) H:=by
 have nj: ∀m,Ow (ρ.set i (.ob (.exc x n)))[m]? ->m≠i:=λm o e=>by
  subst e
  by_cases lt:m<ρ.length
  ·rw[Lg lt] at o;exact o
  ·rw[LP (by simpa using lt)] at o;exact o
 refine⟨h.tr,h.ht,h.h0,h.kp,h.t0,h.c0,h.m0,by simp[h.len],λj s q=>?_,λj l z ne o1 o2 q1 q2=>?_⟩
 ·by_cases e:j=i
  ·subst e
   have lt:j<ρ.length:=by
    have:=(Lp.mp q).1
    simpa using this
   rw[Lg lt] at q;cases q
   exact⟨a,Lg (by rw[h.len];exact lt),ho⟩
  ·rw[K9 (Lw e)] at q
   have w:=h.sl j s q
   have es:(σ.set i (some (V.ref a)))[j]? =σ[j]? :=K9 (Lw e)
   cases s with
   |no=>trivial
   |v d=>obtain⟨x,h1,h2⟩:=w;exact⟨x,es.trans h1,h2⟩
   |own ds=>obtain⟨a,xs,h1,h2⟩:=w;exact⟨a,xs,es.trans h1,h2⟩
   |arg ds=>obtain⟨a,xs,h1,h2⟩:=w;exact⟨a,xs,es.trans h1,h2⟩
   |ob b=>obtain⟨a,h1,h2⟩:=w;exact⟨a,es.trans h1,h2⟩
 ·have e1:=nj j o1
  have e2:=nj l o2
  rw[K9 (Lw e1)] at o1 q1;rw[K9 (Lw e2)] at o2 q2;exact h.ap j l z ne o1 o2 q1 q2
end
theorem InFl.keeps {B:Heap}{l:List Env}{e:Addr}{o0:Obj}{h h':Heap}(x:InFl B l e o0 h)(k: ∀b o,h.get? b=some o->h'.get? b=some o):InFl B l e o0 h':=by
 refine⟨λb o q=>k b o (x.st b o q),x.ne,x.ff.of_keeps λb o q _=>⟨o,k b o q,rfl⟩,?_⟩
 rcases x.tr with⟨vs,T,oT,ts,h1,h2,h3,h4,h5,h6⟩|⟨vs,h1,h2⟩
 ·exact .inl ⟨vs,T,oT,ts,k _ _ h1,h2,h3,h4,k _ _ h5,h6⟩
 ·exact .inr ⟨vs,k _ _ h1,h2⟩
theorem Trc.keeps {B:Heap}{e:Addr}{o0:Obj}{h h':Heap}(x:Trc h B e o0)(k: ∀b o,h.get? b=some o->h'.get? b=some o):Trc h' B e o0:=by
 obtain⟨vs,T,oT,ts,h1,h2,h3,h4,h5,h6⟩:=x
 exact⟨vs,T,oT,ts,k _ _ h1,h2,h3,h4,k _ _ h5,h6⟩
section
variable {K:K7}{M:Ro}{A:LC}{E:KU->KZ->Prop}{s:KZ}{ea C D:Addr}{o:Obj}{b:Bool}
theorem ExcC.isExc(X:ExcC K D){h:Heap}(KI:K.In h):Qd M h (QG (.ref D)) true:=by
 have L:Qd M h (isType (.ref D)) true:=by
  obtain⟨cd,hc⟩:=X.cls
  unfold Q1 at hc;split at hc
  ·rename_i c' d' cd' sl' ho
   intro A' Q' E' s' k q;unfold isType loadHead;exact KY (R8 (k _ _ (KI _ _ ho)) (Lc q))
  ·cases hc
 unfold QG;refine L.andThen ?_
 exact SG KI X.mb
end
section
variable {K:K7}{M:Ro}{A:LC}{E:KU->KZ->Prop}{s:KZ}{ea C:Addr}{o:Obj}
theorem EJ:S4 (.type "tuple") (.type "tuple")=pure true:=by rw[isSubtype_type];kernel_rfl
theorem xz {h:Heap}{Q:PUnit->KZ->Prop}: ∀(ds:List Addr),(∀D∈ds,Qd M h (QG (.ref D)) true)->s.heap=h->Q ⟨⟩ s->
 Lq M A (forIn (ds.map Mf) PUnit.unit λc r=>do
  if(!(<-QG c))=true then do
   rule "try.except-non-exception-class"
   raiseError "TypeError" "catching classes that do not inherit from BaseException is not allowed"
   pure (ForInStep.yield PUnit.unit)
  else pure (ForInStep.yield PUnit.unit)) Q E s
 | [],_,_,q=>Lc q
 |D::ds,h1,hs,q=>by
  rw[Lf,PB];refine KY (KY ((h1 D Lu) A _ E s (λb o e=>by rw[hs];exact e) ?_))
  simp only[Bool.not_true,N4,if_false];exact Lc (xz ds (λD hD=>h1 D (Lb _ hD)) hs q)
theorem xY {h:Heap}{te:KU}{Q:Option Bool×PUnit->KZ->Prop}(f:Addr->Bool): ∀(ds:List Addr),(∀D∈ds,Qd M h (S4 te (.ref D)) (f D))->s.heap=h->Q (if ds.any f=true then some true else none,⟨⟩) s->
 Lq M A (forIn (ds.map Mf) ((none:Option Bool),PUnit.unit) λc r=>do
  if(<-S4 te c)=true then pure (ForInStep.done (some true,PUnit.unit))
  else pure (ForInStep.yield (none,PUnit.unit))) Q E s
 | [],_,_,q=>Lc q
 |D::ds,h1,hs,q=>by
  rw[Lf,PB];refine KY (KY ((h1 D Lu) A _ E s (λb o e=>by rw[hs];exact e) ?_))
  rw[Ml] at q;cases e:f D with
  |true=>rw[e] at q;simp only[if_true];exact Lc (Lc q)
  |false=>
   rw[e,Qv] at q;simp only[N4,if_false];exact Lc (xY f ds (λD hD=>h1 D (Lb _ hD)) hs q)
theorem EF {Q:Bool->KZ->Prop}{tp:Addr}{ot:Obj}{nn:Nat}{ds:List Addr}{f:Addr->Bool}(KI:K.In s.heap)(I:R9 s.heap ea o C none)(ht:s.heap.get? tp=some ot)(hc:ot.cls=.type "tuple")(hd:ot.data=.seq (ds.map Mf).toArray nn)
 (X: ∀D∈ds,ExcC K D) (hm: ∀D∈ds,OA K C (.ref D)=some (f D)) (q:Q (ds.any f) s):Lq M A (Sa (.ref ea) (.ref tp)) Q E s:=by
 obtain⟨hh,g,d,t,os⟩:=s
 have T:Qd M hh (typeOf (.ref tp)) (.type "tuple"):=hc▸(Ww (M:=M) ht).andThen .now
 have L0:Qd M hh (isInstance (.ref tp) (.type "tuple")) true:=T.andThen (W.Looks.of_pure EJ)
 have L2:=I.type (M:=M)
 obtain⟨oc,od,dt,sl⟩:=ot
 dsimp only at hc hd;subst hc hd;have LS:Qd M hh (Rj (.ref tp)) (some (ds.map Mf).toArray):=by
  unfold Rj
  first
   |exact(Ww (M:=M) ht).andThen .now
   |(intro A' Q' E' s' k q;exact KY (R8 (k _ _ ht) (Lc q)))
 unfold Sa;refine KY (L0.at ?_)
 simp only[if_true];refine KY (LS.at ?_)
 refine KY (Lc ?_)
 simp only[Option.getD_some,List.toList_toArray];refine KY (xz ds (λD hD=>(X D hD).isExc KI) rfl ?_)
 refine KY (L2.at ?_)
 refine KY (xY f ds (λD hD=>SG KI (hm D hD)) rfl ?_)
 cases e:ds.any f with
 |true=>rw[e] at q;exact Lc q
 |false=>rw[e] at q;exact Lc q
end
def Kv(X:Cx)(te:Expr)(ns ys:List Str):Prop:= ∀(v:Option KU) (af:List (Addr×Obj)) (s:KZ) (σ:St) (H:Hp) (ea:Addr) (x:Str) (C:Addr) (o:Obj) (Q:Bool->KZ->Prop),Inv (X.caught v) af σ H s->ns.contains x=true->
 LN X.K K8 x=some (some (.ref C))->R9 s.heap ea o C none->(∀s1 H1,Inv (X.caught v) af σ H1 s1->Same H H1->(∀b o,s.heap.get? b=some o->s1.heap.get? b=some o)->s1.os=s.os->s1.gens=s.gens->Q (ys.any λy=>pH x y) s1)->
 Lq (model X.prog X.w) (X.A.mark v) (eval te X.env) (λc s₁=>Lq (model X.prog X.w) (X.A.mark v) (Sa (.ref ea) c) Q (λ_ _=>False) s₁) (λ_ _=>False) s
theorem DA.nox {X:Cx}{c:Ct}{es:List Expr}{f:FA}(h:DA X.nox c es f):DA X c es f:=λhid ρ p af s σ H Q I hw=>
 Lv (h hid ρ p af s σ H Q (I.wish _) hw) (λ_ _ ⟨v,H',I',r,q⟩=>⟨v,H',I'.unwish,r,q⟩) λ_ _ z=>False.elim z
theorem BC {X:Cx}{c:Ct}{x:Str}{n:Int}{pos:Pos}(h: ∃tk,X.mg x=some (.int n tk))(hg:Gl X x:=by rfl)(hd:(x==("__debug__":Str))=false:=by decide):DP X c .s (.Name x pos) (aA (.int n)):=λhid ρ=>by
 obtain⟨tk,hm⟩:=h
 exact PE.imp (Dz (v:=.int n) hg hm ⟨tk,rfl⟩ hd) λσ H Q ⟨sr,d,hd,q⟩=>by cases hd;exact q _ H (Same.refl _) .int
theorem AO {α:Type}{P:α->Prop}: ∀q∈([]:List α),P q:=λ_ h=>nomatch h
theorem pd {α:Type}{P:α->Prop}{r:List α}{a:α}(h:P a)(hr: ∀q∈r,P q): ∀q∈a::r,P q:=λq hq=>(Ll.mp hq).elim (λe=>by rw[e];exact h) (hr q)
abbrev KR(X:Cx):Prop:=X.stack=X.env::X.outer/\X.env.frame=some X.env.locals
def wS(i:Nat)(ns ys:List Str)(t:FX)(u:FS):FS:=λρ=>match t ρ with
 | .ok o=>o
 | .error z=>if ns.contains z.1.x=true/\(ys.any λy=>pH z.1.x y)=true then(match u (z.2.set i (.ob (.exc z.1.x z.1.n))) with
    | .rt d ρ2=>.rt d ρ2
    |_=>.no) else .no
section
variable {X:Cx}{c:Ct}{k:Kd}{body suite:List Stmt}{b0:Stmt}{te:Expr}{n:Str}{hpos pos:Pos}{t:FX}{u:FS}{ns ys:List Str}{i:Nat}
theorem Ay(i:Nat)(hN:X.N.Nodup)(hf:KR X)(hb: ∀pn E,tD (X.inTry pn E) c k body t)(hc:Kv X te ns ys)(hs: ∀v,vV (X.caught v) c k (b0::suite) u)(hi:X.N[i]? =some n:=by rfl)(hl:X.env.scope.names.lookup n=some .local:=by rfl):
 DS X c k (.Try body [.ExceptHandler (some te) (some n) (b0::suite) hpos] [] [] pos) (wS i ns ys t u):=λρ af s σ H D I hq_=>by
 obtain⟨hid,sr,q⟩:=hq_
 unfold wS at q;refine wpAny_Try_except (Lv (hb (X.pn++af) (λe s₁=>Lq (model X.prog X.w) X.A (NQ e X.env) (λ_ s₂=>Lq (model X.prog X.w) X.A (Pj e none) (λ_ s₃=>
  Lq (model X.prog X.w) X.A (handleBy e X.env [.ExceptHandler (some te) (some n) (b0::suite) hpos]) (SP X af D) X.xe s₃) X.xe s₂) X.xe s₁) ρ [] s σ H D I.inTry ⟨hid,sr,?_⟩) (λf s₁ h₁=>?_) λe s₁ h=>h)
 ·cases e:t ρ with
  |ok o=>rw[e] at q;exact q
  |error zz=>
   obtain⟨z,ρ'⟩:=zz
   rw[e] at q;dsimp only at q;intro σ' H' hid' C sr' sm hn pins' ea o0 s' hcls hdict xs;obtain⟨g,F,Ig,aw,fl,up,gn⟩:=xs.outTry
   split at q
   ·rename_i hz
    obtain⟨stk,frm⟩:=hf
    have hfr:X.A.frames=some (X.env::X.outer):=by rw[<-stk];exact I.ok.frames
    have fl0:InFl (Oo g F) (X.env::X.outer) ea o0 s'.heap:=by rw[<-stk];exact fl
    refine xH hfr frm fl0 λh1 fl1 tr1 up1=>?_
    have I1:Inv X af σ' H' {s' with heap:=h1}:=XS.inv (s':={s' with heap:=h1}) ⟨g,F,Ig,aw,by rw[stk];exact fl1,up.trans up1,gn⟩
    have inst: ∀ {h:Heap},Trc h (Oo g F) ea o0-> ∃o,R9 h ea o C none:=λ{h} tr=>by
     obtain⟨vs,_,_,_,he,_⟩:=tr
     exact⟨_,he,hcls,rfl,by show(match o0.dict,none with|some dx,some o=>h.get? dx=some o|none,none=>True|_,_=>False);rw[hdict];trivial⟩
    obtain⟨o1,io⟩:=inst tr1
    refine wpAny_handleBy_cons (codeAny_handlers_test ?_) (by intro q;cases q)
    refine Lv (hc (some (.ref ea)) af _ σ' H' ea z.x C o1 _ I1.caught hz.1 hn io λs2 H2 I2 sm2 kp2 os2 gs2=>?_) (λcl s₂ h₂=>Lv h₂ (λ_ _ z=>z) λ_ _ z=>z.elim) λ_ _ z=>z.elim
    rw[hz.2];simp only[if_true];refine codeAny_handlers_suite_as ?_
    have I2':Inv X af σ' H2 s2:=I2.uncaught I.ok
    have fl2:=fl1.keeps kp2
    have tr2:=tr1.keeps kp2
    refine EM fl2 tr2 λh3 fl3 tr3 up3=>?_
    have gk: ∀b o,g.get? b=some o->b∉F->s2.heap.get? b=some o:=λb o e nF=>fl2.st b o (Qo _ e nF)
    have I3:Inv X af σ' H' {s2 with heap:=h3}:=XS.inv (s':={s2 with heap:=h3}) ⟨g,F,by
     have:=Ig
     exact⟨this.ok,by show s2.os=_;rw[os2];exact this.os,by show NI s2.gens;rw[gs2];exact this.bare,this.base,this.loc,this.cell,this.free,this.freeC,this.pin,this.hok,this.len⟩,aw,by rw[stk];exact fl3,(up.trans up1).trans ((S5 kp2).trans up3),gn⟩
    obtain⟨o3,io3⟩:=inst tr3
    have Ig':Inv X af σ' H' {s2 with heap:=g}:=⟨Ig.ok,by show s2.os=_;rw[os2];exact Ig.os,by show NI s2.gens;rw[gs2];exact Ig.bare,Ig.base,Ig.loc,Ig.cell,Ig.free,Ig.freeC,Ig.pin,Ig.hok,Ig.len⟩
    have exat: ∀ {h:Heap},(∃o,R9 h ea o C none)->vC X.K z.x z.n ea h:=λ{h} ⟨o,io⟩=>⟨C,o,hn,io.at_,io.cls,by have:=io.dict;cases hd:o.dict with|none=>rfl|some dx=>rw[hd] at this;exact this.elim,io.no⟩
    have I4:Inv X af σ' (bI H' ea (.ext (vC X.K z.x z.n ea))) {s2 with heap:=h3}:=I3.track (g:=g) Ig' gn io3.at_ (exat ⟨o3,io3⟩) λk1 k2 ⟨C',o',w1,w2,w3⟩ kk=>⟨C',o',w1,kk _ w2,w3⟩
    have Hn:H' ea=none:=Ig.newer gn
    have sr4:SR X.K c hid' ρ' σ' (bI H' ea (.ext (vC X.K z.x z.n ea))):=sr'.ext (bM Hn _)
    have ob4:ObOk X.K c hid' (bI H' ea (.ext (vC X.K z.x z.n ea))) ea (.exc z.x z.n):=⟨_,vw_some.mpr ⟨sr'.fresh Hn,aP⟩,λh q=>q⟩
    refine lK (v:=.ref ea) I4 hN hi (.inl hl) rfl (λs5 I5=>?_) (.inr hl)
    have sr5:=sr4.setEx ob4 i
    cases eu:u (ρ'.set i (.ob (.exc z.x z.n))) with
    |rt d ρ2=>
     rw[eu] at q;refine Lv (hs (some (.ref ea)) (ρ'.set i (.ob (.exc z.x z.n))) af s5 _ _ {nx:=λ_ _=>False,rt:=D.rt} I5.caught ⟨hid',sr5,by rw[eu];exact q⟩) (λf s6 h6=>?_) λ_ _ z=>z.elim
     cases f with
     |next=>obtain⟨_,_,_,z⟩:=h6;exact z.elim
     |brk=>obtain⟨_,_,_,z⟩:=h6;exact z.elim
     |cont=>obtain⟨_,_,_,z⟩:=h6;exact z.elim
     |ret u6=>
      obtain⟨v6,σ6,H6,I6,r6,q6⟩:=h6
      have J6:=I6.uncaught I.ok
      obtain⟨m6,n6,_⟩:=J6.loc
      exact wpAny_nameGoes hl n6 (by rw[J6.ok.kind];rfl) λh7 m7 n7 sb7=>⟨v6,_,H6,J6.blind n7 sb7,r6,q6⟩
    |nx ρ2=>rw[eu] at q;exact q.elim
    |bk ρ2=>rw[eu] at q;exact q.elim
    |ct ρ2=>rw[eu] at q;exact q.elim
    |no=>rw[eu] at q;exact q.elim
   ·exact q.elim
 ·cases f with
  |next=>exact NX (SP.outTry h₁)
  |brk=>exact SP.outTry h₁
  |cont=>exact SP.outTry h₁
  |ret u=>exact SP.outTry h₁
end
section
variable {X:Cx}{y1 y2:Str}{x1:Nat}{p1 p2 p3:Pos}{CR D1 D2:Addr}{tbl:List (Str×Addr)}{ns:List Str}(T:ExTab X.K X.mg CR tbl)
include T
theorem Eo(hT:tbl.map (·.1)=ns)(h1:(y1,D1)∈tbl)(h2:(y2,D2)∈tbl)(hg1:Gl X y1:=by rfl)(hd1:(y1==("__debug__":Str))=false:=by decide)(hg2:Gl X y2:=by rfl)(hd2:(y2==("__debug__":Str))=false:=by decide)
 (hs1:Le [.Name y1 p1,.Name y2 p2] X.env=(false,eval (.Name y1 p1) X.env)::Le [.Name y2 p2] X.env:=by rfl) (hs2:Le [.Name y2 p2] X.env=(false,eval (.Name y2 p2) X.env)::Le [] X.env:=by rfl):Kv X (.Tuple [.Name y1 p1,.Name y2 p2] x1 p3) ns [y1,y2]:=by
 intro v af s σ H ea x C o Q I hx hC io q;obtain⟨C',hC'⟩:=ED hT hx
 have:C'=C:=by
  have:=(T.row _ hC').ns
  rw[hC] at this;injection this with this;injection this with this
  exact(OB this).symm
 subst this;refine Qf ?_
 rw[hs1];refine OQ (mz (X:=X.caught v) I hg1 (T.row _ h1).mg ?_ hd1)
 rw[hs2];refine OQ (mz (X:=X.caught v) I hg2 (T.row _ h2).mg ?_ hd2)
 refine QN ⟨by show 2<=Lm;decide,?_⟩
 have kp: ∀b u,s.heap.get? b=some u->(s.heap.push {cls:=.type "tuple",dict:=none,data:=.seq ([Mf D1,Mf D2]:List KU).toArray 0}).get? b=some u:=λb u e=>K3 _ e
 have I2:Inv (X.caught v) af σ H {s with heap:=s.heap.push {cls:=.type "tuple",dict:=none,data:=.seq ([Mf D1,Mf D2]:List KU).toArray 0}}:=I.kept (t':=s.toks) kp
 refine EF (ds:=[D1,D2]) (f:=λD=>if D=D1 then pH x y1 else pH x y2) I2.kIn (C:=C') (o:=o) ⟨kp _ _ io.at_,io.cls,io.no,?_⟩ (Lj _ rfl) rfl rfl (λD hD=>?_) (λD hD=>?_) ?_
 ·have:=io.dict
  cases hd:o.dict with
  |none=>trivial
  |some dx=>rw[hd] at this;exact this.elim
 ·rcases Ll.mp hD with rfl|hD
  ·exact(T.row _ h1).cc
  ·rw[L3] at hD;subst hD;exact(T.row _ h2).cc
 ·rcases Ll.mp hD with rfl|hD
  ·rw[if_pos rfl];exact T.mro hC' h1
  ·rw[L3] at hD;subst hD
   by_cases e:D=D1
   ·subst e
    rw[if_pos rfl];exact T.mro hC' h1
   ·rw[if_neg e];exact T.mro hC' h2
 ·have:=q _ H I2 (Same.refl _) kp rfl rfl
  have ev:([D1,D2].any λD=>if D=D1 then pH x y1 else pH x y2)=([y1,y2].any λy=>pH x y):=by
   simp only[Ml,Q2,Oz,if_true]
   by_cases e:D2=D1
   ·have:=mB T.nd h2 h1 e
    injection this with e1 e2
    rw[e,if_pos rfl,e1]
   ·rw[if_neg e]
  rw[ev];exact this
end
section
variable {X:Cx}{c:Ct}{e:Expr}{es:List Expr}{k:Kd}{pos p:Pos}{x:Str}{ps:List Str}{j n:Nat}
def dz(f:FE):FA:=λρ=>(f ρ).bind λd=>match d with
 | .lst ds=>some ds
 | .tup ds=>some ds
 |_=>none
theorem dW {tg iter:Expr}{f:FE}(h:DP X c .s iter f):DIp X c tg iter (dz f):=λhid ρ af s σ H R I hq_=>by
 obtain⟨sr,ds,e1,q⟩:=hq_
 unfold dz at e1;cases e2:f ρ with
 |none=>rw[e2] at e1;cases e1
 |some d=>
  rw[e2,K6] at e1;cases d with
  |lst xs=>cases e1;exact Bi h hid ρ af s σ H R I ⟨sr,ds,by unfold oY;rw[e2];rfl,q⟩
  |tup xs=>cases e1;exact ER h hid ρ af s σ H R I ⟨sr,ds,by unfold D9;rw[e2];rfl,q⟩
  |_=>cases e1
end
theorem BE {a b:Addr}{l:List Addr}(h:(a::l).Nodup)(hb:b∈l): ¬b=a:=λe=>(Ma.mp h).1 (e▸hb)
theorem fB {es rest:List Expr}{x1}{pos:Pos}{env:Env}:Le (.Tuple es x1 pos::rest) env=(false,eval (.Tuple es x1 pos) env)::Le rest env:=by rfl
theorem FN {es rest:List Expr}{pos:Pos}{env:Env}:Le (.List es pos::rest) env=(false,eval (.List es pos) env)::Le rest env:=by rfl
@[elab_as_elim] theorem ar0 {motive:List KU->Prop} (us:List KU) (hl:us.length=0) (h:motive []):motive us:=by
 cases us with
 |nil=>exact h
 |cons a r=>exact absurd hl (Nat.succ_ne_zero _)
@[elab_as_elim] theorem ar1 {motive:List KU->Prop} (us:List KU) (hl:us.length=1) (h: ∀a0,motive [a0]):motive us:=by
 cases us with
 |nil=>exact absurd hl (by decide)
 |cons a0 r=>exact ar0 (motive:=λr=>motive (a0::r)) r (Oi hl) (h a0)
@[elab_as_elim] theorem ar2 {motive:List KU->Prop} (us:List KU) (hl:us.length=2) (h: ∀a0 a1,motive [a0,a1]):motive us:=by
 cases us with
 |nil=>exact absurd hl (by decide)
 |cons a0 r=>exact ar1 (motive:=λr=>motive (a0::r)) r (Oi hl) (h a0)
@[elab_as_elim] theorem ar3 {motive:List KU->Prop} (us:List KU) (hl:us.length=3) (h: ∀a0 a1 a2,motive [a0,a1,a2]):motive us:=by
 cases us with
 |nil=>exact absurd hl (by decide)
 |cons a0 r=>exact ar2 (motive:=λr=>motive (a0::r)) r (Oi hl) (h a0)
@[elab_as_elim] theorem ar4 {motive:List KU->Prop} (us:List KU) (hl:us.length=4) (h: ∀a0 a1 a2 a3,motive [a0,a1,a2,a3]):motive us:=by
 cases us with
 |nil=>exact absurd hl (by decide)
 |cons a0 r=>exact ar3 (motive:=λr=>motive (a0::r)) r (Oi hl) (h a0)
@[elab_as_elim] theorem ar5 {motive:List KU->Prop} (us:List KU) (hl:us.length=5) (h: ∀a0 a1 a2 a3 a4,motive [a0,a1,a2,a3,a4]):motive us:=by
 cases us with
 |nil=>exact absurd hl (by decide)
 |cons a0 r=>exact ar4 (motive:=λr=>motive (a0::r)) r (Oi hl) (h a0)
@[elab_as_elim] theorem ar6 {motive:List KU->Prop} (us:List KU) (hl:us.length=6) (h: ∀a0 a1 a2 a3 a4 a5,motive [a0,a1,a2,a3,a4,a5]):motive us:=by
 cases us with
 |nil=>exact absurd hl (by decide)
 |cons a0 r=>exact ar5 (motive:=λr=>motive (a0::r)) r (Oi hl) (h a0)
@[irreducible] def QP (X:Cx) (c:Ct) (e:Expr) (f:FE):Prop:=DP X c .s e f
@[irreducible] def QA (X:Cx) (c:Ct) (es:List Expr) (f:FA):Prop:=DA X c es f
@[irreducible] def QS (X:Cx) (c:Ct) (k:Kd) (st:Stmt) (t:FS):Prop:=DS X c k st t
@[irreducible] def QSs (X:Cx) (c:Ct) (k:Kd) (st:List Stmt) (t:FS):Prop:=vV X c k st t
section
variable {X:Cx}{c:Ct}{k:Kd}{e a b:Expr}{es:List Expr}{f g:FE}{fs:FA}{pos pos':Pos}{st:Stmt}{rest:List Stmt}{t u:FS}{x:Str}
theorem QP.of(h:DP X c .s e f):QP X c e f:=by unfold QP;exact h
theorem QP.dp(h:QP X c e f):DP X c .s e f:=by unfold QP at h;exact h
theorem QA.da(h:QA X c es fs):DA X c es fs:=by unfold QA at h;exact h
theorem QS.of(h:DS X c k st t):QS X c k st t:=by unfold QS;exact h
theorem QS.ds(h:QS X c k st t):DS X c k st t:=by unfold QS at h;exact h
theorem QSs.to(h:QSs X c k rest t):vV X c k rest t:=by unfold QSs at h;exact h
theorem dq:QA X c [] aj:=by unfold QA;exact au
theorem aG(h:QP X c e f)(hr:QA X c es fs)(hs:Le (e::es) X.env=(false,eval e X.env)::Le es X.env:=by rfl):QA X c (e::es) (ae f fs):=by unfold QA;exact ah h.dp hr.da hs
theorem eQ {x1}(h:QA X c es fs):QP X c (.Tuple es x1 pos) (bF fs):=.of (ee h.da)
theorem qi(h:QA X c es fs):QP X c (.List es pos) (dZ fs):=.of (DP.toS (iG h.da))
theorem pQ(i:Nat)(hn:X.N.Nodup)(he:QP X c e f)(hi:X.N[i]? =some x:=by rfl)(hx:BK X.env.scope x:=by first|exact MQ rfl|exact Mk rfl)(hs:MS e (some (.Name x pos')) pos.line X.env=pure false:=by rfl)
 (hf:X.fn x=true\/X.env.scope.names.lookup x=some .local:=by first|exact .inl rfl|exact .inr rfl|assumption):QS X c k (.Assign [.Name x pos'] e pos) (bj i f):=.of (bp i hn he.dp hi hx hs hf)
theorem jq(h1:QS X c k st t)(h2:QSs X c k rest u):QSs X c k (st::rest) (aD t u):=by unfold QSs;exact ar h1.ds h2.to
theorem t9(h:QS X c k st t):QSs X c k [st] t:=by unfold QSs;exact aB h.ds
end
section
variable {κ:Type} [DecidableEq κ]
def mM(kvs:List (κ×V))(k:κ):Option V:=(kvs.find? λkv=>decide (kv.1=k)).map (·.2)
def lV(kvs:List (κ×V))(k:κ)(v:V):List (κ×V):=
 if(kvs.any λkv=>decide (kv.1=k))=true then kvs.map (λkv=>if kv.1=k then(kv.1,v) else kv) else kvs++[(k,v)]
theorem nJ {p:κ×V}{r:List (κ×V)}{k:κ}(e:p.1=k):mM (p::r) k=some p.2:=by simp[mM,Mz,e]
theorem oa {p:κ×V}{r:List (κ×V)}{k:κ}(e: ¬p.1=k):mM (p::r) k=mM r k:=by simp[mM,Mz,e]
theorem vd(k:κ): ∀kvs:List (κ×V),(kvs.any λkv=>decide (kv.1=k))=(mM kvs k).isSome
 | []=>rfl
 |p::r=>by
  rw[Ml]
  by_cases e:p.1=k
  ·simp only[nJ e,decide_eq_true e,Bool.true_or,QE]
  ·rw[oa e,decide_eq_false e,Qv];exact vd k r
theorem lY(kvs:List (κ×V))(k:κ)(v:V):(lV kvs k v).length<=kvs.length+1:=by
 unfold lV;split
 ·rw[K5];omega
 ·rw[LJ,LM,OJ];omega
theorem RelO.isSome_eq {o:Option V}{u:Option KU}(r:RelO o u):o.isSome=u.isSome:=by
 cases o with
 |none=>cases u with
  |none=>rfl
  |some _=>exact(show False from r).elim
 |some _=>cases u with
  |none=>exact(show False from r).elim
  |some _=>rfl
theorem KV.val {kvs:List (κ×V)}{vs:List (κ×KU)}(r:KV kvs vs)(k:κ):RelO (mM kvs k) (Qe vs k):=by
 unfold KV at r
 induction r with
 |nil=>exact True.intro
 | @cons p q ps qs h t ih=>
   obtain⟨h1,h2⟩:=h
   by_cases e:p.1=k
   ·have e':q.1=k:=h1.symm.trans e
    have b:Qe (q::qs) k=some q.2:=by simp[Qe,Mz,e']
    rw[nJ e,b];exact h2
   ·have e': ¬q.1=k:=λz=>e (h1.trans z)
    have b:Qe (q::qs) k=Qe qs k:=by simp[Qe,Mz,e']
    rw[oa e,b];exact ih
theorem KV.any {kvs:List (κ×V)}{vs:List (κ×KU)}(r:KV kvs vs)(k:κ):(kvs.any λkv=>decide (kv.1=k))=vs.any λkv=>decide (kv.1=k):=by
 unfold KV at r
 induction r with
 |nil=>rfl
 |cons h t ih=>rw[Ml,Ml,ih,h.1]
theorem KV.repl {kvs:List (κ×V)}{vs:List (κ×KU)}(r:KV kvs vs)(k:κ){y:V}{u:KU}(ry:RelV y u):
 KV (kvs.map λkv=>if kv.1=k then(kv.1,y) else kv) (vs.map λkv=>if kv.1=k then(kv.1,u) else kv):=by
 unfold KV at r⊢
 induction r with
 |nil=>exact .nil
 | @cons p q ps qs h t ih=>
   rw[Lf,Lf];refine .cons ?_ ih
   obtain⟨h1,h2⟩:=h
   by_cases e:p.1=k
   ·rw[if_pos e,if_pos (h1.symm.trans e)];exact⟨h1,ry⟩
   ·rw[if_neg e,if_neg (λz=>e (h1.trans z))];exact⟨h1,h2⟩
theorem KV.put {kvs:List (κ×V)}{vs:List (κ×KU)}(r:KV kvs vs)(k:κ){y:V}{u:KU}(ry:RelV y u):KV (lV kvs k y) (stored vs k u):=by
 unfold lV stored;rw[r.any k]
 by_cases e:(vs.any λkv=>decide (kv.1=k))=true
 ·rw[if_pos e,if_pos e];exact r.repl k ry
 ·rw[if_neg e,if_neg e];exact Vb r ⟨rfl,ry⟩
theorem KV.length {kvs:List (κ×V)}{vs:List (κ×KU)}(r:KV kvs vs):kvs.length=vs.length:=O5 r
end
theorem yO {P:LB}{w:L1}{k:cv}{u:KU}(r:RelV (kV k) u):(eU P w).is k u=true:=by
 cases k with
 |inl i=>obtain⟨t,e⟩:=(show∃t,u=P8 i t from r);subst e;exact ux P w i t
 |inr x=>obtain⟨t,e⟩:=(show∃t,u=SL x t from r);subst e;exact vq P w x t
theorem sA {P:LB}{w:L1}: ∀ {ks:List cv} {us:List KU},Vals (ks.map kV) us->ItemsAre (eU P w) ks us
 | [],_,r=>by rw[QQ] at r;cases r;exact .nil
 |k::ks,_,r=>by
  rw[Lf] at r;cases r with
  |cons h t=>exact .cons (yO h) (sA t)
abbrev KTd(H:Hp):List (List cv×V)->List (List cv×Addr×KU)->Prop:=Paired λp q=>p.1=q.1/\H q.2.1=some (.tup (p.1.map kV))/\RelV p.2 q.2.2
theorem KTd.val {H:Hp}{kvs:List (List cv×V)}{xs:List (List cv×Addr×KU)}(r:KTd H kvs xs)(k:List cv):RelO (mM kvs k) ((Rv xs k).map (·.2)):=by
 induction r with
 |nil=>exact True.intro
 | @cons p q ps qs h t ih=>
   obtain⟨h1,_,h2⟩:=h
   by_cases e:p.1=k
   ·have e':q.1=k:=h1.symm.trans e
    have b:Rv (q::qs) k=some q.2:=by simp[Rv,Mz,e']
    rw[nJ e,b];exact h2
   ·have e': ¬q.1=k:=λz=>e (h1.trans z)
    have b:Rv (q::qs) k=Rv qs k:=by simp[Rv,Mz,e']
    rw[oa e,b];exact ih
theorem KTd.repl {H:Hp}{kvs:List (List cv×V)}{xs:List (List cv×Addr×KU)}(r:KTd H kvs xs)(k:List cv){y:V}{u:KU}(ry:RelV y u):
 KTd H (kvs.map λkv=>if kv.1=k then(kv.1,y) else kv) (xs.map (putAt k u)):=by
 induction r with
 |nil=>exact .nil
 | @cons p q ps qs h t ih=>
   rw[Lf,Lf];refine .cons ?_ ih
   obtain⟨h1,h2,h3⟩:=h
   unfold putAt
   by_cases e:p.1=k
   ·rw[if_pos e,if_pos (h1.symm.trans e)];exact⟨h1,h2,ry⟩
   ·rw[if_neg e,if_neg (λz=>e (h1.trans z))];exact⟨h1,h2,h3⟩
theorem KTd.put {H:Hp}{kvs:List (List cv×V)}{xs:List (List cv×Addr×KU)}(r:KTd H kvs xs)(k:List cv){b:Addr}{y:V}{u:KU}(hb:H b=some (.tup (k.map kV)))(ry:RelV y u):
 KTd H (lV kvs k y) (storedH xs k b u):=by
 have e:(kvs.any λkv=>decide (kv.1=k))=(Rv xs k).isSome:=by
  rw[vd,(r.val k).isSome_eq,Option.isSome_map]
 unfold lV storedH;rw[e]
 by_cases q:(Rv xs k).isSome=true
 ·rw[if_pos q,if_pos q];exact r.repl k ry
 ·rw[if_neg q,if_neg q];exact Vb r ⟨rfl,hb,ry⟩
theorem KTd.keeps {H H':Hp}{kvs:List (List cv×V)}{xs:List (List cv×Addr×KU)}(r:KTd H kvs xs)(ht: ∀b ys,H b=some (.tup ys)->H' b=some (.tup ys)):KTd H' kvs xs:=
 Paired.mapP r λ_ _ z=>⟨z.1,ht _ _ z.2.1,z.2.2⟩
section
variable {P:LB}{w:L1}{H:Hp}{h:Heap}{a:Addr}
theorem Fk {u:HO}(ok:HOk P w H h)(e:Rd H a u):ObjOk P w H h a u:=e.ok ok
theorem CL {kvs:List (cv×V)}(ok:HOk P w H h)(e:Rd H a (.dK kvs)):kvs.length<=Lm/\(a==M1)=false/\ ∃vs,KV kvs vs/\h.DictOf (eU P w) a vs:=
 show ObjOk P w H h a (.dK kvs) from Fk ok e
theorem Fe {kvs:List (cv×V)}(ok:HOk P w H h)(e:H a=some (.dK kvs)):kvs.length<=Lm/\(a==M1)=false/\ ∃vs,KV kvs vs/\h.DictOf (eU P w) a vs:=CL ok (.inl e)
theorem wm {ks:List cv}(ok:HOk P w H h)(e:H a=some (.tup (ks.map kV))):(Qa (eU P w)).is h ks a:=by
 obtain⟨_,its,r,⟨o,h1,h2,n,h3⟩,_⟩:=(show ObjOk P w H h a (.tup (ks.map kV)) from ok a _ e)
 exact⟨o,its.toArray,n,h1,h2,h3,by simpa using sA r⟩
theorem BR {kvs:List (List cv×V)}(ok:HOk P w H h)(e:Rd H a (.dT kvs)):kvs.length<=Lm/\(a==M1)=false/\
 ∃xs,KTd H kvs xs/\h.DictOfH (Qa (eU P w)) a xs:=by
 obtain⟨z,y,xs,r,o,es,ep,h1,h2,h3,h4,h5⟩:=(show ObjOk P w H h a (.dT kvs) from Fk ok e)
 refine⟨z,y,xs,r,o,es,ep,h1,h2,h3,h4,λx hx=>?_,h5⟩
 have all: ∀ {l:List (List cv×V)} {m:List (List cv×Addr×KU)},KTd H l m-> ∀x∈m,(Qa (eU P w)).is h x.1 x.2.1:=by
  intro l m q
  induction q with
  |nil=>intro x hx;exact nomatch hx
  | @cons p q ps qs hq t ih=>
    intro x hx;rcases Ll.mp hx with e|hx
    ·subst e
     exact wm ok (by rw[<-hq.1];exact hq.2.1)
    ·exact ih x hx
 exact all r x hx
theorem HU {kvs:List (List cv×V)}(ok:HOk P w H h)(e:H a=some (.dT kvs)):kvs.length<=Lm/\(a==M1)=false/\
 ∃xs,KTd H kvs xs/\h.DictOfH (Qa (eU P w)) a xs:=BR ok (.inl e)
end
def DGet(H:Hp)(a:Addr)(y:V)(r:Option V):Prop:=
 (∃kvs k,Rd H a (.dK kvs)/\y=kV k/\r=mM kvs k)\/ ∃kvs k b,Rd H a (.dT kvs)/\y=.ref b/\H b=some (.tup (k.map kV))/\r=mM kvs k
def DPut(H:Hp)(a:Addr)(y v:V)(H':Hp):Prop:=
 (∃kvs k,H a=some (.dK kvs)/\y=kV k/\kvs.length<Lm/\H'=bI H a (.dK (lV kvs k v)))\/
 ∃kvs k b,H a=some (.dT kvs)/\y=.ref b/\H b=some (.tup (k.map kV))/\kvs.length<Lm/\H'=bI H a (.dT (lV kvs k v))
theorem DGet.k {H:Hp}{a:Addr}{kvs:List (cv×V)}{k:cv}(e:H a=some (.dK kvs)):DGet H a (kV k) (mM kvs k):=.inl ⟨kvs,k,.inl e,rfl,rfl⟩
theorem DPut.k {H:Hp}{a:Addr}{kvs:List (cv×V)}{k:cv}{v:V}(e:H a=some (.dK kvs))(hl:kvs.length<Lm):DPut H a (kV k) v (bI H a (.dK (lV kvs k v))):=.inl ⟨kvs,k,e,rfl,hl,rfl⟩
section
variable {X:Cx}{af:List (Addr×Obj)}{σ:St}{H:Hp}{s:KZ}{a:Addr}{y v:V}{u r:KU}{o:Option V}{A:LC}{E:KU->KZ->Prop}
theorem Inv.big(I:Inv X af σ H s):M1<s.heap.objs.size:=by
 have h:K8<s.heap.objs.size:=(I.mod.glob.keeps I.bk).lt
 exact Px (by decide) h
theorem zY {Q:KU->KZ->Prop}(hu:A.units+1<M4)(I:Inv X af σ H s)(g:DGet H a y (some v))(ry:RelV y u)(h: ∀w' s',Inv X af σ H s'->RelV v w'->Q w' s'):
 Lq (model X.prog X.w) A (QR (.ref a) u) Q E s:=by
 rcases g with⟨kvs,k,e,ey,l⟩|⟨kvs,k,b,e,ey,eb,l⟩
 ·subst ey
  obtain⟨z,hd,vs,rel,dd⟩:=CL I.hok e
  obtain⟨w',hw,rw'⟩:=RelO.some_of (v:=v) (o:=Qe vs k) (by rw[l];exact rel.val k)
  exact wpAny_getItem_of (yO ry) dd.mapOf hw (h w' _ (I.tok _) rw')
 ·subst ey
  cases (show u=Mf b from ry)
  obtain⟨z,hd,xs,rel,dd⟩:=BR I.hok e
  obtain⟨w',hw,rw'⟩:=RelO.some_of (v:=v) (o:=(Rv xs k).map (·.2)) (by rw[l];exact rel.val k)
  obtain⟨p,hp,hp2⟩:=Mu.mp hw
  refine wpAny_getItem_heap (QH hu) (wm I.hok eb) dd hp ?_
  rw[hp2];exact h w' _ (I.tok _) rw'
theorem tj {h':Heap}{t':Nat}{ob:HO}(I:Inv X af σ H s)(mu:G6 (H a))(hs:MK a s.heap h')(he: ∃q,h'.get? a=some q)(new:ObjOk X.prog X.w (bI H a ob) h' a ob):
 Inv X af σ (bI H a ob) {s with heap:=h',toks:=t'}:=
 I.write (x:=a) (e:=a) mu (.inl rfl) (λb q hb z=>(hs.2 b hb).trans z) he new
theorem AR {P:LB}{w:L1}{H':Hp}{h':Heap}{kvs:List (cv×V)}{vs:List (cv×KU)}(z:kvs.length<=Lm)(hd:(a==M1)=false)(rel:KV kvs vs)(dd:h'.DictOf (eU P w) a vs):
 ObjOk P w H' h' a (.dK kvs):=⟨z,hd,vs,rel,dd⟩
theorem zD {H':Hp}{Q:Unit->KZ->Prop}(hu:A.units+1<M4)(I:Inv X af σ H s)(g:DPut H a y v H')(ry:RelV y u)(rv:RelV v r)(h: ∀s',Inv X af σ H' s'->Q () s'):
 Lq (model X.prog X.w) A (S8 (.ref a) u r) Q E s:=by
 rcases g with⟨kvs,k,e,ey,l,eH⟩|⟨kvs,k,b,e,ey,eb,l,eH⟩
 ·subst ey eH
  obtain⟨z,hd,vs,rel,dd⟩:=Fe I.hok e
  have hz:vs.length<=sizeLine:=by rw[<-rel.length];exact z
  have hl:(lV kvs k v).length<=sizeLine:=by have:=lY kvs k v;omega
  refine wpAny_setItem_pairs (hsz:=hz) (yO ry) dd λh' dd' hs=>h _ ?_
  have he: ∃q,h'.get? a=some q:=let⟨q,_,_,hq,_⟩:=dd';⟨q,hq⟩
  exact tj I (by rw[e];exact True.intro) hs he (AR hl hd (rel.put k rv) dd')
 ·subst ey eH
  cases (show u=Mf b from ry)
  obtain⟨z,hd,xs,rel,dd⟩:=HU I.hok e
  have hz:xs.length<=sizeLine:=by rw[<-O5 rel];exact z
  have hl:(lV kvs k v).length<=sizeLine:=by have:=lY kvs k v;omega
  refine wpAny_setItem_heap (hsz:=hz) (QH hu) (wm I.hok eb) dd λh' dd' hs=>h _ ?_
  obtain⟨q,es,ep,hq,h2,h3,h4,_,h5⟩:=dd'
  refine tj I (by rw[e];exact True.intro) hs ⟨q,hq⟩ ⟨hl,hd,_,(rel.put k eb rv).keeps λc ys ec=>?_,q,es,ep,hq,h2,h3,h4,h5⟩
  rw[aF (HM ec e (λz=>nomatch z))]
  exact ec
end
def FQ(i:Expr):Prop:= ∀ov iv,PV i false ov iv=operate [ov,iv] (QR ov iv)
theorem Ey {prog:LB}{w:L1}{A:LC}{E:KU->KZ->Prop}{s:KZ}{env:Env}{value slice:Expr}{pos:Pos}{T id:String}{Q:KU->KZ->Prop}
 (hl:typeLookup (.type T) "__getitem__"=pure (some (.builtin id))) (hs:FQ slice)
 (h:Lq (model prog w) A (eval value env) (λo s₁=>Lq (model prog w) A (eval slice env) (λi s₂=>s₂.TypeIs o T/\Lq (model prog w) A (QR o i) Q E s₂) E s₁) E s):
 Lq (model prog w) A (eval (.Subscript value slice pos) env) Q E s:=by
 refine RT (Lv h (λo s₁ h₁=>Lv h₁ (λi s₂ h₂=>?_) λ_ _ x=>x) λ_ _ x=>x)
 obtain⟨hT,h₂⟩:=h₂
 unfold Qr;refine KY ?_
 rw[getitemInPython_of_ne hT.not_modules];refine KY (wpAny_specialOf hT hl ?_)
 have fin:Lq (model prog w) A (PV slice false o i) (λr s₃=>Lq (model prog w) A (letTemporaryGo value o r>>=λ_=>pure r) Q E s₃) E s₂:=by
  rw[hs o i];exact wpAny_operating (Lv h₂ (λr s₃ h₃=>KY (wpAny_letTemporaryGo (Lc h₃))) λ_ _ x=>x)
 first
  |exact Lc (KY fin)
  |exact KY (Lc (KY fin))
  |exact KY fin
theorem vQ {X:Cx}{af:List (Addr×Obj)}{σ:St}{H:Hp}{s:KZ}{a:Addr}{y:V}{o:Option V}(I:Inv X af σ H s)(g:DGet H a y o):s.TypeIs (.ref a) "dict":=by
 rcases g with⟨kvs,k,e,_,_⟩|⟨kvs,k,b,e,_,_,_⟩
 ·obtain⟨_,_,vs,_,dd⟩:=CL I.hok e
  exact dd.typeIs
 ·obtain⟨_,_,xs,_,dd⟩:=BR I.hok e
  exact dd.typeIs
def Ix(td ty:TE):TE:=λσ H Q=>td σ H λx H1=>ty σ H1 λy H2=> ∃a v,x=.ref a/\DGet H2 a y (some v)/\Q v H2
section
variable {X:Cx}{o i e value:Expr}{pos pos' tpos:Pos}{td ty tv:TE}
theorem C6(hu:X.A.units+1<M4)(ho:PE X o td)(hi:PE X i ty)(hs:FQ i):PE X (.Subscript o i pos) (Ix td ty):=by
 intro af s σ H Q I h;refine Ey PySem.F.slot_dict_getitem.lookup hs (cy (ho af s σ H _ I h) λu s1 ⟨x,H1,I1,rx,q1⟩=>cy (hi af s1 σ H1 _ I1 q1) λiv s2 hq_=>?_)
 obtain⟨y,H2,I2,ry,a,v,ex,g,q2⟩:=hq_
 subst ex;obtain rfl:u=Mf a:=rx
 exact⟨vQ I2 g,zY hu I2 g ry λw' s3 I3 rw'=>⟨v,H2,I3,rw',q2⟩⟩
end
theorem Cc {P:LB}{w:L1}{H:Hp}(h:Heap)(hb:M1<h.objs.size):ObjOk P w H (h.push {cls:=.type "dict",data:=.dict #[]}) h.objs.size (.dK []):=
 ⟨Na _,beq_eq_false_iff_ne.mpr (Lw (LF hb)),[],.nil,X9 h⟩
end L2
namespace PySem
open Sem (wp)
end PySem
namespace L2
open PySem PySem.Spec PyProof.Rows
end L2
namespace PySem
end PySem
namespace L2
open PySem PySem.Spec PyProof.Rows
def B6(i:Nat)(ρ:aJ):Option (List (cv×D)):=match ρ[i]? with
 |some (.ob (.dK kvs))=>some kvs
 |_=>none
theorem zF {i:Nat}{ρ:aJ}{kvs:List (cv×D)}(h:B6 i ρ=some kvs):ρ[i]? =some (.ob (.dK kvs)):=by
 unfold B6 at h;split at h
 ·cases h;assumption
 ·cases h
def yH:D->Option cv
 | .int i=>some (.inl i)
 |_=>none
theorem q9 {d:D}{k:cv}(h:yH d=some k): ∃i,d=.int i/\k=.inl i:=by
 unfold yH at h;split at h
 ·cases h;exact⟨_,rfl,rfl⟩
 ·cases h
def iA(kvs:List (cv×D))(k:cv):Option D:=(kvs.find? λkv=>decide (kv.1=k)).map (·.2)
def rF(kvs:List (cv×D))(k:cv)(d:D):List (cv×D):=
 if(kvs.any λkv=>decide (kv.1=k))=true then kvs.map (λkv=>if kv.1=k then(kv.1,d) else kv) else kvs++[(k,d)]
def KRl(K:K7)(F:Hp)(us:List (cv×V))(kvs:List (cv×D)):Prop:=us.map (·.1)=kvs.map (·.1)/\Reps K F (us.map (·.2)) (kvs.map (·.2))
theorem KRl.inv {K:K7}{F:Hp}: ∀ {us:List (cv×V)} {kvs:List (cv×D)},KRl K F us kvs->(us=[]/\kvs=[])\/ ∃k v us' d kvs',us=(k,v)::us'/\kvs=(k,d)::kvs'/\Rep K F v d/\KRl K F us' kvs'
 | [],[],_=>.inl ⟨rfl,rfl⟩
 | [],_::_,h=>by cases h.1
 |_::_,[],h=>by cases h.1
 |(k,v)::us,(k',d)::kvs,h=>by
  obtain⟨h1,h2⟩:=h
  rw[Lf,Lf] at h1 h2;injection h1 with e1 e2
  cases h2 with
  |cons r rs=>
   have e1:k=k':=e1
   subst e1;exact .inr ⟨k,v,us,d,kvs,rfl,rfl,r,e2,rs⟩
theorem KRl.val {K:K7}{F:Hp}(k:cv): ∀ {us:List (cv×V)} {kvs:List (cv×D)},KRl K F us kvs->(mM us k=none/\iA kvs k=none)\/ ∃v d,mM us k=some v/\iA kvs k=some d/\Rep K F v d:=by
 intro us
 induction us with
 |nil=>
  intro kvs h;rcases h.inv with⟨_,rfl⟩|⟨_,_,_,_,_,e,_⟩
  ·exact .inl ⟨rfl,rfl⟩
  ·cases e
 |cons p us ih=>
  intro kvs h;rcases h.inv with⟨e,_⟩|⟨k',v,us',d,kvs',e,rfl,r,rs⟩
  ·cases e
  ·cases e
   by_cases ek:k'=k
   ·exact .inr ⟨v,d,nJ ek,by simp[iA,Mz,ek],r⟩
   ·have e1:mM ((k',v)::us) k=mM us k:=oa ek
    have e2:iA ((k',d)::kvs') k=iA kvs' k:=by simp[iA,Mz,ek]
    rw[e1,e2];exact ih rs
theorem KRl.any {K:K7}{F:Hp}(k:cv){us:List (cv×V)}{kvs:List (cv×D)}(h:KRl K F us kvs):(us.any λkv=>decide (kv.1=k))=kvs.any λkv=>decide (kv.1=k):=by
 have e1:(us.any λkv=>decide (kv.1=k))=(us.map (·.1)).any λx=>decide (x=k):=by rw[Pt];rfl
 have e2:(kvs.any λkv=>decide (kv.1=k))=(kvs.map (·.1)).any λx=>decide (x=k):=by rw[Pt];rfl
 rw[e1,e2,h.1]
theorem KRl.cons {K:K7}{F:Hp}{k:cv}{v:V}{d:D}{us:List (cv×V)}{kvs:List (cv×D)}(r:Rep K F v d)(h:KRl K F us kvs):KRl K F ((k,v)::us) ((k,d)::kvs):=⟨by rw[Lf,Lf,h.1],.cons r h.2⟩
theorem KRl.repl {K:K7}{F:Hp}(k:cv){v:V}{d:D}(r:Rep K F v d): ∀ {us:List (cv×V)} {kvs:List (cv×D)},KRl K F us kvs->KRl K F (us.map (λkv=>if kv.1=k then(kv.1,v) else kv)) (kvs.map (λkv=>if kv.1=k then(kv.1,d) else kv)):=by
 intro us
 induction us with
 |nil=>
  intro kvs h;rcases h.inv with⟨_,rfl⟩|⟨_,_,_,_,_,e,_⟩
  ·exact h
  ·cases e
 |cons p us ih=>
  intro kvs h;rcases h.inv with⟨e,_⟩|⟨k',v',us',d',kvs',e,rfl,r',rs⟩
  ·cases e
  ·cases e
   rw[Lf,Lf]
   by_cases ek:k'=k
   ·rw[if_pos ek,if_pos ek];exact KRl.cons r (ih rs)
   ·rw[if_neg ek,if_neg ek];exact KRl.cons r' (ih rs)
theorem KRl.put {K:K7}{F:Hp}(k:cv){v:V}{d:D}(r:Rep K F v d){us:List (cv×V)}{kvs:List (cv×D)}(h:KRl K F us kvs):KRl K F (lV us k v) (rF kvs k d):=by
 unfold lV rF;rw[h.any k];split
 ·exact h.repl k r
 ·refine⟨by rw[L5,L5,h.1];rfl,?_⟩
  rw[L5,L5];exact h.2.append (.cons r .nil)
theorem KRl.len {K:K7}{F:Hp}{us:List (cv×V)}{kvs:List (cv×D)}(h:KRl K F us kvs):us.length=kvs.length:=by
 have:=congrArg OC h.1
 simpa using this
section
variable {K:K7}{c:Ct}{hid:cj}{ρ:aJ}{σ:St}{H:Hp}{a:Addr}
theorem SR.dict(h:SR K c hid ρ σ H){i:Nat}{kvs:List (cv×D)}(e:B6 i ρ=some kvs): ∃a us,σ[i]? =some (some (.ref a))/\hid a=true/\c.H₀ a=none/\H a=some (.dK us)/\KRl K (vw H hid) us kvs:=by
 obtain⟨a,h1,⟨h2,h3⟩,us,h4,h5,h6⟩:=h.sl i _ (zF e)
 exact⟨a,us,h1,h2,h3,h4,h5,h6⟩
theorem SR.setD {b:Ob}(h:SR K c hid ρ σ H)(ho:ObOk K c hid H a b)(no: ∀i:Nat,Ow ρ[i]? ->σ[i]? ≠some (some (.ref a)))(i:Nat):
 SR K c hid (ρ.set i (.ob b)) (σ.set i (some (.ref a))) H:=by
 refine⟨h.tr,h.ht,h.h0,h.kp,h.t0,h.c0,h.m0,by simp[h.len],λj s q=>?_,λj l z n o1 o2 q1 q2=>?_⟩
 ·by_cases e:j=i
  ·subst e
   have lt:j<ρ.length:=by
    have:=(Lp.mp q).1
    simpa using this
   rw[Lg lt] at q;cases q
   exact⟨a,Lg (by rw[h.len];exact lt),ho⟩
  ·rw[K9 (Lw e)] at q
   have w:=h.sl j s q
   have es:(σ.set i (some (V.ref a)))[j]? =σ[j]? :=K9 (Lw e)
   cases s with
   |no=>trivial
   |v d=>obtain⟨x,h1,h2⟩:=w;exact⟨x,es.trans h1,h2⟩
   |own ds=>obtain⟨a,xs,h1,h2⟩:=w;exact⟨a,xs,es.trans h1,h2⟩
   |arg ds=>obtain⟨a,xs,h1,h2⟩:=w;exact⟨a,xs,es.trans h1,h2⟩
   |ob b=>obtain⟨a,h1,h2⟩:=w;exact⟨a,es.trans h1,h2⟩
 ·by_cases e1:j=i
  ·subst e1
   have e2:l≠j:=λe=>n e.symm
   rw[K9 (Lw e2)] at o2 q2
   by_cases lt:j<σ.length
   ·rw[Lg lt] at q1;cases q1;exact no l o2 q2
   ·rw[LP (by simpa using lt)] at q1;cases q1
  ·rw[K9 (Lw e1)] at o1 q1
   by_cases e2:l=i
   ·subst e2
    by_cases lt:l<σ.length
    ·rw[Lg lt] at q2;cases q2;exact no j o1 q1
    ·rw[LP (by simpa using lt)] at q2;cases q2
   ·rw[K9 (Lw e2)] at o2 q2
    exact h.ap j l z n o1 o2 q1 q2
theorem ObOk.kind {b:Ob}(h:ObOk K c hid H a b)(o:sS b): ∃u,H a=some u/\ ∀p v,u≠ .nst p v:=by
 cases b with
 |nst us=>obtain⟨_,_,e,_⟩:=h;exact⟨_,e,nofun⟩
 |dR kvs=>exact o.elim
 |dRs l=>exact o.elim
 |exc x n=>exact o.elim
 |dK kvs=>obtain⟨_,_,e,_⟩:=h;exact⟨_,e,nofun⟩
 |dT kvs=>obtain⟨_,_,e,_⟩:=h;exact⟨_,e,nofun⟩
 |set ds=>obtain⟨_,_,e,_⟩:=h;exact⟨_,e,nofun⟩
 |old d=>exact o.elim
 |jnk=>obtain⟨_,_,e⟩:=h;exact⟨_,e,nofun⟩
 |tset ks=>obtain⟨_,_,e,_⟩:=h;exact⟨_,e,nofun⟩
 |dF kvs=>obtain⟨_,_,_,e,_⟩:=h;exact⟨_,e,nofun⟩
theorem SR.putO {x:Addr}{i:Nat}{b b':Ob}{o':HO}(h:SR K c hid ρ σ H)(hg:ρ[i]? =some (.ob b))(ow:sS b)(ow':sS b')(ha:σ[i]? =some (some (.ref a)))(hx:At H a x)(h2:hid x=true)(h3:c.H₀ x=none)
 (nt: ∀xs,o'≠ .tup xs) (new:ObOk K c hid (bI H x o') a b'):SR K c hid (ρ.set i (.ob b')) σ (bI H x o'):=by
 have lt:i<ρ.length:=(Lp.mp hg).1
 have vv:vw (bI H x o') hid=vw H hid:=eY h2
 have tr': ∀b o,H b=some o-> ∃o2,(bI H x o') b=some o2:=λb o q=>by
  by_cases e:b=x
  ·subst e;exact⟨_,aP⟩
  ·exact⟨o,by rw[aF e];exact q⟩
 have owi:Ow ρ[i]? :=by rw[hg];exact ow
 obtain⟨a2,ha2,kb⟩:=h.sl i _ hg
 rw[ha] at ha2;cases ha2;obtain⟨w,kw,kn⟩:=kb.kind ow
 have ne: ∀(j:Nat) (s:Sl) (a' y:Addr) (w':HO),j≠i->ρ[j]? =some s->Ow (some s)->σ[j]? =some (some (.ref a'))->H a'=some w'->(∀p v,w'≠ .nst p v)->At H a' y->y≠x:=λj s a' y w' n e o q hw wn hy=>by
  have na:a'≠a:=λz=>by subst z;exact h.ap j i a' n (by rw[e];exact o) owi q ha
  rcases hx with rfl|⟨u,hu⟩
  ·exact hy.ne na kw kn
  ·intro z
   subst z;rcases hy with rfl|⟨u',hu'⟩
   ·rw[hw] at hu;exact wn _ _ (LH hu)
   ·rw[hu] at hu';cases hu';exact na rfl
 have ows: ∀j:Nat,Ow (ρ.set i (.ob b'))[j]? ->Ow ρ[j]? :=λj o=>by
  by_cases e:j=i
  ·subst e;exact owi
  ·rw[K9 (Lw e)] at o;exact o
 refine⟨λb hb=>let⟨o,q⟩:=h.tr b hb;tr' b o q,λb xs hb q=>by
  by_cases e:b=x
  ·subst e;rw[aP] at q;exact nt xs (LH q)
  ·rw[aF e] at q;exact h.ht b xs hb q,h.h0,λb o q m=>?_,λb o q=>let⟨o2,q2⟩:=h.t0 b o q;tr' b o2 q2,h.c0,h.m0,by simp[h.len],λj s e=>?_,λj l z n o1 o2=>h.ap j l z n (ows j o1) (ows l o2)⟩
 ·rw[aF (bT q h3)];exact h.kp b o q m
 ·by_cases ej:j=i
  ·subst ej
   rw[Lg lt] at e;cases e
   exact⟨a,ha,new⟩
  ·rw[K9 (Lw ej)] at e
   have z:=h.sl j s e
   cases s with
   |no=>trivial
   |v d=>obtain⟨x,h1,h2⟩:=z;exact⟨x,h1,by rw[vv];exact h2⟩
   |own ds=>obtain⟨a',xs,h1,h2,h3,h4,h5⟩:=z;exact⟨a',xs,h1,by rw[aF (ne j _ a' a' _ ej e trivial h1 h2 nofun (.inl rfl))];exact h2,h3,h4,by rw[vv];exact h5⟩
   |arg ds=>obtain⟨a',xs,h1,h2,h3,h4,h5⟩:=z;exact⟨a',xs,h1,by rw[aF (ne j _ a' a' _ ej e trivial h1 h2 nofun (.inl rfl))];exact h2,h3,h4,by rw[vv];exact h5⟩
   |ob b=>
    obtain⟨a',h1,h2⟩:=z
    exact⟨a',h1,h2.mono (λow y hy o q=>by
     obtain⟨w',hw,wn⟩:=h2.kind ow
     rw[aF (ne j _ a' y w' ej e ow h1 hw wn hy)];exact q) (by rw[vv];exact Same.refl _) λ_ _ _ q=>q⟩
end
section
variable {X:Cx}{c:Ct}{k k1 k2:Kd}{e f ek ev:Expr}{fe ff fk fv:FE}{pos pos' py apos cpos p:Pos}{x y:Str}
def EO(i:Nat)(fk:FE):FE:=λρ=>(B6 i ρ).bind λkvs=>((fk ρ).bind yH).bind λk=>iA kvs k
theorem CK(i:Nat)(hu:X.A.units+1<M4)(he:DP X c k1 e fe)(hs:FQ e)(hN:X.N[i]? =some y:=by rfl)(hv':zg X.env.scope y:=by first|exact MQ rfl|exact Mk (MQ rfl)|exact Mk (Mk rfl))(hd:(y==("__debug__":Str))=false:=by decide)
 (hcd:(y==("__classdict__":Str))=false:=by decide):DP X c .s (.Subscript (.Name y py) e pos) (EO i fe):=λhid ρ=>
 PE.imp (C6 hu (pv i hN hv' hd hcd) (he hid ρ) hs) λσ H Q hq_=>by
  obtain⟨sr,d,hd,q⟩:=hq_
  obtain⟨kvs,e0,hd⟩:=Lo.mp hd
  obtain⟨kk,e1,hd⟩:=Lo.mp hd
  obtain⟨dk,e3,e4⟩:=Lo.mp e1
  obtain⟨j,rfl,rfl⟩:=q9 e4
  obtain⟨a,us,a1,a2,a3,a4,a5⟩:=sr.dict e0
  refine⟨.ref a,a1,sr,_,e3,λz H2 s2 r2=>?_⟩
  have i1:=(RK.b k1 r2 λa n=>sr.fresh n).int
  cases i1
  have hh:H2 a=some (.dK us):=s2 _ _ a4
  have rr:KRl X.K (vw H2 hid) us kvs:=⟨a5.1,a5.2.mono (aV s2)⟩
  rcases rr.val (Ov j) with⟨v1,v2⟩|⟨v,d',v1,v2,v3⟩
  ·rw[v2] at hd;cases hd
  ·rw[v2] at hd;cases hd
   exact⟨a,v,rfl,v1▸DGet.k (k:=Ov j) hh,q _ H2 s2 v3⟩
end
open PySem PySem.W PySem.Spec PyProof.Rows
theorem zR(ns:List Int): ∀j,j<=ns.length->preSum (λi=>ns.getD i 0) j=(ns.take j).sum:=by
 intro j
 induction j with
 |zero=>intro _;rfl
 |succ j ih=>
  intro h;have e:ns.take (j+1)=ns.take j++[ns.getD j 0]:=by
   rw[List.take_succ,K0 (by omega),K2,K0 (by omega)];rfl
  rw[e,PD,<-ih (by omega)]
  show preSum (λi=>ns.getD i 0) j+ns.getD j 0=_
  simp
section
variable {X:Cx}{c:Ct}
theorem A6(hc:X.calm=true):jh X (.builtin "sum") (λxs H Q=> ∃(a:Addr) (ys:List V) (ns:List Int),xs=[.ref a]/\SqL X.K H a ys/\Reps X.K H ys (ns.map D.int)/\Q (.int ns.sum) H):=by
 intro af s σ H xs us Q I r h;obtain⟨a,ys,ns,rfl,h1,h2,q⟩:=h
 obtain⟨u,rfl,rx⟩:=mK r
 cases rx
 obtain⟨its,rv,pl,hz⟩:=I.list h1
 have hlt:a<s.heap.objs.size:=by obtain⟨o,n,e,_⟩:=pl;exact Lh e
 have hv:=xO rv h2
 have l1:=rv.length
 have l2:=h2.length
 rw[K5] at l2;refine call_sum_walkAnyS (O2 pl.isList ?_)
 refine⟨s.heap.objs.size,_,_,_,_,_,_,λi=>ns.getD i 0,rfl,(Wq (A:=X.A.in1) (I.ok.hd hc) s.heap.objs.size a (LF hlt) its.toArray).toS,⟨⟨_,Lj _ rfl,rfl,rfl⟩,?_⟩,λb hb=>?_,λi v e=>?_,λs' t' mv=>?_⟩
 ·obtain⟨o,ho,z⟩:=pl.isList
  exact⟨o,K3 _ ho,z⟩
 ·show b<(s.heap.push _).objs.size
  rw[Mr];simp only[Ll,Nx,or_false] at hb;rcases hb with rfl|rfl
  ·exact LY _
  ·exact Nat.lt_succ_of_lt hlt
 ·have e:its[i]? =some v:=by simpa using e
  obtain⟨m,e1,t,e2⟩:=vB hv e
  exact⟨t,by rw[e2];simp[MB,e1]⟩
 ·have hk: ∀b o,s.heap.get? b=some o->s'.heap.get? b=some o:=λb o e=>mv.heap b o (λhm=>by
   have:b=s.heap.objs.size:=by simpa using hm
   exact absurd (this▸Lh e) (Np _)) (K3 _ e)
  have e0:its.toArray.size=ns.length:=by rw[Lr];omega
  have hs:preSum (λi=>ns.getD i 0) its.toArray.size=ns.sum:=by rw[e0,zR ns _ (Ld _),List.take_length]
  rw[hs];have es:s'={s with heap:=s'.heap,toks:=s'.toks}:=by
   obtain⟨_,m2,m3,m4,_⟩:=mv
   cases s'
   simp only at m2 m3 m4;subst m2 m3 m4;rfl
  rw[es];exact⟨.int _,H,I.kept hk,⟨_,rfl⟩,q⟩
def Hc:List D->Option D
 | [.lst ds]=>(iB ds).map λns=>.int ns.sum
 |_=>none
theorem GL:lC X.K .s (λxs H Q=> ∃(a:Addr) (ys:List V) (ns:List Int),xs=[.ref a]/\SqL X.K H a ys/\Reps X.K H ys (ns.map D.int)/\Q (.int ns.sum) H) Hc:=by
 intro H hid vs ds d Q hf h r q;unfold Hc at h;split at h
 ·rename_i zs
  cases e1:iB zs with
  |none=>rw[e1] at h;cases h
  |some ns=>
   rw[e1] at h;cases h;obtain⟨x,rfl,r1⟩:=Reps1.one r
   obtain⟨a,xs,rfl,h1,h2⟩:=r1.lst
   rw[nU e1] at h2;exact⟨a,xs,ns,rfl,h1,h2.mono (gy _ _),q _ H (Same.refl _) .int⟩
 ·cases h
end
set_option maxHeartbeats 4000000
section
variable {X:Cx}{af:List (Addr×Obj)}{σ:St}{H:Hp}{s:KZ}{d p:Addr}{u u':HO}
theorem Inv.re(I:Inv X af σ H s)(e:H d=some u)(mu:G6 (some u))(t: ∀H',ObjOk X.prog X.w H' s.heap d u->ObjOk X.prog X.w H' s.heap d u'):Inv X af σ (bI H d u') s:=by
 have nt: ∀b xs,H b=some (.tup xs)->b≠d:=λb xs q z=>by subst z;rw[e] at q;cases q;exact mu
 have no: ∀b y,H b=some (.own y)->b≠d:=λb xs q z=>by subst z;rw[e] at q;cases q;exact mu
 have q:=I.hok d u e
 obtain⟨o,ho⟩:=q.there
 exact I.write (x:=d) (e:=d) (t':=s.toks) (h':=s.heap) (by rw[e];exact mu) (.inl rfl) (λb v _ hv=>hv) ⟨o,ho⟩ (t _ (q.stay (λb v _ h=>h) (λb h=>by rw[aF (no b _ h)];exact h) λb xs h=>by rw[aF (nt b xs h)];exact h))
theorem Inv.nest(I:Inv X af σ H s)(e:H d=some u)(mu:G6 (some u)):Inv X af σ (bI H d (.nst p u)) s:=I.re e mu λ_ h=>h
theorem Inv.unnest(I:Inv X af σ H s)(e:H d=some (.nst p u)):Inv X af σ (bI H d u) s:=I.re e trivial λ_ h=>h
end
section
variable {X:Cx}{e o i:Expr}{st:Stmt}{t:TS}{pos pos':Pos}{value:Expr}{td ty tv:TE}
theorem PS.post(h:PS X st t):PS X st (λD σ H=>t {D with nx:=λσ' H'=> ∀af s,Inv X af σ' H' s-> ∃H'',Inv X af σ' H'' s/\D.nx σ' H''} σ H):=by
 intro af s σ H D I q;refine cy (h af s σ H _ I q) λf s' z=>?_
 cases f with
 |next=>
  obtain⟨σ',H',I',w⟩:=z
  obtain⟨H'',I'',w'⟩:=w af s' I'
  exact⟨σ',H'',I'',w'⟩
 |brk=>exact z
 |cont=>exact z
 |ret u=>exact z
def IT:A8:=λo i v H Q=> ∃d p,o=.ref d/\((∃us k,i=kV k/\H d=some (.nst p (.dK us))/\us.length<Lm/\Q (bI H d (.nst p (.dK (lV us k v)))))\/
 ∃xs k j,i=.int k/\H d=some (.nst p (.lst xs))/\rl xs.length k=some j/\Q (bI H d (.nst p (.lst (xs.set j v)))))
theorem AZ {H:Hp}{d:Addr}{u u' u'':HO}:bI (bI (bI H d u) d u') d u''=bI H d u'':=by rw[tJ,tJ]
theorem Eb(hu:X.A.units+1<M4):DN X IT:=by
 intro af s σ H o i v ov iv u Q I ro ri rv h;obtain⟨d,p,rfl,⟨us,k,rfl,hd,hl,q⟩|⟨xs,k,j,rfl,hd,hj,q⟩⟩:=h
 ·cases ro
  refine zD hu (I.unnest hd) (DPut.k (k:=k) aP hl) ri rv λs' I'=>⟨_,I'.nest (p:=p) aP trivial,?_⟩
  rw[AZ];exact q
 ·refine cy (vE (X:=X) af s σ (bI H d (.lst xs)) (.ref d) (.int k) v ov iv u (λH'=>H'=bI (bI H d (.lst xs)) d (.lst (xs.set j v))) (I.unnest hd) ro ri rv ⟨d,xs,k,j,rfl,rfl,aP,hj,rfl⟩) λ_ s' hq_=>?_
  obtain⟨H',I',e'⟩:=hq_
  subst e';refine⟨_,I'.nest (p:=p) aP trivial,?_⟩
  rw[AZ];exact q
theorem Eg {t:A8}(hp:DN X t)(ho:PE X o td)(hi:PE X i ty)(hv:PE X value tv)(hs:MS value (some (.Subscript o i pos')) pos.line X.env=pure false):
 PS X (.Assign [.Subscript o i pos'] value pos) (λD σ H=>tv σ H λv H1=>td σ H1 λx H2=>ty σ H2 λy H3=>t x y v H3 λH4=>D.nx σ H4):=by
 intro af s σ H D I h;refine wpAny_Assign_Subscript (cy (hv af s σ H _ I h) λr s1 ⟨v,H1,I1,rv,q1⟩=>cy (ho af s1 σ H1 _ I1 q1) λu s2 ⟨x,H2,I2,rx,q2⟩=>cy (hi af s2 σ H2 _ I2 q2) λiv s3 ⟨y,H3,I3,ry,q3⟩=>?_) hs
 exact cy (hp af s3 σ H3 x y v u iv r _ I3 rx ry rv q3) λ_ s4 ⟨H4,I4,q4⟩=>⟨σ,H4,I4,q4⟩
end
def qG(i:Nat)(ρ:aJ):Option (List NO):=match ρ[i]? with
 |some (.ob (.nst us))=>some us
 |_=>none
theorem jg {i:Nat}{ρ:aJ}{us:List NO}(h:qG i ρ=some us):ρ[i]? =some (.ob (.nst us)):=by
 unfold qG at h;split at h
 ·cases h;assumption
 ·cases h
def BB(k d:D):NO->Option NO
 | .k kvs=>(yH k).bind λkk=>if kvs.length<=1000 then some (.k (rF kvs kk d)) else none
 | .l ds=>match k with
   | .int j=>(rl ds.length j).map λq=>.l (ds.set q d)
   |_=>none
def Ef(us:List NO)(i k d:D):Option (List NO):=match i with
 | .int j=>(rl us.length j).bind λq=>us[q]?.bind λu=>(BB k d u).map λu'=>us.set q u'
 |_=>none
def pp(i:Nat)(f1 f2 fv:FE):FS:=λρ=>match qG i ρ,fv ρ,f1 ρ,f2 ρ with
 |some us,some d,some j,some k=>(match Ef us j k d with
  |some us'=>.nx (ρ.set i (.ob (.nst us')))
  |none=>.no)
 |_,_,_,_=>.no
section
variable {K:K7}{c:Ct}{hid:cj}{ρ:aJ}{σ:St}{H:Hp}{a:Addr}
theorem Paired.get {α β:Type}{F:α->β->Prop}: ∀ {l₁:List α} {l₂:List β} {i:Nat} {y:β},Paired F l₁ l₂->l₂[i]? =some y-> ∃x,l₁[i]? =some x/\F x y
 |_,_,_,_,.nil,e=>by simp at e
 |_,_,0,_,.cons r _,e=>by simp at e;subst e;exact⟨_,rfl,r⟩
 |_,_,i+1,y,.cons _ t,e=>by
  obtain⟨u,h1,h2⟩:=Paired.get (i:=i) (y:=y) t (by simpa using e)
  exact⟨u,by simpa using h1,h2⟩
theorem Paired.len {α β:Type}{F:α->β->Prop}: ∀ {l₁:List α} {l₂:List β},Paired F l₁ l₂->l₁.length=l₂.length
 |_,_,.nil=>rfl
 |_,_,.cons _ t=>by simp[Paired.len t]
theorem Paired.setN {F G:Addr->NO->Prop}: ∀ {bs:List Addr} {us:List NO} {i:Nat} {d:Addr} {u':NO},bs.Nodup->Paired F bs us->bs[i]? =some d->G d u'->(∀b u,b≠d->F b u->G b u)->Paired G bs (us.set i u')
 |_,_,_,_,_,_,.nil,e,_,_=>by simp at e
 |_,_,0,d,u',n,.cons r t,e,g,k=>by
  simp at e;subst e;refine .cons g ?_
  have nb:=(Ma.mp n).1
  clear r n g
  induction t with
  |nil=>exact .nil
  |cons r' t' ih=>
   rw[Ll,not_or] at nb;exact .cons (k _ _ (λe=>nb.1 e.symm) r') (ih nb.2)
 |b::bs,_,i+1,d,u',n,.cons r t,e,g,k=>by
  have e':bs[i]? =some d:=by simpa using e
  refine .cons (k _ _ (λz=>?_) r) (Paired.setN (Ma.mp n).2 t e' g k)
  subst z;exact(Ma.mp n).1 (OD e')
theorem SR.nst(h:SR K c hid ρ σ H){i:Nat}{us:List NO}(e:qG i ρ=some us): ∃a bs,σ[i]? =some (some (.ref a))/\(hid a=true/\c.H₀ a=none)/\H a=some (.lst (bs.map V.ref))/\bs.Nodup/\Paired (NOk K c hid H a) bs us:=by
 obtain⟨a,h1,h2,bs,h3,h4,h5⟩:=h.sl i _ (jg e)
 exact⟨a,bs,h1,h2,h3,h4,h5⟩
theorem NOk.at {b:Addr}{u:NO}(h:NOk K c hid H a b u):(hid b=true/\c.H₀ b=none)/\ ∃o,H b=some (.nst a o):=by
 cases u with
 |l ds=>obtain⟨h1,_,h2,_⟩:=h;exact⟨h1,_,h2⟩
 |k kvs=>obtain⟨h1,_,h2,_⟩:=h;exact⟨h1,_,h2⟩
theorem SR.putN {i q:Nat}{us:List NO}{u':NO}{bs:List Addr}{d:Addr}{o':HO}(h:SR K c hid ρ σ H)(hg:qG i ρ=some us)(ha:σ[i]? =some (some (.ref a)))(hb:H a=some (.lst (bs.map V.ref)))(nd:bs.Nodup)(pr:Paired (NOk K c hid H a) bs us)(hd:bs[q]? =some d)
 (hx: ∃o,H d=some (.nst a o)) (h2:hid d=true) (h3:c.H₀ d=none) (nt: ∀xs,o'≠ .tup xs) (new:NOk K c hid (bI H d o') a d u'):SR K c hid (ρ.set i (.ob (.nst (us.set q u')))) σ (bI H d o'):=by
 obtain⟨a2,g1,g2,_⟩:=h.sl i _ (jg hg)
 rw[ha] at g1;cases g1;obtain⟨o,hx⟩:=hx
 have ne:a≠d:=λe=>by subst e;rw[hb] at hx;cases hx
 refine h.putO (jg hg) trivial trivial ha (.inr ⟨o,hx⟩) h2 h3 nt ⟨g2,bs,by rw[aF ne];exact hb,nd,Paired.setN nd pr hd new λb u n r=>?_⟩
 exact r.mono (λv q=>by rw[aF n];exact q) (by rw[eY h2];exact Same.refl _) λ_=>r.at.1.1
end
section
variable {X:Cx}{c:Ct}{k k1 k2:Kd}{e1 e2 ev:Expr}{f1 f2 fv:FE}{pos pos' py pos2:Pos}{x y:Str}
theorem yA {bs:List Addr}{j:Int}{q:Nat}{d:Addr}(e:rl bs.length j=some q)(e2:bs[q]? =some d):pU (bs.map V.ref) j=some (.ref d):=by
 unfold pU;rw[K5,e];show(bs.map V.ref)[q]? =_;rw[Ln,e2];rfl
theorem yc(i:Nat)(hu:X.A.units+1<M4)(h1:DP X c k1 e1 f1)(h2:DP X c k2 e2 f2)(hv:DP X c .s ev fv)(hN:X.N[i]? =some y:=by rfl)(hv':zg X.env.scope y:=by first|exact MQ rfl|exact Mk (MQ rfl)|exact Mk (Mk rfl))(hd:(y==("__debug__":Str))=false:=by decide)
 (hcd:(y==("__classdict__":Str))=false:=by decide) (hp:me e1:=by exact λ_ _=>rfl) (hs:MS ev (some (.Subscript (.Subscript (.Name y py) e1 pos2) e2 pos')) pos.line X.env=pure false:=by rfl):
 DS X c k (.Assign [.Subscript (.Subscript (.Name y py) e1 pos2) e2 pos'] ev pos) (pp i f1 f2 fv):=λρ=>PS.imp (Eg (Eb hu) (yJ (aH (X:=X)) (pv i hN hv' hd hcd) (nT λhid=>h1 hid ρ) hp) (nT λhid=>h2 hid ρ) (nT λhid=>hv hid ρ) hs) λD σ H hq_=>by
 obtain⟨hid,sr,q⟩:=hq_
 unfold pp at q;split at q
 ·rename_i us d j kk e0 g1 g2 g3
  split at q
  ·rename_i us' g4
   unfold Ef at g4;split at g4
   ·rename_i jj
    obtain⟨qq,g5,g4⟩:=Lo.mp g4
    obtain⟨u,g6,g4⟩:=Lo.mp g4
    obtain⟨u',g7,rfl⟩:=Mu.mp g4
    obtain⟨a,bs,a1,a2,a3,a4,a5⟩:=sr.nst e0
    obtain⟨b,b1,b2⟩:=L2.Paired.get a5 g6
    refine⟨hid,sr,d,g1,λv H1 s1 r1=>⟨.ref a,a1,hid,sr.ext s1,_,g2,λz H2 s2 r2=>?_⟩⟩
    have sr2:=(sr.ext s1).ext s2
    have i1:=(RK.b k1 r2 λa n=>(sr.ext s1).fresh n).int
    cases i1
    refine .inl ⟨a,bs.map V.ref,jj,.ref b,rfl,rfl,SqL.of ((s1.trans s2) _ _ a3),yA (by rw[(L2.Paired.len a5)];exact g5) b1,hid,sr2,_,g3,λw H3 s3 r3=>?_⟩
    have s13:=(s1.trans s2).trans s3
    have sr3:=sr2.ext s3
    have r1':Rep X.K (vw H3 hid) v d:=Rep.mono (aV (s2.trans s3)) r1
    have rk:=RK.b k2 r3 λa n=>sr2.fresh n
    have pr3:Paired (NOk X.K c hid H3 a) bs us:=Paired.mapP a5 λx y z=>z.mono (λ_ w=>s13 _ _ w) (aV s13) λ_=>z.at.1.1
    have bt:=b2.at
    have fin: ∀o',(∀xs,o'≠ .tup xs)->NOk X.K c hid (bI H3 b o') a b u'->D.nx σ (bI H3 b o'):=λo' nt new=>
     q _ _ hid (sr3.putN e0 a1 (s13 _ _ a3) a4 pr3 b1 (let⟨o,ho⟩:=bt.2;⟨o,s13 _ _ ho⟩) bt.1.1 bt.1.2 nt new) (by rw[eY bt.1.1];exact aV s13)
    cases u with
    |k kvs=>
     obtain⟨key,g8,g7⟩:=Lo.mp g7
     split at g7
     ·rename_i hz
      cases g7
      obtain⟨j2,rfl,rfl⟩:=q9 g8
      cases rk.int
      obtain⟨_,vs,w1,w2,w3⟩:=b2
      have kr:KRl X.K (vw H3 hid) vs kvs:=⟨w2,w3.mono (aV s13)⟩
      refine⟨b,a,rfl,.inl ⟨vs,Ov j2,rfl,s13 _ _ w1,by rw[kr.len];exact N3 hz (by decide),fin _ nofun ⟨bt.1,_,aP,?_⟩⟩⟩
      rw[eY bt.1.1];exact KRl.put (Ov j2) r1' kr
     ·cases g7
    |l ds=>
     cases kk with
     |int j2=>
      obtain⟨q2,g8,rfl⟩:=Mu.mp g7
      cases rk.int
      obtain⟨_,xs,w1,w2⟩:=b2
      have w2':=w2.mono (aV s13)
      refine⟨b,a,rfl,.inr ⟨xs,j2,q2,rfl,s13 _ _ w1,by rw[w2'.length];exact g8,fin _ nofun ⟨bt.1,_,aP,?_⟩⟩⟩
      rw[eY bt.1.1];exact Reps.set r1' q2 w2'
     |_=>cases g7
   ·cases g4
  ·exact q.elim
 ·exact q.elim
end
section
variable {K:K7}{c:Ct}{hid:cj}{ρ:aJ}{σ:St}{H:Hp}{a x:Addr}
theorem rV {b:Addr}(h:iN hid x b=true):hid b=true/\b≠x:=by
 unfold iN at h;rw[Lk] at h;exact⟨h.1,by simpa using h.2⟩
theorem lh {b:Addr}(n:b≠x):iN hid x b=hid b:=by unfold iN;simp[n]
theorem o5 {u':HO}(hh:hid x=true):Same (vw H hid) (vw (bI H x u') (iN hid x)):=λb o q=>by
 obtain⟨q1,q2⟩:=vw_some.mp q
 have n:b≠x:=λe=>by subst e;rw[hh] at q1;cases q1
 exact vw_some.mpr ⟨by rw[lh n];exact q1,by rw[aF n];exact q2⟩
theorem Fm {u':HO}:vw (bI H x u') (iN hid x) x=some u':=vw_some.mpr ⟨by unfold iN;simp,aP⟩
theorem SR.reveal {u':HO}(h:SR K c hid ρ σ H)(hh:hid x=true)(h0:c.H₀ x=none)(no: ∀(i:Nat) a',Ow ρ[i]? ->σ[i]? =some (some (.ref a'))-> ¬At H a' x):SR K c (iN hid x) ρ σ (bI H x u'):=by
 have sm:Same (vw H hid) (vw (bI H x u') (iN hid x)):=o5 hh
 have n0: ∀b o,c.H₀ b=some o->b≠x:=λb o q e=>by subst e;rw[h0] at q;cases q
 have ne: ∀(i:Nat) (s:Sl) (a' y:Addr),ρ[i]? =some s->Ow (some s)->σ[i]? =some (some (.ref a'))->At H a' y->y≠x:=λi s a' y e o q hy z=>by
  subst z;exact no i a' (by rw[e];exact o) q hy
 refine⟨λb hb=>?_,λb xs hb=>?_,λb hb=>?_,λb o q m=>by rw[aF (n0 b o q)];exact h.kp b o q m,λb o q=>by rw[aF (n0 b o q)];exact h.t0 b o q,h.c0,h.m0,h.len,λi s e=>?_,h.ap⟩
 ·obtain⟨h1,h2⟩:=rV hb
  rw[aF h2];exact h.tr b h1
 ·obtain⟨h1,h2⟩:=rV hb
  rw[aF h2];exact h.ht b xs h1
 ·obtain⟨o,q⟩:=h.c0 b hb
  rw[lh (n0 b o q)];exact h.h0 b hb
 ·have z:=h.sl i s e
  cases s with
  |no=>trivial
  |v d=>obtain⟨x,h1,h2⟩:=z;exact⟨x,h1,h2.mono sm⟩
  |own ds=>
   obtain⟨a',xs,h1,h2,h3,h4,h5⟩:=z
   have n:=ne i _ a' a' e trivial h1 (.inl rfl)
   exact⟨a',xs,h1,by rw[aF n];exact h2,by rw[lh n];exact h3,h4,h5.mono sm⟩
  |arg ds=>
   obtain⟨a',xs,h1,h2,h3,h4,h5⟩:=z
   have n:=ne i _ a' a' e trivial h1 (.inl rfl)
   exact⟨a',xs,h1,by rw[aF n];exact h2,by rw[lh n];exact h3,h4,h5.mono sm⟩
  |ob b=>
   obtain⟨a',h1,h2⟩:=z
   exact⟨a',h1,h2.mono (λow y hy o q=>by rw[aF (ne i _ a' y e ow h1 hy)];exact q) sm λow y hy q=>by rw[lh (ne i _ a' y e ow h1 hy)];exact q⟩
theorem SR.mark {i:Nat}{s:Sl}(h:SR K c hid ρ σ H)(hs:SlOk K c hid σ H i s)(no: ¬Ow (some s)):SR K c hid (ρ.set i s) σ H:=by
 have ow: ∀j:Nat,Ow (ρ.set i s)[j]? ->Ow ρ[j]? :=λj o=>by
  by_cases e:j=i
  ·subst e
   by_cases lt:j<ρ.length
   ·rw[Lg lt] at o;exact absurd o no
   ·rw[LP (by simpa using lt)] at o;exact o.elim
  ·rw[K9 (Lw e)] at o;exact o
 refine⟨h.tr,h.ht,h.h0,h.kp,h.t0,h.c0,h.m0,by simp[h.len],λj s' e=>?_,λj l z n o1 o2=>h.ap j l z n (ow j o1) (ow l o2)⟩
 by_cases ej:j=i
 ·subst ej
  have lt:j<ρ.length:=by
   have:=(Lp.mp e).1
   simpa using this
  rw[Lg lt] at e;cases e
  exact hs
 ·rw[K9 (Lw ej)] at e
  exact h.sl j s' e
theorem SR.kind {j:Nat}{s:Sl}(h:SR K c hid ρ σ H)(e:ρ[j]? =some s)(o:Ow (some s))(q:σ[j]? =some (some (.ref a))): ∃u,H a=some u/\ ∀p v,u≠ .nst p v:=by
 have z:=h.sl j s e
 cases s with
 |no=>exact o.elim
 |v d=>exact o.elim
 |own ds=>obtain⟨a',xs,h1,h2,_⟩:=z;rw[q] at h1;cases h1;exact⟨_,h2,nofun⟩
 |arg ds=>obtain⟨a',xs,h1,h2,_⟩:=z;rw[q] at h1;cases h1;exact⟨_,h2,nofun⟩
 |ob b=>obtain⟨a',h1,h2⟩:=z;rw[q] at h1;cases h1;exact h2.kind o
end
def JW:NO->Option (List D)
 | .l ds=>some ds
 |_=>none
theorem Paired.mem {α β:Type}{F:α->β->Prop}: ∀ {l₁:List α} {l₂:List β} {x:α},Paired F l₁ l₂->x∈l₁-> ∃y,F x y
 |_,_,_,.nil,e=>by cases e
 |_,_,_,.cons r t,e=>by
  rcases Ll.mp e with rfl|e
  ·exact⟨_,r⟩
  ·exact Paired.mem t e
theorem Paired.off {α β:Type}{F G:α->β->Prop}: ∀ {l₁:List α} {l₂:List β},Paired F l₁ l₂->(∀x y,x∈l₁->F x y->G x y)->Paired G l₁ l₂
 |_,_,.nil,_=>.nil
 |_,_,.cons r t,k=>.cons (k _ _ Lu r) (Paired.off t λx y h=>k x y (Lb _ h))
section
variable {X:Cx}{c:Ct}{af:List (Addr×Obj)}{σ:St}{s:KZ}{a:Addr}{β:Type}{conv:NO->Option β}{R:Hp->Addr->β->Prop}
def Bw(X:Cx)(c:Ct)(af:List (Addr×Obj))(σ:St)(s:KZ)(conv:NO->Option β)(R:Hp->Addr->β->Prop):Prop:=
 (∀W W' b v,Same W W'->R W b v->R W' b v)/\ ∀hid H a b u v,NOk X.K c hid H a b u->conv u=some v->Inv X af σ H s-> ∃u',(∀p w,u'≠ .nst p w)/\Inv X af σ (bI H b u') s/\ ∀W,W b=some u'->Same (vw H hid) W->R W b v
theorem DQ:Bw X c af σ s JW (λW b ds=>Rep X.K W (.ref b) (.lst ds)):=by
 refine⟨λW W' b v sm h=>h.mono sm,λhid H a b u v n e I=>?_⟩
 cases u with
 |k ds=>cases e
 |l kvs=>
  cases e
  obtain⟨_,us,h1,h2⟩:=n
  exact⟨.lst us,nofun,I.unnest h1,λW hW sm=>.lst hW (h2.mono sm)⟩
theorem zm(L:Bw X c af σ s conv R){ρ:aJ}: ∀ {bs:List Addr} {us:List NO} {vs:List β} {hid:cj} {H:Hp},Paired (NOk X.K c hid H a) bs us->us.mapM conv=some vs->bs.Nodup->(∀b∈bs,∀(i:Nat) a',Ow ρ[i]? ->σ[i]? =some (some (.ref a'))-> ¬At H a' b)->
 Inv X af σ H s->SR X.K c hid ρ σ H-> ∃H' hid',Inv X af σ H' s/\SR X.K c hid' ρ σ H'/\Same (vw H hid) (vw H' hid')/\Paired (R (vw H' hid')) bs vs/\(∀y,y∉bs->H' y=H y/\hid' y=hid y)/\ ∀y p w,H' y=some (.nst p w)->H y=some (.nst p w):=by
 intro bs
 induction bs with
 |nil=>
  intro us vs hid H pr e nd no I sr;cases pr
  cases e
  exact⟨H,hid,I,sr,Same.refl _,.nil,λy _=>⟨rfl,rfl⟩,λ_ _ _ q=>q⟩
 |cons b bs ih=>
  intro us vs hid H pr e nd no I sr;cases pr
  rename_i u us r t;rw[Sb] at e;obtain⟨v,e1,e⟩:=Lo.mp e
  obtain⟨vs',e2,e⟩:=Lo.mp e
  cases e
  obtain⟨u',n',I1,hR⟩:=L.2 hid H a b u v r e1 I
  have hb:=r.at.1
  have sr1:=sr.reveal (u':=u') hb.1 hb.2 (no b Lu)
  have sm1:Same (vw H hid) (vw (bI H b u') (iN hid b)):=o5 hb.1
  obtain⟨nb,nd'⟩:=Ma.mp nd
  have back: ∀y p w,bI H b u' y=some (.nst p w)->H y=some (.nst p w):=λy p w q=>by
   by_cases ey:y=b
   ·subst ey;rw[aP] at q;cases q;exact absurd rfl (n' _ _)
   ·rw[aF ey] at q;exact q
  have t1:Paired (NOk X.K c (iN hid b) (bI H b u') a) bs us:=by
   refine L2.Paired.off t λb2 u2 hb2 r2=>?_
   have n2:b2≠b:=λz=>by subst z;exact nb hb2
   exact r2.mono (λw q=>by rw[aF n2];exact q) sm1 λ_=>by rw[lh n2];exact r2.at.1.1
  obtain⟨H',hid',I2,sr2,sm2,pr2,k2,b2⟩:=ih t1 e2 nd' (λb' hb' i a' o q hat=>no b' (Lb _ hb') i a' o q (hat.imp id λ⟨w,hw⟩=>⟨w,back _ _ _ hw⟩)) I1 sr1
  refine⟨H',hid',I2,sr2,sm1.trans sm2,.cons (L.1 _ _ _ _ sm2 (hR _ Fm sm1)) pr2,λy hy=>?_,λy p w q=>back _ _ _ (b2 y p w q)⟩
  rw[Ll,not_or] at hy;obtain⟨k3,k4⟩:=k2 y hy.2
  exact⟨k3.trans (aF hy.1),k4.trans (lh hy.1)⟩
theorem AD {H:Hp}{x:Addr}{o:HO}(e:H x=some o):bI H x o=H:=by
 funext b
 by_cases eb:b=x
 ·subst eb;rw[aP,e]
 ·exact aF eb
theorem SR.letgo(L:Bw X c af σ s conv R){ρ:aJ}{hid:cj}{H:Hp}{i:Nat}{us:List NO}{vs:List β}(sr:SR X.K c hid ρ σ H)(hg:qG i ρ=some us)(e:us.mapM conv=some vs)(I:Inv X af σ H s):
 ∃H' hid' bs,Inv X af σ H' s/\SR X.K c hid' (ρ.set i .no) σ H'/\Same (vw H hid) (vw H' hid')/\Paired (R (vw H' hid')) bs vs/\σ[i]? =some (some (.ref a))/\vw H' hid' a=some (.lst (bs.map V.ref))\/σ[i]? ≠some (some (.ref a)):=by
 by_cases ea:σ[i]? =some (some (.ref a))
 ·obtain⟨a1,bs,h1,h2,h3,h4,h5⟩:=sr.nst hg
  rw[ea] at h1;cases h1;have sr0:SR X.K c hid (ρ.set i .no) σ H:=sr.forget (by simp) λj s' q=>by
   by_cases ej:j=i
   ·subst ej
    rw[Lg (Lp.mp (jg hg)).1] at q;cases q;exact .inl rfl
   ·rw[K9 (Lw ej)] at q;exact .inr q
  have nw: ∀(j:Nat) a',Ow (ρ.set i .no)[j]? ->σ[j]? =some (some (.ref a'))->a'≠a/\ ∃u,H a'=some u/\ ∀p v,u≠ .nst p v:=λj a' o q=>by
   have ej:j≠i:=λz=>by
    subst z;rw[Lg (Lp.mp (jg hg)).1] at o;exact o
   rw[K9 (Lw ej)] at o;refine⟨λz=>?_,?_⟩
   ·subst z;exact sr.ap j i a' ej o (by rw[jg hg];trivial) q ea
   ·cases w:ρ[j]? with
    |none=>rw[w] at o;exact o.elim
    |some s'=>rw[w] at o;exact sr.kind w o q
  have hn: ∀b∈bs,∃o,H b=some (.nst a o):=λb hb=>let⟨_,r⟩:=L2.Paired.mem h5 hb;r.at.2
  obtain⟨H',hid',I',sr',sm',pr',k',b'⟩:=zm L h5 e h4 (λb hb j a' o q hat=>by
   obtain⟨n1,w,n2,n3⟩:=nw j a' o q
   obtain⟨ob,hob⟩:=hn b hb
   rcases hat with z|⟨w',hw'⟩
   ·subst z;rw[n2] at hob;exact n3 _ _ (LH hob)
   ·rw[hob] at hw';cases hw';exact n1 rfl) I sr0
  have na:a∉bs:=λhb=>by obtain⟨ob,hob⟩:=hn a hb;rw[h3] at hob;cases hob
  obtain⟨k1,k2⟩:=k' a na
  have e3:H' a=some (.lst (bs.map V.ref)):=k1.trans h3
  have hh:hid' a=true:=k2.trans h2.1
  have sr2:=sr'.reveal (u':=.lst (bs.map V.ref)) hh h2.2 λj a' o q hat=>by
   obtain⟨n1,_⟩:=nw j a' o q
   rcases hat with z|⟨w',hw'⟩
   ·exact n1 z.symm
   ·rw[e3] at hw';cases hw'
  have sm2:Same (vw H' hid') (vw (bI H' a (.lst (bs.map V.ref))) (iN hid' a)):=o5 hh
  have at2:vw (bI H' a (.lst (bs.map V.ref))) (iN hid' a) a=some (.lst (bs.map V.ref)):=Fm
  rw[AD e3] at sr2 sm2 at2;exact⟨H',iN hid' a,bs,.inl ⟨I',sr2,sm'.trans sm2,Paired.mapP pr' λb v r=>L.1 _ _ _ _ sm2 r,ea,at2⟩⟩
 ·exact⟨H,hid,[],.inr ea⟩
end
section
variable {X:Cx}{c:Ct}{k:Kd}{st:Stmt}{t:FS}
theorem EA {ρ:aJ}{i:Nat}{a b:Sl}:(ρ.set i a).set i b=ρ.set i b:=by simp
def IO(i:Nat)(ρ:aJ):Option aJ:=(qG i ρ).bind λus=>(us.mapM JW).map λl=>ρ.set i (.v (.lst (l.map D.lst)))
def vS(i:Nat)(t:FS):FS:=λρ=>match IO i ρ with
 |some ρ'=>t ρ'
 |none=>.no
theorem sG {W:Hp}: ∀ {bs:List Addr} {l:List (List D)},Paired (λb ds=>Rep X.K W (.ref b) (.lst ds)) bs l->Reps X.K W (bs.map V.ref) (l.map D.lst)
 |_,_,.nil=>.nil
 |_,_,.cons r t=>.cons r (sG t)
theorem Ew(i:Nat)(h:DS X c k st t):DS X c k st (vS i t):=λρ af s σ H D I hq_=>by
 obtain⟨hid,sr,q⟩:=hq_
 unfold vS at q;split at q
 ·rename_i ρ' e
  obtain⟨us,e0,e⟩:=Lo.mp e
  obtain⟨l,e1,rfl⟩:=Mu.mp e
  obtain⟨a,_,a1,_⟩:=sr.nst e0
  obtain⟨H',hid',bs,⟨I',sr',sm,pr,_,ha⟩|z⟩:=sr.letgo (a:=a) (DQ (X:=X)) e0 e1 I
  ·refine h _ af s σ H' D I' ⟨hid',?_,q.mono sm⟩
   have:=sr'.mark (i:=i) (s:=.v (.lst (l.map L2.D.lst))) ⟨_,a1,.lst ha (sG pr)⟩ id
   rwa [EA] at this
  ·exact absurd a1 z
 ·exact q.elim
end
theorem Paired.app1 {α β:Type}{F:α->β->Prop}{x:α}{y:β}(h:F x y): ∀ {l₁:List α} {l₂:List β},Paired F l₁ l₂->Paired F (l₁++[x]) (l₂++[y])
 |_,_,.nil=>.cons h .nil
 |_,_,.cons r t=>.cons r (Paired.app1 h t)
abbrev Dx:=Hp->Hp->HO->List D->Prop
structure ACm(AC:Dx):Prop where
 m: ∀ {L W W' o ad},Same W W'->AC L W o ad->AC L W' o ad
 l: ∀ {L L' W o ad},Same L L'->AC L' W o ad->AC L W o ad
def wV(Y:Cx)(c:Ct)(hid:cj)(D0:Addr)(L W:Hp)(AC:Dx)(A:FA)(TA:rK)(ρ1:aJ):Prop:= ∀(af:List (Addr×Obj)) (s:KZ) (σ:St) (H:Hp) (o:HO) (ad zs:List D) (Q:KZ->Prop),Inv Y af σ H s->SR Y.K c hid ρ1 σ H->
 H D0=some o->AC L (vw H hid) o ad->ad.length+zs.length<=Lm->Same L H->Same W (vw H hid)->(∀i:Nat,Ow ρ1[i]? ->σ[i]? ≠some (some (.ref D0)))->A ρ1=some zs->
 (∀(s':KZ) (σ':St) (H':Hp) (o':HO),Inv Y af σ' H' s'->SR Y.K c hid ρ1 σ' H'->H' D0=some o'->AC L (vw H' hid) o' (ad++zs)->Same L H'->Same (vw H hid) (vw H' hid)->(∀i:Nat,Ow ρ1[i]? ->σ'[i]? ≠some (some (.ref D0)))->Q s')->TA Q s
section
variable {Y:Cx}{c:Ct}{tg:Expr}{ifs:List Expr}{g:FG}{p:FT}{A:FA}{TA:rK}{code:Code}{AC:Dx}
structure CLA(Y:Cx)(af:List (Addr×Obj))(c:Ct)(hid:cj)(ρ0:aJ)(L W H3:Hp)(D0:Addr)(fp:List Addr)(tn:Nat->Heap->Prop)(AC:Dx)(g:FG)(p:FT)(A:FA)(ds ys ad0:List D)(n i:Nat)(o:HO)(ad:List D)(σ':St)(H':Hp)(s':KZ):Prop where
 e:n=ds.length-i
 hi:i<=ds.length
 I:Inv Y af σ' H' s'
 st:tn i s'.heap
 fr: ∀b∈fp,H' b=none
 sr:SR Y.K c hid ρ0 σ' H'
 sm:Same L H'
 ac:H' D0=some o
 rp:AC L (vw H' hid) o ad
 w:Same W (vw H' hid)
 v:Same (vw H3 hid) (vw H' hid)
 na: ∀i:Nat,Ow ρ0[i]? ->σ'[i]? ≠some (some (.ref D0))
 go: ∃rest,lX g p A ρ0 (ds.drop i)=some rest/\ad++rest=ad0++ys
theorem sk(M:ACm AC)(hcalm:Y.calm=true)(hxe:Y.xe=λ_ _=>False){n0:Nat}(hT:iV n0 g)(hg:pO Y c tg g)(hp:pX Y c ifs p)
 {af:List (Addr×Obj)} {σ3:St} {H3 L W:Hp} {s4:KZ} {hid:cj} {ρ0:aJ} {J:It} {it D0:Addr} {fp:List Addr} {tn:Nat->Heap->Prop} {ds ys ad0:List D} {o0:HO} {R:Oa->KZ->Prop}
 (hA: ∀d ρ1,g d ρ0=some ρ1->wV Y c hid D0 L W AC A TA ρ1)
 (hN:DV n0 ρ0) (I:Inv Y af σ3 H3 s4) (sr:SR Y.K c hid ρ0 σ3 H3) (hh:hid D0=true) (na: ∀i:Nat,Ow ρ0[i]? ->σ3[i]? ≠some (some (.ref D0))) (hacc:H3 D0=some o0) (rp0:AC L (vw H3 hid) o0 ad0) (sm:Same L H3) (wv:Same W (vw H3 hid)) (T:Turn Y.prog Y.w Y.K tg J fp it tn) (st:tn 0 s4.heap) (hF: ∀b∈fp,kf Y af H3 b)
 (io:Em Y.K L W J ds) (hz:ad0.length+ys.length<=Lm) (hc:lX g p A ρ0 ds=some ys)
 (hTP:nC Y.prog Y.w Y.A code tg ifs (.ref it) Y.env TA R)
 (hR: ∀(s':KZ) (σ':St) (H':Hp) (o:HO),Inv Y af σ' H' s'->SR Y.K c hid ρ0 σ' H'->Same L H'->H' D0=some o->AC L (vw H' hid) o (ad0++ys)->Same (vw H3 hid) (vw H' hid)->(∀i:Nat,Ow ρ0[i]? ->σ'[i]? ≠some (some (.ref D0)))->R (.ok .next) s'):
 Mg (model Y.prog Y.w) Y.A code R s4:=by
 have stat: ∀ {H':Hp},(∀b∈fp,H' b=none)-> ∀b∈fp,kf Y af H' b:=λ{H'} hn b hb=>⟨hn b hb,(hF b hb).2⟩
 refine hTP (λn s'=> ∃(i:Nat) (o:HO) (ad:List D) (σ':St) (H':Hp),CLA Y af c hid ρ0 L W H3 D0 fp tn AC g p A ds ys ad0 n i o ad σ' H' s') ?_ ds.length s4
  ⟨0,o0,ad0,σ3,H3,by simp,Na _,I,st,λb hb=>(hF b hb).1,sr,sm,hacc,rp0,wv,Same.refl _,na,ys,by simpa using hc,rfl⟩
 rintro n s5 ⟨i,xs,ad,σ5,H5,rfl,hi,I5,st5,f5,sr5,sm5,ac5,rp5,w5,v5,na5,rest,hc5,hy5⟩
 have wH:Same W H5:=w5.trans (gy _ _)
 by_cases hlt:i<ds.length
 ·have hd:ds[i]? =some ds[i]:=K0 hlt
  have e2:ds.drop i=ds[i]::ds.drop (i+1):=Ni hlt
  rw[e2] at hc5;unfold lX at hc5;obtain⟨go,yl⟩:=io.1 i ds[i] H5 hd sm5 wH
  refine cy (T.item Y rfl rfl rfl hcalm i af s5 σ5 H5 (λ_ _=>False) I5 (stat f5) st5 go) λr s6 hq_=>?_
  obtain⟨u,hr,h6⟩:=hq_
  subst hr;refine cy h6 λ_ s7 hq_=>?_
  obtain⟨x,H7,I7,r7,y7,st7,f7⟩:=hq_
  obtain⟨s7',rp⟩:=yl x H7 y7
  have rx:=rp hid sr5.tr w5
  have I7':=I7.pinned (stat f7) (T.obj _ _ st7)
  obtain⟨ρ1,e3,hc5⟩:=Lo.mp hc5
  obtain⟨b,e4,hc5⟩:=Lo.mp hc5
  obtain⟨tl1,tl2⟩:=hT _ _ _ e3
  have fg: ∀ {σ':St} {H':Hp},SR Y.K c hid ρ1 σ' H'->SR Y.K c hid ρ0 σ' H':=λ{σ' H'} z=>z.forget tl1 λj s e=>by
   by_cases hj:j<n0
   ·exact .inr ((tl2 j hj).trans e)
   ·exact .inl (hN j s (by omega) e)
  have ow01: ∀j:Nat,Ow ρ0[j]? ->Ow ρ1[j]? :=λj o=>by
   by_cases hj:j<n0
   ·rw[tl2 j hj];exact o
   ·exfalso
    cases e:ρ0[j]? with
    |none=>rw[e] at o;exact o
    |some s=>have:=hN j s (by omega) e;subst this;rw[e] at o;exact o
  have keepT: ∀ {σ':St} {H':Hp} {s':KZ},Inv Y (af++mT fp s7.heap) σ' H' s'->tn (i+1) s'.heap/\ ∀b∈fp,H' b=none:=λ{σ' H' s'} J'=>by
   refine⟨T.keep _ _ _ st7 λb hb o e=>(J'.pin (b,o) (Lx _ (Lx _ (fo hb e)))).1,λb hb=>?_⟩
   obtain⟨o,e,_⟩:=T.obj _ _ st7 b hb
   exact(J'.pin (b,o) (Lx _ (Lx _ (fo hb e)))).2.1
  refine cy (hxe▸hg hid ρ0 ds[i] _ s7 σ5 H7 x u (λσ' H'=>H'=H7/\SR Y.K c hid ρ1 σ' H7/\OwK ρ0 ρ1 σ5 σ') I7' r7 ⟨sr5.ext s7',rx,ρ1,e3,λσ' z o=>⟨rfl,z,o⟩⟩) λ_ s8 hq_=>?_
  obtain⟨σ8,H8,I8,e8,q8,o8⟩:=hq_
  subst e8;have na1: ∀j:Nat,Ow ρ1[j]? ->σ8[j]? ≠some (some (.ref D0)):=λj o=>by
   rw[(o8 j o).2];exact na5 j (o8 j o).1
  refine cy (hxe▸hp hid ρ1 _ s8 σ8 H8 (λb' H'=>b'=b/\Same H8 H') I8 ⟨q8,b,e4,λH' s'=>⟨rfl,s'⟩⟩) λok s9 hq_=>?_
  obtain⟨H9,I9,e9,sm9⟩:=hq_
  subst e9;have w9:Same (vw H5 hid) (vw H9 hid):=aV (s7'.trans sm9)
  cases ok with
  |false=>
   have hc5:lX g p A ρ0 (ds.drop (i+1))=some rest:=hc5
   obtain⟨k1,k2⟩:=keepT I9
   exact⟨ds.length- (i+1),by omega,i+1,xs,ad,σ8,H9,rfl,hlt,I9.unpinned,k1,k2,fg (q8.ext sm9),sm5.trans (s7'.trans sm9),sm9 _ _ (s7' _ _ ac5),M.m w9 rp5,w5.trans w9,v5.trans w9,λj o=>na1 j (ow01 j o),rest,hc5,hy5⟩
  |true=>
   have hc5:((A ρ1).bind λys=>(lX g p A ρ0 (ds.drop (i+1))).map (ys++ ·))=some rest:=hc5
   obtain⟨zs,e5,hc5⟩:=Lo.mp hc5
   obtain⟨rest',e6,rfl⟩:=Mu.mp hc5
   have l2:=congrArg OC hy5
   simp only[LJ] at l2;refine hA ds[i] ρ1 e3 _ s9 σ8 H9 xs ad zs _ I9 (q8.ext sm9) (sm9 _ _ (s7' _ _ ac5)) (M.m w9 rp5) (by omega) (sm5.trans (s7'.trans sm9)) (w5.trans w9) na1 e5 λs10 σ10 H10 xs' I10 q10 a10 rp10 smL v10 na10=>?_
   obtain⟨k1,k2⟩:=keepT I10
   exact⟨ds.length- (i+1),by omega,i+1,xs',ad++zs,σ10,H10,rfl,hlt,I10.unpinned,k1,k2,fg q10,smL,a10,rp10,(w5.trans w9).trans v10,(v5.trans w9).trans v10,λj o=>na10 j (ow01 j o),rest',e6,by rw[<-hy5];simp⟩
 ·have e:i=ds.length:=by omega
  subst e;rw[M8 (Ld _)] at hc5;cases hc5
  rw[Me] at hy5;subst hy5;refine cy (T.done Y rfl rfl rfl hcalm ds.length af s5 σ5 H5 (λ_ _=>False) I5 (stat f5) st5 (io.2 H5 sm5 wH)) λr s6 hq_=>?_
  obtain⟨hr,I6⟩:=hq_
  subst hr;exact hR s6 σ5 H5 xs I6 sr5 sm5 ac5 rp5 v5 na5
end
section
variable {X:Cx}{c:Ct}{e t1 i1:Expr}{ifs1:List Expr}{scope:MI}{pos:Pos}{N':List Str}{m:Nat}{gi1:FA}{g1:FG}{p1:FT}{A:FA}{AC:Dx}{make:Sem KU}{ob:Obj}{o0:HO}{TA:Addr->Env->rK}
theorem CJ(M:ACm AC)(hmk: ∀ {A:LC} {Q:KU->KZ->Prop} {E:KU->KZ->Prop} {s:KZ},Q (.ref s.heap.objs.size) {s with heap:=s.heap.push ob}->Lq (model X.prog X.w) A make Q E s)
 (ho0: ∀ {H:Hp} (h:Heap),M1<h.objs.size->ObjOk X.prog X.w H (h.push ob) h.objs.size o0) (hnt: ∀xs,o0≠ .tup xs) (ac0: ∀L W,AC L W o0 [])
 (hcalm:X.calm=true) (hk:scope.kind=.function) (hs:um scope X.env.scope=true) (hn:uq X.N N' scope=true) (hm:N'.length-X.N.length=m) (hT1:iV X.N.length g1)
 (hg1: ∀C s₀ H₀ ex,pO (aE X N' scope C s₀ H₀ ex) c t1 g1) (hp1: ∀C s₀ H₀ ex,pX (aE X N' scope C s₀ H₀ ex) c ifs1 p1)
 (hA: ∀C s₀ H₀ ex hid D0 L W ρ0 d ρ1,DV X.N.length ρ0->g1 d ρ0=some ρ1->hid D0=true->c.H₀ D0=none->L D0=none->wV (aE X N' scope C s₀ H₀ ex) c hid D0 L W AC A (TA D0 (aE X N' scope C s₀ H₀ ex).env) ρ1)
 (hTP: ∀C s₀ H₀ ex D0 it R,nC X.prog X.w X.A (.compLoop e 0 (.ref it) (.ref D0) (aE X N' scope C s₀ H₀ ex).env) t1 ifs1 (.ref it) (aE X N' scope C s₀ H₀ ex).env (TA D0 (aE X N' scope C s₀ H₀ ex).env) R)
 (hst: ∀ {A:LC} {it acc:KU} {env:Env} {R:Oa->KZ->Prop} {s:KZ},Mg (model X.prog X.w) A (.compLoop e 0 it acc env) R s->Lq (model X.prog X.w) A (OP it) (λit' s'=>Mg (model X.prog X.w) A (.compLoop e 0 it' acc env) R s') (RF (model X.prog X.w) A env λx s'=>R (.error x) s') s->Mg (model X.prog X.w) A (.compStart e 0 it acc env) R s)
 {E:KU->KZ->Prop} {af:List (Addr×Obj)} {σ:St} {H:Hp} {s:KZ} {hid:cj} {ρ:aJ} {J:It} {it:Addr} {fp:List Addr} {tn:Nat->Heap->Prop} {ds ys:List D} {RR:KU->Addr->Oa->KZ->Prop}
 (I:Inv X af σ H s) (sr:SR X.K c hid ρ σ H) (T:Turn X.prog X.w X.K t1 J fp it tn) (st:tn 0 s.heap) (hF: ∀b∈fp,kf X af H b) (io:Em X.K H (vw H hid) J ds) (hz:ys.length<=Lm) (hc:lX g1 p1 A (ρ++K1 m .no) ds=some ys)
 (hR: ∀(D C:Addr) (s':KZ) (H':Hp) (o:HO),s.heap.objs.size<=D->s.heap.objs.size<=C->D≠C->H D=none->Same H H'->H' D=some o->AC H (vw H' (cM hid D)) o ys->(∃m,s'.heap.Ns C m)->H' C=none->s'.os=s.os->NI s'.gens->HOk X.prog X.w H' s'.heap->Un (kj X.stack) fp H H' s.heap s'.heap->RR (.ref D) C (.ok .next) s'):
 Lq (model X.prog X.w) X.A make (λacc s₃=>Lq (model X.prog X.w) X.A (Of scope X.env.globals (tm X.env.cells scope.names []) [] X.env.qual none .none (some X.env)) (λcenv s₄=>
  Mg (model X.prog X.w) X.A (.compStart e 0 (.ref it) acc {cenv with scope:=Od scope X.env}) (RR acc cenv.locals) s₄) E s₃) E s:=by
 refine hmk (tu λh₁ hns₁ kp1 oc₁=>?_)
 dsimp only at hns₁ kp1 oc₁⊢
 generalize hH2:s.heap.push ob=H2 at hns₁ kp1 oc₁⊢
 have hC:H2.objs.size=s.heap.objs.size+1:=by rw[<-hH2,Mr]
 have hD:H s.heap.objs.size=none:=I.hok.fresh (Ld _)
 have I2:Inv X af σ (bI H s.heap.objs.size o0) {s with heap:=H2}:=by
  rw[<-hH2];exact I.laid (t':=s.toks) (λb o e=>K3 _ e) (Ld _) (ho0 s.heap I.big)
 have fpLt: ∀b∈fp,b<s.heap.objs.size:=λb hb=>let⟨o,e,_⟩:=T.obj 0 s.heap st b hb;Lh e
 have hF2: ∀b∈fp,kf X af (bI H s.heap.objs.size o0) b:=λb hb=>⟨by rw[aF (LF (fpLt b hb))];exact(hF b hb).1,(hF b hb).2⟩
 have kp0: ∀b o,s.heap.get? b=some o->H2.get? b=some o:=λb o e=>by rw[<-hH2];exact K3 _ e
 have IY:=qj (tk:=s.toks) (N':=N') (fp:=fp) I2 hF2 (λb hb=>let⟨o,e,_⟩:=T.obj 0 s.heap st b hb;⟨o,kp0 b o e⟩) hk hs hn hns₁ kp1 oc₁
 rw[hm] at IY;dsimp only at IY;have sr0:SR X.K c (cM hid s.heap.objs.size) (ρ++K1 m .no) (σ++K1 m none) (bI H s.heap.objs.size o0):=(sr.hide (bM hD _) hD aP hnt).more m
 have hρ:ρ.length=X.N.length:=by rw[<-sr.len];exact I.len
 have nf:hid s.heap.objs.size=false:=sr.fresh hD
 have st1:tn 0 h₁:=T.keep _ _ _ st λb hb o e=>kp1 b o (kp0 b o e)
 have na0: ∀i:Nat,Ow (ρ++K1 m Sl.no)[i]? ->(σ++K1 m none)[i]? ≠some (some (V.ref s.heap.objs.size)):=(sr.more m).notOw nf
 have wv:Same (vw H hid) (vw (bI H s.heap.objs.size o0) (cM hid s.heap.objs.size)):=by rw[tT hD];exact Same.refl _
 have nos:DV X.N.length (ρ++K1 m Sl.no):=λi s hi e=>by
  rw[LQ (by omega),LV] at e
  split at e
  ·cases e;rfl
  ·cases e
 have loop: ∀s4:KZ,s4={s with heap:=h₁,toks:=s.toks}->
  Mg (model X.prog X.w) X.A (.compLoop e 0 (.ref it) (.ref s.heap.objs.size) (Pe scope (oO X.env.cells scope H2.objs.size) H2.objs.size X.env)) (RR (.ref s.heap.objs.size) H2.objs.size) s4:=by
  rintro s4 rfl
  have fpY: ∀b∈fp,kf (aE X N' scope H2.objs.size {s with heap:=H2} (bI H s.heap.objs.size o0) fp) [] (bI H s.heap.objs.size o0) b:=λb hb=>
   ⟨(hF2 b hb).1,(IY.ok.exf b hb).1,IY.ok.exfs b hb,.inl hb,(IY.ok.exf b hb).2,λq hq=>by have hq':q∈([]:List (Addr×Obj))++[]:=hq;simp at hq'⟩
  refine sk (Y:=aE X N' scope H2.objs.size {s with heap:=H2} (bI H s.heap.objs.size o0) fp) (L:=H) (hid:=cM hid s.heap.objs.size) (W:=vw H hid) (ad0:=[]) (o0:=o0) (A:=A) (TA:=TA s.heap.objs.size (Pe scope (oO X.env.cells scope H2.objs.size) H2.objs.size X.env))
   M hcalm rfl hT1 (hg1 _ _ _ _) (hp1 _ _ _ _) (λd ρ1 e=>hA H2.objs.size {s with heap:=H2} (bI H s.heap.objs.size o0) fp _ _ _ _ _ d ρ1 nos e fF (sr.fresh0 hD) hD) nos IY sr0 fF na0 aP (ac0 _ _) (bM hD _) wv T st1 fpY io (by simpa using hz) hc (hTP H2.objs.size {s with heap:=H2} (bI H s.heap.objs.size o0) fp _ _ _) ?_
  intro s' σ' H' o I' _ sm' hx' rp' _ _;have un1:Un (kj X.stack) fp H (bI H s.heap.objs.size o0) s.heap H2:=Un.laid (λb o e=>kp0 b o e) (Ld _) hD
  exact hR s.heap.objs.size H2.objs.size s' H' o (Ld _) (by rw[hC];exact Nz _) (by rw[hC];exact LF (LY _)) hD sm' hx' rp' (let⟨m,hm,_⟩:=I'.loc;⟨m,hm⟩) I'.free I'.os I'.bare I'.hok (un1.trans I'.base)
 exact hst (loop _ rfl) (T.self X.A 0 _ _ _ st1 (loop _ rfl))
def Jv(X:Cx)(c:Ct)(AC:Dx)(m:Nat)(gi1:FA)(g1:FG)(p1:FT)(A:FA)(hid:cj)(ρ:aJ):TE:=λσ H Q=>SR X.K c hid ρ σ H/\ ∃ds ys,gi1 ρ=some ds/\lX g1 p1 A (ρ++K1 m .no) ds=some ys/\ys.length<=Lm/\
 ∀(D:Addr) (H':Hp) (o:HO),H D=none->Same H H'->H' D=some o->AC H (vw H' (cM hid D)) o ys->Q (.ref D) H'
theorem Hi(M:ACm AC)(hmk: ∀ {A:LC} {Q:KU->KZ->Prop} {E:KU->KZ->Prop} {s:KZ},Q (.ref s.heap.objs.size) {s with heap:=s.heap.push ob}->Lq (model X.prog X.w) A make Q E s)
 (ho0: ∀ {H:Hp} (h:Heap),M1<h.objs.size->ObjOk X.prog X.w H (h.push ob) h.objs.size o0) (hnt: ∀xs,o0≠ .tup xs) (ac0: ∀L W,AC L W o0 [])
 (hcalm:X.calm=true) (hk:scope.kind=.function) (hs:um scope X.env.scope=true) (hn:uq X.N N' scope=true) (hm:N'.length-X.N.length=m) (hT1:iV X.N.length g1)
 (hg1: ∀C s₀ H₀ ex,pO (aE X N' scope C s₀ H₀ ex) c t1 g1) (hp1: ∀C s₀ H₀ ex,pX (aE X N' scope C s₀ H₀ ex) c ifs1 p1)
 (hA: ∀C s₀ H₀ ex hid D0 L W ρ0 d ρ1,DV X.N.length ρ0->g1 d ρ0=some ρ1->hid D0=true->c.H₀ D0=none->L D0=none->wV (aE X N' scope C s₀ H₀ ex) c hid D0 L W AC A (TA D0 (aE X N' scope C s₀ H₀ ex).env) ρ1)
 (hTP: ∀C s₀ H₀ ex D0 it R,nC X.prog X.w X.A (.compLoop e 0 (.ref it) (.ref D0) (aE X N' scope C s₀ H₀ ex).env) t1 ifs1 (.ref it) (aE X N' scope C s₀ H₀ ex).env (TA D0 (aE X N' scope C s₀ H₀ ex).env) R)
 (hst: ∀ {A:LC} {it acc:KU} {env:Env} {R:Oa->KZ->Prop} {s:KZ},Mg (model X.prog X.w) A (.compLoop e 0 it acc env) R s->Lq (model X.prog X.w) A (OP it) (λit' s'=>Mg (model X.prog X.w) A (.compLoop e 0 it' acc env) R s') (RF (model X.prog X.w) A env λx s'=>R (.error x) s') s->Mg (model X.prog X.w) A (.compStart e 0 it acc env) R s)
 {gs:List SH} (hcl:clausesOf e=⟨t1,i1,ifs1,0⟩::gs) (hev:eval e X.env=Qt e scope X.env i1.pos make false (eval i1 X.env)) (hi:BJ X c t1 i1 gi1) (hset: ∀x,Lz i1 X.env x=pure x) (hid:cj) (ρ:aJ):PE X e (Jv X c AC m gi1 g1 p1 A hid ρ):=by
 intro af s σ H Q I hq;obtain⟨sr,ds,ys,e1,hc,hz,q⟩:=hq
 rw[hev];refine MT (use:=none) hcl hset (fx λx hx=>I.ok.has x (jr hs x hx)) hk (kJ hs) ?_
 refine cy (hi hid ρ af s σ H (λJ H'=>Same H H'/\Em X.K H' (vw H' hid) J ds) I ⟨sr,ds,e1,λJ H' s1 io=>⟨s1,io⟩⟩) λv s1 h1=>cy h1 λitv s2 h2=>?_
 obtain⟨it,fp,tn,J,H2,rfl,I2,T,st2,f2,sm,io⟩:=h2
 refine CJ (RR:=λacc C=>QX (model X.prog X.w) X.A X.xe none (EP X af σ Q) acc C) M hmk ho0 hnt ac0 hcalm hk hs hn hm hT1 hg1 hp1 hA hTP hst I2 (sr.ext sm) T st2 f2 io hz hc ?_
 intro D C s' H' o hDge hCge hDC hD sm' hx rp ⟨mm,hns⟩ hC' hos hbare hok hun;refine⟨mm,hns,λh' hsb=>⟨.ref D,H',?_,rfl,q D H' o (sm.free hD) (sm.trans sm') hx (M.l sm rp)⟩⟩
 have neC: ∀b o,s2.heap.get? b=some o->b≠C:=λb o e z=>by subst z;exact absurd (Lh e) (M3.mpr hCge)
 have hun':Un (kj X.stack) fp H2 H' s2.heap h':=⟨λb o e n h1 h2=>(hsb.2 b (neC b o e)).trans (hun.keep b o e n h1 h2),λb o e n h1 h2=>let⟨sl,z⟩:=hun.slot b o e n h1 h2;⟨sl,(hsb.2 b (neC b o e)).trans z⟩,hun.free,λb o e h2=>let⟨o',z⟩:=hun.there b o e h2;⟨o',(hsb.2 b (neC b o e)).trans z⟩,hun.tups,hun.frzs,hun.tbls⟩
 have hok':HOk X.prog X.w H' h':=λb o e=>by
  have nb: ∀b' o',H' b'=some o'->b'≠C:=λb' o' e' z=>by subst z;rw[hC'] at e';cases e'
  refine(hok b o e).stay (λc' u hc' z=>(hsb.2 c' ?_).trans z) (λ_ z=>z) λ_ _ z=>z
  rcases hc' with z'|z'
  ·rw[z'];exact nb b o e
  ·exact nb c' _ z'
 exact I2.call' (s':={s' with heap:=h'}) (ch:=fp) hos hun' hok' hbare λb hb=>⟨(f2 b hb).2.2.2.1,(f2 b hb).2.1,(f2 b hb).2.2.2.2.1,(f2 b hb).2.2.2.2.2⟩
end
section
variable {prog:LB}{w:L1}{A:LC}{R:Oa->KZ->Prop}{s:KZ}{kx vx t1 t2 i1 i2:Expr}{ifs1 ifs2:List Expr}{scope:MI}{pos:Pos}{it acc:KU}{env:Env}{D0:Addr}
theorem CQ:OE (.DictComp kx vx [⟨t1,i1,ifs1,0⟩,⟨t2,i2,ifs2,0⟩] scope pos) 1 it (.ref D0) env=(do
 NJ i2.pos
 match <-OO it with
 |none=>pure (.done .next)
 |some v=>
  MO t2 it v
  Nq t2 env v
  let ok <-kU ifs2 env
  if ok=true then do
   (do
     let kv <-eval kx env
     let vv <-N8 [kv] (eval vx env)
     NJ {kx.pos with endLine:=vx.pos.endLine,endCol:=vx.pos.endCol}
     N8 [kv,vv] (dictSet D0 kv vv))
   Qq (.compLoop (.DictComp kx vx [⟨t1,i1,ifs1,0⟩,⟨t2,i2,ifs2,0⟩] scope pos) 1 it (.ref D0) env)
  else Qq (.compLoop (.DictComp kx vx [⟨t1,i1,ifs1,0⟩,⟨t2,i2,ifs2,0⟩] scope pos) 1 it (.ref D0) env)):=by rfl
theorem zG:OE (.DictComp kx vx [⟨t1,i1,ifs1,0⟩,⟨t2,i2,ifs2,0⟩] scope pos) 0 it acc env=(do
 NJ i1.pos
 match <-OO it with
 |none=>pure (.done .next)
 |some v=>
  MO t1 it v
  Nq t1 env v
  let ok <-kU ifs1 env
  if ok=true then do
   let x <-eval i2 env
   NJ i2.pos
   let x <-Lz i2 env x
   let _ <-runOwn (.compStart (.DictComp kx vx [⟨t1,i1,ifs1,0⟩,⟨t2,i2,ifs2,0⟩] scope pos) 1 (<-N8 [x] (OP x)) acc env) env
   Qq (.compLoop (.DictComp kx vx [⟨t1,i1,ifs1,0⟩,⟨t2,i2,ifs2,0⟩] scope pos) 0 it acc env)
  else Qq (.compLoop (.DictComp kx vx [⟨t1,i1,ifs1,0⟩,⟨t2,i2,ifs2,0⟩] scope pos) 0 it acc env)):=by rfl
def xW(prog:LB)(w:L1)(A:LC)(kx vx:Expr)(D0:Addr)(env:Env):rK:=λQ s=>
 Lq (model prog w) A (eval kx env) (λx s₄=>Lq (model prog w) A (eval vx env) (λy s₅=>Lq (model prog w) A (dictSet D0 x y) (λ_ s₆=>Q s₆) (λ_ _=>False) s₅) (λ_ _=>False) s₄) (λ_ _=>False) s
theorem zN:nC prog w A (.compLoop (.DictComp kx vx [⟨t1,i1,ifs1,0⟩,⟨t2,i2,ifs2,0⟩] scope pos) 1 it (.ref D0) env) t2 ifs2 it env (xW prog w A kx vx D0 env) R:=by
 intro I turn n s h;have no: ∀ {E':KU->KZ->Prop} (x:KU) (s:KZ),False->E' x s:=λ_ _ z=>z.elim
 refine OK rfl I (λn s hI=>?_) n h
 show Lq _ A ((OE (.DictComp kx vx [⟨t1,i1,ifs1,0⟩,⟨t2,i2,ifs2,0⟩] scope pos) 1 it (.ref D0) env).onRaise (λx=>do NQ x env;NZ x)) _ _ s
 refine O3 ?_
 rw[CQ];refine KY (Mc (KY (Lv (turn n s hI) (λr s₁ h₁=>?_) no)))
 cases r with
 |none=>exact Lc h₁
 |some v=>
  refine KY (Lv h₁ (λ_ s₁ h₁=>KY (Lv h₁ (λ_ s₂ h₂=>KY (Lv h₂ (λok s₃ h₃=>?_) no)) no)) no)
  cases ok with
  |false=>exact Lc ⟨rfl,h₃⟩
  |true=>exact KY (KY (Lv h₃ (λx s₄ h₄=>KY (ND (Lv h₄ (λy s₅ h₅=>KY (Mc (ND (Lv h₅ (λ_ s₆ h₆=>Lc ⟨rfl,h₆⟩) no)))) no))) no))
theorem wL(hset: ∀x,Lz i2 env x=pure x):nC prog w A (.compLoop (.DictComp kx vx [⟨t1,i1,ifs1,0⟩,⟨t2,i2,ifs2,0⟩] scope pos) 0 it acc env) t1 ifs1 it env (lW prog w A (.DictComp kx vx [⟨t1,i1,ifs1,0⟩,⟨t2,i2,ifs2,0⟩] scope pos) i2 acc env) R:=by
 intro I turn n s h;have no: ∀ {E':KU->KZ->Prop} (x:KU) (s:KZ),False->E' x s:=λ_ _ z=>z.elim
 refine OK rfl I (λn s hI=>?_) n h
 show Lq _ A ((OE (.DictComp kx vx [⟨t1,i1,ifs1,0⟩,⟨t2,i2,ifs2,0⟩] scope pos) 0 it acc env).onRaise (λx=>do NQ x env;NZ x)) _ _ s
 refine O3 ?_
 rw[zG];refine KY (Mc (KY (Lv (turn n s hI) (λr s₁ h₁=>?_) no)))
 cases r with
 |none=>exact Lc h₁
 |some v=>
  refine KY (Lv h₁ (λ_ s₁ h₁=>KY (Lv h₁ (λ_ s₂ h₂=>KY (Lv h₂ (λok s₃ h₃=>?_) no)) no)) no)
  cases ok with
  |false=>exact Lc ⟨rfl,h₃⟩
  |true=>
   refine KY (Lv h₃ (λx s₄ h₄=>KY (Mc (KY (Rt (hset x) (KY (ND (Lv h₄ (λit2 s₅ h₅=>?_) no))))))) no)
   refine KY (wpAny_runOwn (Oc h₅ λr s' hr=>?_))
   cases r with
   |ok f=>exact Lc ⟨rfl,hr⟩
   |error e=>exact hr.elim
theorem zy
 (h0:Mg (model prog w) A (.compLoop (.DictComp kx vx [⟨t1,i1,ifs1,0⟩,⟨t2,i2,ifs2,0⟩] scope pos) 1 it acc env) R s)
 (h:Lq (model prog w) A (OP it) (λit' s'=>Mg (model prog w) A (.compLoop (.DictComp kx vx [⟨t1,i1,ifs1,0⟩,⟨t2,i2,ifs2,0⟩] scope pos) 1 it' acc env) R s')
   (RF (model prog w) A env λx s'=>R (.error x) s') s):
 Mg (model prog w) A (.compStart (.DictComp kx vx [⟨t1,i1,ifs1,0⟩,⟨t2,i2,ifs2,0⟩] scope pos) 1 it acc env) R s:=by
 refine Rz (show Lq _ _ ((Rh (.DictComp kx vx [⟨t1,i1,ifs1,0⟩,⟨t2,i2,ifs2,0⟩] scope pos) 1 it acc env).onRaise (λx=>do NQ x env;NJ RB)) _ _ s from SE ?_)
 unfold Rh;show Lq _ _ (ask>>=_) _ _ s;refine KY (Ri (wpAny_ite ?_))
 split
 ·first
   |exact KY (Lc (Lc (Oq rfl h0)))
   |exact Lc (Oq rfl h0)
 ·first
   |exact KY (Op (KY (Mc (KY (Lv h (λit' s' h'=>Lc (Oq rfl h')) λ_ _ x=>x)))))
   |(refine KY (Op ?_);show Lq _ _ (NJ i2.pos>>=_) _ _ s;exact KY (Mc (KY (Lv h (λit' s' h'=>Lc (Oq rfl h')) λ_ _ x=>x))))
end
theorem zM {X:Cx}{af:List (Addr×Obj)}{σ:St}{H:Hp}{s:KZ}{a:Addr}{A:LC}{E:KU->KZ->Prop}{u r:KU}{v:V}{k:cv}{kvs:List (cv×V)}{Q:Unit->KZ->Prop}(I:Inv X af σ H s)(e:H a=some (.dK kvs))(l:kvs.length<Lm)(ry:RelV (kV k) u)(rv:RelV v r)(h: ∀s',Inv X af σ (bI H a (.dK (lV kvs k v))) s'->Q () s'):
 Lq (model X.prog X.w) A (dictSet a u r) Q E s:=by
 obtain⟨z,hd,vs,rel,dd⟩:=Fe I.hok e
 have hz:vs.length<=sizeLine:=by rw[<-rel.length];exact z
 have hl:(lV kvs k v).length<=sizeLine:=by have:=lY kvs k v;omega
 refine wpAny_dictSet_pairs (hsz:=hz) (yO ry) dd λh' dd' hs=>h _ ?_
 have he: ∃q,h'.get? a=some q:=let⟨q,_,_,hq,_⟩:=dd';⟨q,hq⟩
 exact tj I (by rw[e];exact True.intro) hs he (AR hl hd (rel.put k rv) dd')
def wk(kvs:List (cv×D))(d:D):List (cv×D):=match d with
 | .tup [.int i,v]=>rF kvs (.inl i) v
 |_=>kvs
def rn(ad:List D):List (cv×D):=ad.foldl wk []
theorem Cv(kvs:List (cv×D))(k:cv)(d:D):(rF kvs k d).length<=kvs.length+1:=by
 unfold rF;split<;>simp
theorem Cb(ad:List D):(rn ad).length<=ad.length:=by
 have: ∀(l:List D) (kvs:List (cv×D)),(l.foldl wk kvs).length<=kvs.length+l.length:=by
  intro l
  induction l with
  |nil=>intro kvs;exact Ld _
  |cons d l ih=>
   intro kvs;have h1:=ih (wk kvs d)
   have h2:(wk kvs d).length<=kvs.length+1:=by
    unfold wk;split
    ·exact Cv _ _ _
    ·exact Nz _
   rw[PC,LM];omega
 unfold rn;simpa using this ad []
def Jc(K:K7):Dx:=λ_ W o ad=> ∃us,o=.dK us/\KRl K W us (rn ad)
theorem AX(K:K7):ACm (Jc K):=⟨λs ⟨us,e,r⟩=>⟨us,e,r.1,r.2.mono s⟩,λ_ h=>h⟩
def Eu(fk fv:FE):FA:=λρ=>(fk ρ).bind λk=>(fv ρ).bind λv=>match k with
 | .int i=>some [.tup [.int i,v]]
 |_=>none
section
variable {Y:Cx}{c:Ct}{kx vx t1 t2 i1 i2:Expr}{ifs1 ifs2:List Expr}{scope:MI}{pos:Pos}{fk fv:FE}{k1:Kd}{g2:FG}{p2:FT}{gi2:FA}{hid:cj}{D0:Addr}{L W:Hp}{ρ1:aJ}
theorem zE(hxe:Y.xe=λ_ _=>False)(hk:DP Y c .s kx fk)(hv:DP Y c .s vx fv)(hh:hid D0=true)(h00:c.H₀ D0=none)(nD:L D0=none):wV Y c hid D0 L W (Jc Y.K) (Eu fk fv) (xW Y.prog Y.w Y.A kx vx D0 Y.env) ρ1:=by
 intro af s σ H o ad zs Q I sr ac rp hz smL wv na hA hQ;unfold Eu at hA;obtain⟨k,e5,hA⟩:=Lo.mp hA
 obtain⟨y,e6,hA⟩:=Lo.mp hA
 cases k with
 |int i=>
  cases hA
  obtain⟨us,rfl,kr⟩:=rp
  unfold xW;refine cy (hxe▸hk hid ρ1 _ s σ H (λv H'=>v=V.int i/\Same H H') I ⟨sr,_,e5,λv H' s' r=>⟨(RK.b .s r λa n=>sr.fresh n).int,s'⟩⟩) λkv s10 hq_=>?_
  obtain⟨z,H10,I10,rz,ez,sm10⟩:=hq_
  subst ez;refine cy (hxe▸hv hid ρ1 _ s10 σ H10 (λv H'=>Same H10 H'/\Rep Y.K (vw H' hid) v y) I10 ⟨sr.ext sm10,y,e6,λv H' s' r=>⟨s',r⟩⟩) λvv s11 hq_=>?_
  obtain⟨z,H11,I11,rz',sm11,rp11⟩:=hq_
  have sm:=sm10.trans sm11
  have a11:H11 D0=some (.dK us):=sm _ _ ac
  have hl:=Cb ad
  have w11:Same (vw H hid) (vw H11 hid):=aV sm
  refine zM (k:=.inl i) I11 a11 (by rw[kr.len];rw[Mn] at hz;omega) rz rz' λs12 I12=>?_
  have vv:vw (bI H11 D0 (.dK (lV us (.inl i) z))) hid=vw H11 hid:=eY hh
  refine hQ s12 σ _ _ I12 ((sr.ext sm).write hh h00 na a11) aP ?_ (λb o e=>?_) ?_ na
  ·rw[vv]
   refine⟨_,rfl,?_⟩
   have:rn (ad++[.tup [.int i,y]])=rF (rn ad) (.inl i) y:=by unfold rn;rw[List.foldl_append];rfl
   rw[this];exact KRl.put (.inl i) rp11 ⟨kr.1,kr.2.mono w11⟩
  ·rw[aF (bT e nD)];exact sm _ _ (smL _ _ e)
  ·rw[vv];exact w11
 |_=>cases hA
def Fg(gi:FA)(g:FG)(p:FT)(fk fv:FE):FA:=λρ1=>(gi ρ1).bind λds=>lX g p (Eu fk fv) ρ1 ds
theorem vZ(hcalm:Y.calm=true)(hxe:Y.xe=λ_ _=>False){n1:Nat}(hT:iV n1 g2)(hN:DV n1 ρ1)(hi:DIp Y c t2 i2 gi2)(hg:pO Y c t2 g2)(hp:pX Y c ifs2 p2)(hk:DP Y c .s kx fk)(hv:DP Y c .s vx fv)(hh:hid D0=true)(h00:c.H₀ D0=none)(nD:L D0=none):
 wV Y c hid D0 L W (Jc Y.K) (Fg gi2 g2 p2 fk fv) (lW Y.prog Y.w Y.A (.DictComp kx vx [⟨t1,i1,ifs1,0⟩,⟨t2,i2,ifs2,0⟩] scope pos) i2 (.ref D0) Y.env) ρ1:=by
 intro af s σ H o ad zs Q I sr ac rp hz smL wv na hA hQ;unfold Fg at hA;obtain⟨ds,e5,hA⟩:=Lo.mp hA
 unfold lW;refine cy (hxe▸hi hid ρ1 af s σ H (λJ H'=>Same H H'/\ItOk Y.K (vw H' hid) J ds) I ⟨sr,ds,e5,λJ H' s1 io=>⟨s1,io⟩⟩) λv s1 h1=>cy h1 λitv s2 h2=>?_
 obtain⟨it,fp,tn,J,H2,rfl,I2,T,st2,f2,sm,io⟩:=h2
 have loop:Mg (model Y.prog Y.w) Y.A (.compLoop (.DictComp kx vx [⟨t1,i1,ifs1,0⟩,⟨t2,i2,ifs2,0⟩] scope pos) 1 (.ref it) (.ref D0) Y.env) (λr s'=>match r with
  | .ok _=>Q s'
  | .error _=>False) s2:=by
  refine sk (L:=L) (W:=vw H2 hid) (ad0:=ad) (o0:=o) (A:=Eu fk fv) (TA:=xW Y.prog Y.w Y.A kx vx D0 Y.env) (AX Y.K) hcalm hxe hT hg hp (λd ρ2 _=>zE hxe hk hv hh h00 nD) hN I2 (sr.ext sm) hh na (sm _ _ ac) ((AX Y.K).m (aV sm) rp) (smL.trans sm) (Same.refl _) T st2 f2 io.b hz hA zN ?_
  intro s' σ' H' xs' I' sr' smL' ac' rp' v' na';exact hQ s' σ' H' xs' I' sr' ac' rp' smL' ((aV sm).trans v') na'
 exact zy loop (T.self Y.A 0 _ _ _ st2 loop)
end
section
variable {X:Cx}{c:Ct}{kx vx elt t1 t2 i1 i2:Expr}{ifs1 ifs2:List Expr}{scope:MI}{pos pos' spos:Pos}{N':List Str}{m n1:Nat}{gi1 gi2:FA}{g1 g2:FG}{p1 p2:FT}{f fk fv:FE}{k:Kd}{x:Str}
theorem zA(hcalm:X.calm=true)(n1:Nat)(hT1:iV X.N.length g1)(hU1:wc n1 g1)(hT2:iV n1 g2)(hi:BJ X c t1 i1 gi1)
 (hg1: ∀C s₀ H₀ ex,pO (aE X N' scope C s₀ H₀ ex) c t1 g1) (hp1: ∀C s₀ H₀ ex,pX (aE X N' scope C s₀ H₀ ex) c ifs1 p1) (hi2: ∀C s₀ H₀ ex,DIp (aE X N' scope C s₀ H₀ ex) c t2 i2 gi2)
 (hg2: ∀C s₀ H₀ ex,pO (aE X N' scope C s₀ H₀ ex) c t2 g2) (hp2: ∀C s₀ H₀ ex,pX (aE X N' scope C s₀ H₀ ex) c ifs2 p2) (he: ∀C s₀ H₀ ex,DP (aE X N' scope C s₀ H₀ ex) c .s kx fk) (hv: ∀C s₀ H₀ ex,DP (aE X N' scope C s₀ H₀ ex) c .s vx fv)
 (hk:scope.kind=.function) (hs:um scope X.env.scope=true) (hn:uq X.N N' scope=true) (hm:N'.length-X.N.length=m) (hn1:X.N.length<=n1) (hset: ∀x,Lz i1 X.env x=pure x)
 (hset2: ∀C s₀ H₀ ex,∀x,Lz i2 (aE X N' scope C s₀ H₀ ex).env x=pure x) (hid:cj) (ρ:aJ):
 PE X (.DictComp kx vx [⟨t1,i1,ifs1,0⟩,⟨t2,i2,ifs2,0⟩] scope pos) (Jv X c (Jc X.K) m gi1 g1 p1 (Fg gi2 g2 p2 fk fv) hid ρ):=
 Hi (make:=newDict) (ob:={cls:=.type "dict",dict:=none,data:=.dict #[]}) (o0:=.dK []) (TA:=λD0 env=>lW X.prog X.w X.A (.DictComp kx vx [⟨t1,i1,ifs1,0⟩,⟨t2,i2,ifs2,0⟩] scope pos) i2 (.ref D0) env) (AX X.K) (λh=>ML h) (λh hb=>Cc h hb) nofun (λL W=>⟨[],rfl,rfl,.nil⟩) hcalm hk hs hn hm hT1 hg1 hp1
  (λC s₀ H₀ ex hid D0 L W ρ0 d ρ1 nos e hh h00 nD=>vZ (Y:=aE X N' scope C s₀ H₀ ex) hcalm rfl hT2 (λi s hi' e'=>nos i s (by omega) (by rw[<-hU1 _ _ _ e i hi'];exact e')) (hi2 C s₀ H₀ ex) (hg2 C s₀ H₀ ex) (hp2 C s₀ H₀ ex) (he C s₀ H₀ ex) (hv C s₀ H₀ ex) hh h00 nD)
  (λC s₀ H₀ ex D0 it R=>wL (hset2 C s₀ H₀ ex)) codeAny_compStart_dict rfl rfl hi hset hid ρ
def BO(i m:Nat)(gi1:FA)(g1:FG)(p1:FT)(A:FA):FS:=λρ=>match gi1 ρ with
 |some ds=>(match lX g1 p1 A (ρ++K1 m .no) ds with
  |some ys=>if ys.length<=1000 then .nx (ρ.set i (.ob (.dK (rn ys)))) else .no
  |none=>.no)
 |none=>.no
theorem yE {H H':Hp}{hid:cj}{a:Addr}(sm:Same H H')(ha:H a=none):Same (vw H hid) (vw H' (cM hid a)):=λb o w=>by
 obtain⟨w1,w2⟩:=vw_some.mp w
 refine vw_some.mpr ⟨?_,sm b o w2⟩
 unfold cM;rw[w1];have:b≠a:=bT w2 ha
 simp[this]
theorem zT(i:Nat)(hnd:X.N.Nodup)(hcalm:X.calm=true)(n1:Nat)(hT1:iV X.N.length g1)(hU1:wc n1 g1)(hT2:iV n1 g2)(hi:BJ X c t1 i1 gi1)
 (hg1: ∀C s₀ H₀ ex,pO (aE X N' scope C s₀ H₀ ex) c t1 g1) (hp1: ∀C s₀ H₀ ex,pX (aE X N' scope C s₀ H₀ ex) c ifs1 p1) (hi2: ∀C s₀ H₀ ex,DIp (aE X N' scope C s₀ H₀ ex) c t2 i2 gi2)
 (hg2: ∀C s₀ H₀ ex,pO (aE X N' scope C s₀ H₀ ex) c t2 g2) (hp2: ∀C s₀ H₀ ex,pX (aE X N' scope C s₀ H₀ ex) c ifs2 p2) (he: ∀C s₀ H₀ ex,DP (aE X N' scope C s₀ H₀ ex) c .s kx fk) (hv: ∀C s₀ H₀ ex,DP (aE X N' scope C s₀ H₀ ex) c .s vx fv)
 (hk:scope.kind=.function:=by rfl) (hs:um scope X.env.scope=true:=by kernel_rfl) (hn:uq X.N N' scope=true:=by kernel_rfl) (hm:N'.length-X.N.length=m:=by rfl) (hn1:X.N.length<=n1:=by exact K4 rfl) (hset: ∀x,Lz i1 X.env x=pure x:=by intro _;rfl)
 (hset2: ∀C s₀ H₀ ex,∀x,Lz i2 (aE X N' scope C s₀ H₀ ex).env x=pure x:=by intros;rfl)
 (hi':X.N[i]? =some x:=by rfl) (hx:BK X.env.scope x:=by first|exact MQ rfl|exact Mk rfl) (hsw:MS (.DictComp kx vx [⟨t1,i1,ifs1,0⟩,⟨t2,i2,ifs2,0⟩] scope pos) (some (.Name x pos')) spos.line X.env=pure false:=by rfl)
 (hf:X.fn x=true\/X.env.scope.names.lookup x=some .local:=by first|exact .inl rfl|exact .inr rfl|assumption):
 DS X c k (.Assign [.Name x pos'] (.DictComp kx vx [⟨t1,i1,ifs1,0⟩,⟨t2,i2,ifs2,0⟩] scope pos) spos) (BO i m gi1 g1 p1 (Fg gi2 g2 p2 fk fv)):=λρ=>PS.imp (qL hnd hi' hx (nT λhid=>zA hcalm n1 hT1 hU1 hT2 hi hg1 hp1 hi2 hg2 hp2 he hv hk hs hn hm hn1 hset hset2 hid ρ) hsw hf) λD σ H hq_=>by
 obtain⟨hid,sr,q⟩:=hq_
 unfold BO at q;split at q
 ·rename_i ds e1
  split at q
  ·rename_i ys e2
   split at q
   ·rename_i hz
    refine⟨hid,sr,ds,ys,e1,e2,LW hz (by decide),λa H' o ha sm hx ac=>?_⟩
    obtain⟨us,rfl,kr⟩:=ac
    exact q _ _ (cM hid a) (SR.setD (a:=a) (b:=.dK (rn ys)) (sr.hide sm ha hx) ⟨⟨fF,sr.fresh0 ha⟩,us,hx,kr.1,kr.2⟩ (sr.notOw (sr.fresh ha)) i) (yE sm ha)
   ·exact q.elim
  ·exact q.elim
 ·exact q.elim
end
def JU:Dx:=λL W o ad=> ∃bs:List Addr,o=.lst (bs.map V.ref)/\bs.Nodup/\(∀b∈bs,L b=none)/\Paired (λb d=> ∃is:List Int,d=.lst (is.map D.int)/\W b=some (.lst (is.map V.int))) bs ad
theorem IC:ACm JU:=⟨λs ⟨bs,e,n,f,p⟩=>⟨bs,e,n,f,L2.Paired.off p λb d _ ⟨is,e1,e2⟩=>⟨is,e1,s _ _ e2⟩⟩,λs ⟨bs,e,n,f,p⟩=>⟨bs,e,n,λb hb=>s.free (f b hb),p⟩⟩
def Ah(f:FE):FA:=λρ=>match f ρ with
 |some (.lst ds)=>(iB ds).map λis=>[.lst (is.map D.int)]
 |_=>none
theorem Fv {K:K7}{F:Hp}: ∀ {is:List Int} {xs:List V},Reps K F xs (is.map D.int)->xs=is.map V.int
 | [],_,h=>by cases h;rfl
 |i::is,_,h=>by
  cases h with
  |cons a b=>cases a;rw[Fv b];rfl
theorem E9 {K:K7}{F:Hp}: ∀(is:List Int),Reps K F (is.map V.int) (is.map D.int)
 | []=>.nil
 |i::is=>.cons .int (E9 is)
section
variable {Y:Cx}{c:Ct}{elt:Expr}{f:FE}{hid:cj}{D0:Addr}{L W:Hp}{ρ1:aJ}
theorem zZ(hxe:Y.xe=λ_ _=>False)(he:DP Y c .n elt f)(hh:hid D0=true)(h00:c.H₀ D0=none)(nD:L D0=none):wV Y c hid D0 L W JU (Ah f) (qk Y.prog Y.w Y.A elt (.ref D0) Y.env) ρ1:=by
 intro af s σ H o ad zs Q I sr ac rp hz smL wv na hA hQ;unfold Ah at hA;split at hA
 ·rename_i ds e5
  obtain⟨is,e6,rfl⟩:=Mu.mp hA
  have e7:=nU e6
  subst e7;obtain⟨bs,rfl,nd,fr,pr⟩:=rp
  unfold qk;refine cy (hxe▸he hid ρ1 _ s σ H (λv H'=>Same H H'/\RN Y.K H H' hid v (.lst (is.map D.int))) I ⟨sr,_,e5,λv H' s' r=>⟨s',r⟩⟩) λv s10 hq_=>?_
  obtain⟨z,H10,I10,rz,sm10,rp10⟩:=hq_
  obtain⟨b,xs,ds',h1,h2,h3,h4,h5⟩:=rp10
  injection h1 with h1
  subst h1 h2;have ex:=Fv h5
  subst ex;have a10:H10 D0=some (.lst (bs.map V.ref)):=sm10 _ _ ac
  have hl:=L2.Paired.len pr
  have nb:b≠D0:=λe=>by subst e;rw[ac] at h3;cases h3
  refine cy (hxe▸gh (X:=Y) _ s10 σ H10 (.ref D0) [.ref b] (.ref D0) [v] (λ_ H'=>H'=bI H10 D0 (.lst (bs.map V.ref++[V.ref b]))) I10 rfl (.cons rz .nil) ⟨D0,_,.ref b,rfl,rfl,a10,by rw[K5];rw[Mn] at hz;omega,rfl⟩) λ_ s11 ⟨_,H11,I11,_,e11⟩=>?_
  subst e11;have vv:vw (bI H10 D0 (.lst (bs.map V.ref++[.ref b]))) hid=vw H10 hid:=eY hh
  have w10:Same (vw H hid) (vw H10 hid):=aV sm10
  refine hQ s11 σ _ _ I11 ((sr.ext sm10).write hh h00 na a10) aP ?_ (λb o e=>?_) ?_ na
  ·rw[vv]
   refine⟨bs++[b],by rw[L5];rfl,?_,λz hz=>?_,L2.Paired.app1 ⟨is,rfl,vw_some.mpr ⟨sr.fresh h3,h4⟩⟩ (L2.Paired.off pr λb d _ ⟨is,q1,q2⟩=>⟨is,q1,w10 _ _ q2⟩)⟩
   ·rw[Q3]
    refine⟨nd,by simp,λz hz w hw e=>?_⟩
    rw[L3] at hw;subst hw;subst e;obtain⟨_,is',_,q2⟩:=L2.Paired.mem pr hz
    rw[(vw_some.mp q2).2] at h3;cases h3
   ·rcases NW.mp hz with hz|hz
    ·exact fr z hz
    ·rw[L3] at hz;subst hz;exact smL.free h3
  ·rw[aF (bT e nD)];exact sm10 _ _ (smL _ _ e)
  ·rw[vv];exact w10
 ·cases hA
end
section
variable {K:K7}{c:Ct}{ρ:aJ}{σ:St}
theorem uW {H':Hp}: ∀(bs:List Addr) (hid:cj) (H:Hp),SR K c hid ρ σ H->Same H H'->bs.Nodup->(∀b∈bs,H b=none)->(∀b∈bs,∃xs,H' b=some (.lst xs))-> ∃hid':cj,SR K c hid' ρ σ H'/\Same (vw H hid) (vw H' hid')/\(∀b∈bs,hid' b=true)/\ ∀b,hid b=true->hid' b=true
 | [],hid,H,sr,sm,_,_,_=>⟨hid,sr.ext sm,aV sm,λb hb=>absurd hb Nx,λ_ h=>h⟩
 |b::bs,hid,H,sr,sm,nd,fr,ex=>by
  obtain⟨xs,hb⟩:=ex b Lu
  have h0:=fr b Lu
  obtain⟨nb,nd'⟩:=Ma.mp nd
  have sm1:Same (bI H b (.lst xs)) H':=λy o q=>by
   by_cases e:y=b
   ·subst e;rw[aP] at q;rw[hb];exact q
   ·rw[aF e] at q;exact sm y o q
  obtain⟨hid',h1,h2,h3,h4⟩:=uW bs (cM hid b) (bI H b (.lst xs)) (sr.hide (bM h0 _) h0 aP) sm1 nd' (λy hy=>by
   have:y≠b:=λe=>by subst e;exact nb hy
   rw[aF this];exact fr y (Lb _ hy)) λy hy=>ex y (Lb _ hy)
  refine⟨hid',h1,(yE (bM h0 _) h0).trans h2,λy hy=>?_,λy hy=>h4 y (fD hy)⟩
  rcases Ll.mp hy with rfl|hy
  ·exact h4 y fF
  ·exact h3 y hy
theorem uu {X:Cx}{a:Addr}{hid:cj}{σ':St}: ∀(bs:List Addr) (rows:List (List Int)) (H:Hp),Paired (λb (is:List Int)=>H b=some (.lst (is.map V.int))) bs rows->bs.Nodup->(∀b∈bs,hid b=true/\c.H₀ b=none/\ ∀i:Nat,Ow ρ[i]? ->σ[i]? ≠some (some (.ref b)))->SR K c hid ρ σ H->
 ∃H'':Hp,(∀af s,Inv X af σ' H s->Inv X af σ' H'' s)/\SR K c hid ρ σ H''/\vw H'' hid=vw H hid/\Paired (λb (is:List Int)=>H'' b=some (.nst a (.lst (is.map V.int)))) bs rows/\ ∀y,y∉bs->H'' y=H y
 | [],_,H,pr,_,_,sr=>by
   cases pr
   exact⟨H,λ_ _ I=>I,sr,rfl,.nil,λ_ _=>rfl⟩
 |b::bs,_,H,pr,nd,k,sr=>by
  cases pr
  rename_i is rows r t;obtain⟨nb,nd'⟩:=Ma.mp nd
  obtain⟨k1,k2,k3⟩:=k b Lu
  have t1:Paired (λy (js:List Int)=>bI H b (.nst a (.lst (is.map V.int))) y=some (.lst (js.map V.int))) bs rows:=L2.Paired.off t λy js hy q=>by
   rw[aF (λe=>by subst e;exact nb hy)];exact q
  obtain⟨H'',h1,h2,h3,h4,h5⟩:=uu bs rows _ t1 nd' (λy hy=>k y (Lb _ hy)) (sr.write (o':=.nst a (.lst (is.map V.int))) k1 k2 k3 r)
  refine⟨H'',λaf s I=>h1 af s (I.nest (p:=a) r trivial),h2,by rw[h3,eY k1],.cons ?_ h4,λy hy=>?_⟩
  ·rw[h5 b nb,aP]
  ·rw[Ll,not_or] at hy
   rw[h5 y hy.2,aF hy.1]
end
section
variable {X:Cx}{c:Ct}{elt t1 i1:Expr}{ifs1:List Expr}{scope:MI}{pos pos' spos:Pos}{N':List Str}{m:Nat}{gi1:FA}{g1:FG}{p1:FT}{f:FE}{k:Kd}{x:Str}
def qr:List D->Option (List (List Int))
 | []=>some []
 | .lst ds::r=>(iB ds).bind λis=>(qr r).map (is:: ·)
 |_=>none
def A4(i m:Nat)(gi1:FA)(g1:FG)(p1:FT)(f:FE):FS:=λρ=>match gi1 ρ with
 |some ds=>(match lX g1 p1 (Ah f) (ρ++K1 m .no) ds with
  |some ys=>(match qr ys with
   |some rows=>if ys.length<=1000 then .nx (ρ.set i (.ob (.nst (rows.map λis=>.l (is.map D.int))))) else .no
   |none=>.no)
  |none=>.no)
 |none=>.no
theorem sa {W:Hp}: ∀ {bs:List Addr} {ys:List D} {rows:List (List Int)},Paired (λb d=> ∃is:List Int,d=.lst (is.map D.int)/\W b=some (.lst (is.map V.int))) bs ys->qr ys=some rows->Paired (λb (is:List Int)=>W b=some (.lst (is.map V.int))) bs rows
 |_,_,_,.nil,e=>by cases e;exact .nil
 |_,_,_,.cons r t,e=>by
  obtain⟨is,rfl,q⟩:=r
  obtain⟨is',e1,e⟩:=Lo.mp e
  rw[nO] at e1;cases e1
  obtain⟨rows',e2,rfl⟩:=Mu.mp e
  exact .cons q (sa t e2)
theorem Paired.mapR {α β γ:Type}{F:α->γ->Prop}{h:β->γ}: ∀ {l₁:List α} {l₂:List β},Paired (λa b=>F a (h b)) l₁ l₂->Paired F l₁ (l₂.map h)
 |_,_,.nil=>.nil
 |_,_,.cons r t=>.cons r (Paired.mapR t)
theorem C3 {af:List (Addr×Obj)}{s:KZ}{σ:St}{H H':Hp}{hid:cj}{ρ:aJ}{a:Addr}{o:HO}{ys:List D}{rows:List (List Int)}(sr:SR X.K c hid ρ σ H)(sm:Same H H')(ha:H a=none)(hx:H' a=some o)(ac:JU H (vw H' (cM hid a)) o ys)(e3:qr ys=some rows)(i:Nat)(I:Inv X af (σ.set i (some (.ref a))) H' s):
 ∃H'' hid',Inv X af (σ.set i (some (.ref a))) H'' s/\SR X.K c hid' (ρ.set i (.ob (.nst (rows.map λis=>.l (is.map D.int))))) (σ.set i (some (.ref a))) H''/\Same (vw H hid) (vw H'' hid'):=by
 obtain⟨bs,rfl,nd,fr,pr⟩:=ac
 have pr':=sa pr e3
 have na:a∉bs:=λh=>by
  obtain⟨is,q'⟩:=L2.Paired.mem pr' h
  obtain⟨w1,w2⟩:=vw_some.mp q'
  rw[fF] at w1;cases w1
 have hb: ∀b∈bs,∃is:List Int,H' b=some (.lst (is.map V.int)):=λb h=>by
  obtain⟨is,q'⟩:=L2.Paired.mem pr' h
  exact⟨is,(vw_some.mp q').2⟩
 obtain⟨hid',s1,s2,s3,s4⟩:=uW (a::bs) hid H sr sm (Ma.mpr ⟨na,nd⟩) (λb h=>by
  rcases Ll.mp h with rfl|h
  ·exact ha
  ·exact fr b h) λb h=>by
  rcases Ll.mp h with rfl|h
  ·exact⟨_,hx⟩
  ·obtain⟨is,q'⟩:=hb b h;exact⟨_,q'⟩
 have pr2:Paired (λb (is:List Int)=>H' b=some (.lst (is.map V.int))) bs rows:=L2.Paired.off pr' λb is _ q'=>(vw_some.mp q').2
 obtain⟨H'',n1,n2,n3,n4,n5⟩:=uu (X:=X) (a:=a) (σ':=σ.set i (some (.ref a))) bs rows H' pr2 nd (λb h=>⟨s3 b (Lb _ h),sr.fresh0 (fr b h),sr.notOw (sr.fresh (fr b h))⟩) s1
 exact⟨H'',hid',n1 af s I,SR.setD (a:=a) (b:=.nst (rows.map λis=>.l (is.map D.int))) n2 ⟨⟨s3 a Lu,sr.fresh0 ha⟩,bs,by rw[n5 a na];exact hx,nd,L2.Paired.mapR (L2.Paired.off n4 λb is h q'=>⟨⟨s3 b (Lb _ h),sr.fresh0 (fr b h)⟩,_,q',E9 is⟩)⟩ (sr.notOw (sr.fresh ha)) i,by rw[n3];exact s2⟩
def JI:R2:=λx y H Q=> ∃d p xs j v,x=.ref d/\y=.int j/\H d=some (.nst p (.lst xs))/\pU xs j=some v/\Q v H
theorem G7:IxR X JI:=by
 intro value slice af s σ H x y v u Q I rx ry h hs;obtain⟨d,p,xs,j,w,rfl,rfl,hd,hj,q⟩:=h
 refine cy (ix_list (X:=X) value slice af s σ (bI H d (.lst xs)) (.ref d) (.int j) v u (λz H'=>z=w/\H'=bI H d (.lst xs)) (I.unnest hd) rx ry ⟨d,xs,j,w,rfl,rfl,SqL.of aP,hj,rfl,rfl⟩ hs) λr s' hq_=>?_
 obtain⟨z,H',I',rz,e1,e2⟩:=hq_
 subst e1 e2;have back:bI (bI H d (.lst xs)) d (.nst p (.lst xs))=H:=by
  rw[tJ];funext y
  by_cases e:y=d
  ·subst e;rw[aP,hd]
  ·rw[aF e]
 exact⟨z,H,back▸I'.nest (p:=p) aP trivial,rz,q⟩
def vn(i:Nat)(f1 f2:FE):FE:=λρ=>(qG i ρ).bind λus=>(f1 ρ).bind λa=>(f2 ρ).bind λb=>match a,b with
 | .int j,.int q=>(rl us.length j).bind λn=>us[n]?.bind λu=>match u with
   | .l ds=>pU ds q
   |_=>none
 |_,_=>none
variable {k1 k2:Kd}{e1 e2:Expr}{f1 f2:FE}{y:Str}{py pos2:Pos}
theorem CO(i:Nat)(h1:DP X c k1 e1 f1)(h2:DP X c k2 e2 f2)(hN:X.N[i]? =some y:=by rfl)(hv':zg X.env.scope y:=by first|exact MQ rfl|exact Mk (MQ rfl)|exact Mk (Mk rfl))(hd:(y==("__debug__":Str))=false:=by decide)
 (hcd:(y==("__classdict__":Str))=false:=by decide) (hp:me e1:=by exact λ_ _=>rfl) (hp2:me e2:=by exact λ_ _=>rfl):DP X c .s (.Subscript (.Subscript (.Name y py) e1 pos2) e2 pos) (vn i f1 f2):=λhid ρ=>
 PE.imp (yJ G7 (yJ (aH (X:=X)) (pv i hN hv' hd hcd) (h1 hid ρ) hp) (h2 hid ρ) hp2) λσ H Q hq_=>by
  obtain⟨sr,d,hd,q⟩:=hq_
  unfold vn at hd;obtain⟨us,g0,hd⟩:=Lo.mp hd
  obtain⟨aa,g1,hd⟩:=Lo.mp hd
  obtain⟨bb,g2,hd⟩:=Lo.mp hd
  cases aa with
  |int j=>cases bb with
   |int qq=>
    obtain⟨n,g3,hd⟩:=Lo.mp hd
    obtain⟨u,g4,hd⟩:=Lo.mp hd
    obtain⟨a,bs,a1,a2,a3,a4,a5⟩:=sr.nst g0
    obtain⟨b,b1,b2⟩:=L2.Paired.get a5 g4
    cases u with
    |l ds=>
     obtain⟨_,xs,w1,w2⟩:=b2
     refine⟨.ref a,a1,sr,_,g1,λz H1 s1 r1=>?_⟩
     have i1:=(RK.b k1 r1 λa n=>sr.fresh n).int
     cases i1
     refine .inl ⟨a,bs.map V.ref,j,.ref b,rfl,rfl,SqL.of (s1 _ _ a3),yA (by rw[(L2.Paired.len a5)];exact g3) b1,sr.ext s1,_,g2,λw H2 s2 r2=>?_⟩
     have i2:=(RK.b k2 r2 λa n=>(sr.ext s1).fresh n).int
     cases i2
     obtain⟨v,v1,v2⟩:=pR w2 hd
     exact⟨b,a,xs,qq,v,rfl,rfl,(s1.trans s2) _ _ w1,v1,q v H2 (s1.trans s2) (v2.mono (aV (s1.trans s2)))⟩
    |_=>cases hd
   |_=>cases hd
  |_=>cases hd
end
end L2
namespace PySem
open PySem PySem.Spec PyProof.Rows
section
variable {prog:LB}{w:L1}{A:LC}{E:KU->KZ->Prop}{s:KZ}
theorem rE {l:Addr}{us:Array KU}{n:Nat}{Q:KU->KZ->Prop}(ho:s.heap.get? l=some {cls:=.type "list",data:=.seq us n})
 (h: ∀g,OI g (s.heap.objs.size+1) s.heap.objs.size 0 .none->g.IsListIter s.heap.objs.size l 0->g.objs.size=s.heap.objs.size+2->(∀b o,s.heap.get? b=some o->g.get? b=some o)->Q (.ref (s.heap.objs.size+1)) {s with heap:=g}):
 Lq (model prog w) A (call (.type "enumerate") [.ref l]) Q E s:=by
 refine callType_new QF (by decide) (Pw _) (PP _) (λobj=>P4 obj _) PQ (meets_enumerate_new l us n) ⟨ho,?_⟩
 have hz:(s.heap.push {cls:=.type "list_iterator",data:=.fields #[.ref l,.int 0 0]}).objs.size=s.heap.objs.size+1:=Mr ..
 show _/\_;rw[hz];have he:OI ((s.heap.push {cls:=.type "list_iterator",data:=.fields #[.ref l,.int 0 0]}).push {cls:=.type "enumerate",data:=.fields #[.none,.bool false,.ref s.heap.objs.size,NR 0,.none,.none]}) (s.heap.objs.size+1) s.heap.objs.size 0 .none:=by
  have:=Lj (s.heap.push {cls:=.type "list_iterator",data:=.fields #[.ref l,.int 0 0]}) (o:={cls:=.type "enumerate",data:=.fields #[.none,.bool false,.ref s.heap.objs.size,NR 0,.none,.none]}) rfl
  rw[hz] at this;exact this
 exact⟨⟨_,he,rfl⟩,h _ he ⟨_,K3 _ (Lj _ rfl),rfl,rfl⟩ (by rw[Mr,hz]) λb o x=>K3 _ (K3 _ x)⟩
end
end PySem
namespace L2
open PySem PySem.Spec PyProof.Rows
def Kk(K:K7)(a:Addr):It:=
 ⟨λi H=> ∃xs x,SqL K H a xs/\xs[i]? =some x,λi H x H'=> ∃T,x=.ref T/\H T=none/\ ∀xs,SqL K H a xs-> ∃y,xs[i]? =some y/\H'=bI H T (.tup [.int i,y]),λi H=> ∃xs,SqL K H a xs/\xs.length<=i⟩
theorem w6 {P:LB}{w:L1}{K:K7}{es:List Expr}{x1}{pos:Pos}(a it e:Addr)(hei:e≠it):Turn P w K (.Tuple es x1 pos) (Kk K a) [e,it] e (λi h=>(∃old,OI h e it i old)/\h.IsListIter it a i) where
 mem:=by simp
 obj:=λi h st b hb=>by
  obtain⟨⟨old,he⟩,o,ho,hc,hd⟩:=st
  rcases Ll.mp hb with rfl|hb
  ·exact⟨_,he,λv z=>by cases z⟩
  ·have:b=it:=by simpa using hb
   subst this;exact⟨o,ho,λv z=>by rw[hd] at z;cases z⟩
 keep:=λi h h' st k=>by
  obtain⟨⟨old,he⟩,hit⟩:=st
  exact⟨⟨old,k e (by simp) _ he⟩,hit.at λo x=>k it (by simp) o x⟩
 item:=by
  intro X hP hw hK hc i af s σ H E I hf st hg;subst hP hw hK;obtain⟨xs,x,hq,hx⟩:=hg
  obtain⟨its,rv,p,hz⟩:=I.list hq
  obtain⟨u,hu,ru⟩:=rv.get hx
  obtain⟨⟨old,he⟩,hit⟩:=st
  obtain⟨e0,e1,e2,e3,e4,e5⟩:=hf e (by simp)
  obtain⟨f0,f1,f2,f3,f4,f5⟩:=hf it (by simp)
  have ht:=p.isList
  refine wpAny_pyNext_enum_item (x:=u) he hit ht (by simpa using hu) hei λg hout hit' hT hsz hk=>⟨_,rfl,?_⟩
  refine OT hout λg' he' hs'=>?_
  have elt:e<s.heap.objs.size:=Lh he
  have k2: ∀b o,b≠e->b≠it->s.heap.get? b=some o->g'.get? b=some o:=λb o h1 h2 h3=>(hs'.2 b h1).trans (hk b o h1 h2 h3)
  have hT':g'.get? s.heap.objs.size=some {cls:=.type "tuple",data:=.seq #[.int i s.toks,u]}:=(hs'.2 _ (NA elt)).trans hT
  have hn:H s.heap.objs.size=none:=I.hok.fresh (Ld _)
  have I1:Inv X af σ (bI H s.heap.objs.size (.tup [.int i,x])) {s with heap:=g',toks:=s.toks+1}:=by
   obtain⟨oi,hoi,hci,hdi⟩:=id (show g'.IsListIter it a (i+1) from hit'.at λo y=>(hs'.2 it (Lw hei)).trans y)
   obtain⟨os0,hos0,_⟩:=id hit
   have ilt:it<s.heap.objs.size:=Lh hos0
   have I0:Inv X af σ (bI H s.heap.objs.size (.tup [.int i,x])) {s with heap:=s.heap.push {cls:=.type "tuple",data:=.seq #[.int i s.toks,u]},toks:=s.toks+1}:=
    I.laid (t':=s.toks+1) (λb o q=>K3 _ q) (Ld _) (show ObjOk X.prog X.w _ _ _ (.tup [.int i,x]) from
     ⟨NP (kq (by simp)),[.int i s.toks,u],.cons ⟨_,rfl⟩ (.cons ru .nil),⟨_,Lj _ rfl,rfl,_,rfl⟩,_,Lj _ rfl,rfl⟩)
   have u1:((s.heap.push {cls:=.type "tuple",data:=.seq #[.int i s.toks,u]}).update it λ_=>oi).get? it=some oi:=My (λ_=>oi) (K3 _ hos0) (MR hdi)
   have I1:Inv X af σ (bI H s.heap.objs.size (.tup [.int i,x])) {s with heap:=(s.heap.push {cls:=.type "tuple",data:=.seq #[.int i s.toks,u]}).update it λ_=>oi,toks:=s.toks+1}:=
    I0.turned (t':=s.toks+1) (λb o hb q=>(LR _ _ (Lw hb)).trans q) (by rw[aF (LF ilt)];exact f0) f1 f3 f4 f5
   refine I1.turned (t':=s.toks+1) (λb o hb q=>?_) (by rw[aF (LF elt)];exact e0) e1 e3 e4 e5
   by_cases hbi:b=it
   ·subst hbi
    have q':((s.heap.push {cls:=.type "tuple",data:=.seq #[.int i s.toks,u]}).update b λ_=>oi).get? b=some o:=q
    rw[u1] at q';cases q';exact hoi
   ·have q':((s.heap.push {cls:=.type "tuple",data:=.seq #[.int i s.toks,u]}).update it λ_=>oi).get? b=some o:=q
    rw[LR _ _ (Lw hbi)] at q'
    by_cases hbT:b=s.heap.objs.size
    ·subst hbT
     rw[Lj _ rfl] at q';cases q'
     exact hT'
    ·rw[QZ _ _ _ hbT] at q'
     exact k2 b o hb hbi q'
  refine⟨.ref s.heap.objs.size,bI H s.heap.objs.size (.tup [.int i,x]),I1,rfl,⟨_,rfl,hn,λys hy=>⟨x,by rw[I.list_inj hy hq];exact hx,rfl⟩⟩,⟨⟨u,by simpa using he'⟩,hit'.at λo y=>(hs'.2 it (Lw hei)).trans y⟩,λb hb=>?_⟩
  rcases Ll.mp hb with rfl|hb
  ·rw[aF (LF elt)];exact e0
  ·have:b=it:=by simpa using hb
   subst this;obtain⟨o,ho,_⟩:=hit
   rw[aF (LF (Lh ho))];exact f0
 done:=by
  intro X hP hw hK hc i af s σ H E I hf st hg;subst hP hw hK;obtain⟨xs,hq,hx⟩:=hg
  obtain⟨its,rv,p,hz⟩:=I.list hq
  obtain⟨⟨old,he⟩,hit⟩:=st
  obtain⟨f0,f1,f2,f3,f4,f5⟩:=hf it (by simp)
  have hl:=rv.length
  have hh:=I.ok.hd hc
  refine wpAny_pyNext_enum_end hh he hit p.isList (by simp;omega) λg k=>⟨rfl,I.turned (t':=s.toks) (λb o hb z=>k b o hb z) f0 f1 f3 f4 f5⟩
 self:=λ_ _ _ _ _ st h=>let⟨⟨_,he⟩,_⟩:=st;Oh he h
section
variable {X:Cx}{c:Ct}{k:Kd}{es:List Expr}{x1:Nat}{tp pos p:Pos}
def Ap(f:FE):FA:=λρ=>(f ρ).bind λd=>match d with
 | .lst ds=>some (mZ ds)
 |_=>none
theorem xk {K:K7}{W:Hp}{a:Addr}{xs:List V}{ds:List D}(h1:SqL K W a xs)(h2:Reps K W xs ds):ItOk K W (Kk K a) (mZ ds):=by
 have l:=h2.length
 have el:(mZ ds).length=ds.length:=by simp[mZ]
 refine⟨λi d H e s=>?_,λH s=>⟨_,Same.seq s h1,by rw[el,<-l];exact Ld _⟩⟩
 have hi:i<ds.length:=by rw[<-el];exact(Lp.mp e).1
 have ex:xs[i]? =some xs[i]:=K0 (by omega)
 refine⟨⟨_,xs[i],Same.seq s h1,ex⟩,λy H' ⟨T,e2,hT,e3⟩=>?_⟩
 subst e2;obtain⟨z,e4,e5⟩:=e3 _ (Same.seq s h1)
 subst e5;refine⟨bM hT _,λhid tr sw=>?_⟩
 have hf:hid T=false:=by
  cases eh:hid T with
  |false=>rfl
  |true=>obtain⟨o,ho⟩:=tr T eh;rw[hT] at ho;cases ho
 obtain⟨d',e6,r6⟩:=h2.get' e4
 have ed:d=.tup [.int i,d']:=by
  unfold mZ at e;rw[Ln,LU hi] at e;have:ds.getD i .non=d':=by simp[MB,e6]
  rw[MP,this] at e;exact(LH e).symm
 rw[ed];exact nX hT hf (.cons .int (.cons (r6.mono sw) .nil))
theorem zk {iter:Expr}{f:FE}(h:DP X c .s iter f)(hm:X.mg "enumerate"=none)(hg:Gl X "enumerate":=by rfl)(hs:Le [iter] X.env=[(false,eval iter X.env)]:=by rfl):DIp X c (.Tuple es x1 tp) (.Call (.Name "enumerate" p) [iter] [] pos) (Ap f):=by
 intro hid ρ af s σ H R I hq;obtain⟨sr,ds,hd,q⟩:=hq
 unfold Ap at hd;cases e1:f ρ with
 |none=>rw[e1] at hd;cases hd
 |some z=>
  rw[e1] at hd;cases z with
  |lst us=>
   cases hd
   refine Call_ (oR (u:=.type "enumerate") I hg hm (by kernel_rfl) (MH (cy (il (h hid ρ) mL hs pos af s σ H (λvs H'=> ∃v,vs=[v]/\Same H H'/\Rep X.K (vw H' hid) v (.lst us)) I ⟨sr,_,e1,λv H' s' r=>⟨v,rfl,s',r⟩⟩) λvs s1 ⟨ws,H1,I1,r1,w,e,s',r⟩=>?_) hs rfl))
   subst e;cases r1 with
   |cons ra rb=>
    cases rb
    cases r with
    |lst t1 t2=>
     cases ra
     have t1':SqL X.K (vw H1 hid) _ _:=SqL.of t1
     obtain⟨its,n,rv,pt,hz⟩:=I1.lst (gy _ _ _ _ t1)
     refine rE pt λg he hit hsz hk=>?_
     refine Oh he ⟨_,[s1.heap.objs.size+1,s1.heap.objs.size],_,_,H1,rfl,I1.kept (t':=s1.toks) λb o e=>hk b o e,w6 _ _ _ (NA (LY _)),⟨⟨_,he⟩,hit⟩,λb hb=>?_,q _ H1 s' (xk t1' t2)⟩
     rcases Ll.mp hb with rfl|hb
     ·exact I1.fpOk (Nz _) (I1.hok.fresh (Nz _))
     ·have:b=s1.heap.objs.size:=by simpa using hb
      subst this;exact I1.fpOk (Ld _) (I1.hok.fresh (Ld _))
  |_=>cases hd
end
section
variable {X:Cx}{c:Ct}{e t1 i1:Expr}{ifs1:List Expr}{scope:MI}{pos spos py:Pos}{N':List Str}{m:Nat}{gi1:FA}{g1:FG}{p1:FT}{A:FA}{AC:Dx}{make:Sem KU}{ob:Obj}{o0:HO}{TA:Addr->Env->rK}{y:Str}
theorem Go(i:Nat)(hN:X.N.Nodup)(M:ACm AC)(hmk: ∀ {A:LC} {Q:KU->KZ->Prop} {E:KU->KZ->Prop} {s:KZ},Q (.ref s.heap.objs.size) {s with heap:=s.heap.push ob}->Lq (model X.prog X.w) A make Q E s)
 (ho0: ∀ {H:Hp} (h:Heap),M1<h.objs.size->ObjOk X.prog X.w H (h.push ob) h.objs.size o0) (hnt: ∀xs,o0≠ .tup xs) (ac0: ∀L W,AC L W o0 [])
 (hcalm:X.calm=true) (hk:scope.kind=.function) (hs:um scope X.env.scope=true) (hn:uq X.N N' scope=true) (hm:N'.length-X.N.length=m) (hT1:iV X.N.length g1)
 (hg1: ∀C s₀ H₀ ex,pO (aE X N' scope C s₀ H₀ ex) c t1 g1) (hp1: ∀C s₀ H₀ ex,pX (aE X N' scope C s₀ H₀ ex) c ifs1 p1)
 (hA: ∀C s₀ H₀ ex hid D0 L W ρ0 d ρ1,DV X.N.length ρ0->g1 d ρ0=some ρ1->hid D0=true->c.H₀ D0=none->L D0=none->wV (aE X N' scope C s₀ H₀ ex) c hid D0 L W AC A (TA D0 (aE X N' scope C s₀ H₀ ex).env) ρ1)
 (hTP: ∀C s₀ H₀ ex D0 it R,nC X.prog X.w X.A (.compLoop e 0 (.ref it) (.ref D0) (aE X N' scope C s₀ H₀ ex).env) t1 ifs1 (.ref it) (aE X N' scope C s₀ H₀ ex).env (TA D0 (aE X N' scope C s₀ H₀ ex).env) R)
 (hst: ∀ {A:LC} {it acc:KU} {env:Env} {R:Oa->KZ->Prop} {s:KZ},Mg (model X.prog X.w) A (.compLoop e 0 it acc env) R s->Lq (model X.prog X.w) A (OP it) (λit' s'=>Mg (model X.prog X.w) A (.compLoop e 0 it' acc env) R s') (RF (model X.prog X.w) A env λx s'=>R (.error x) s') s->Mg (model X.prog X.w) A (.compStart e 0 it acc env) R s)
 {gs:List SH} (hcl:clausesOf e=⟨t1,i1,ifs1,0⟩::gs) (heu: ∀use,evalThenUse e X.env use=(do let _ <-Qt e scope X.env i1.pos make false (eval i1 X.env) (some use))) (hi:BJ X c t1 i1 gi1) (hset: ∀x,Lz i1 X.env x=pure x)
 (hsw:MS e (some (.Name y py)) spos.line X.env=pure true) (hyi:X.N[i]? =some y) (hy:X.env.scope.names.lookup y=some .local) (ρ:aJ):
 PS X (.Assign [.Name y py] e spos) (D3 (λσ H Q=> ∃hid,Jv X c AC m gi1 g1 p1 A hid ρ σ H Q) (xJ i)):=by
 intro af s σ H E I hq;obtain⟨hid,sr,ds,ys,e1,hc,hz,q⟩:=hq
 rw[PJ _ _ _ _ hsw];refine KY (Mc (KY ?_))
 rw[heu];refine KY (Lv (MT (use:=some (Nq (.Name y py) X.env)) (Q:=λ_ s'=>SP X af E .next s') hcl hset (fx λx hx=>I.ok.has x (jr hs x hx)) hk (kJ hs) ?_) (λ_ s' hq=>Lc (Lc hq)) λ_ _ e=>e)
 refine cy (hi hid ρ af s σ H (λJ H'=>Same H H'/\Em X.K H' (vw H' hid) J ds) I ⟨sr,ds,e1,λJ H' s1 io=>⟨s1,io⟩⟩) λv s1 h1=>cy h1 λitv s2 h2=>?_
 obtain⟨it,fp,tn,J,H2,rfl,I2,T,st2,f2,sm,io⟩:=h2
 refine CJ (RR:=λacc C=>QX (model X.prog X.w) X.A X.xe (some (Nq (.Name y py) X.env)) (λ_ s'=>SP X af E .next s') acc C) M hmk ho0 hnt ac0 hcalm hk hs hn hm hT1 hg1 hp1 hA hTP hst I2 (sr.ext sm) T st2 f2 io hz hc ?_
 intro D C s' H' o hDge hCge hDC hD sm' hx rp ⟨mm,hns⟩ hC' hos hbare hok hun;have I3:Inv X af σ H' s':=I2.call' (ch:=fp) hos hun hok hbare λb hb=>⟨(f2 b hb).2.2.2.1,(f2 b hb).2.1,(f2 b hb).2.2.2.2.1,(f2 b hb).2.2.2.2.2⟩
 have fin:=q D H' o (sm.free hD) (sm.trans sm') hx (M.l sm rp)
 have ltC: ∀b o,s2.heap.get? b=some o->b≠C:=λb o e z=>by subst z;exact absurd (Lh e) (M3.mpr hCge)
 have hLC:C≠X.env.locals:=λz=>by
  have:=I2.lt
  rw[<-z] at this;exact absurd this (M3.mpr hCge)
 show Lq _ X.A (Nq (.Name y py) X.env (.ref D)) _ _ s';refine O1 (oK (v:=.ref D) I3 hN hyi (.inl hy) rfl (λs'' I4 hb=>?_) (.inr hy))
 obtain⟨a,hsb,ha⟩:=hb
 have hCa:C≠a:=by
  rcases ha with rfl|ha
  ·exact hLC
  ·obtain⟨w',o,ho,_⟩:=I2.cell y a ha
   exact λz=>ltC a o ho z.symm
 refine⟨mm,hns.sameBut hsb hCa,λh3 hs3=>⟨_,H',?_,fin⟩⟩
 refine I4.turned (t':=s''.toks) (it:=C) (λb o nb e=>(hs3.2 b nb).trans e) hC' hLC (.inr (LW I2.sz hCge)) (λx c' e z=>?_) (λq hq z=>?_)
 ·obtain⟨w',o,ho,_⟩:=I2.cell x c' e
  exact ltC c' o ho z
 ·exact ltC q.1 q.2 (I2.pin q hq).1 z
end
section
variable {X:Cx}{c:Ct}{elt t1 i1:Expr}{ifs1:List Expr}{scope:MI}{pos pos' spos:Pos}{N':List Str}{m:Nat}{gi1:FA}{g1:FG}{p1:FT}{f:FE}{k:Kd}{x:Str}
theorem zq(i:Nat)(hnd:X.N.Nodup)(hcalm:X.calm=true)(hT1:iV X.N.length g1)(hi:BJ X c t1 i1 gi1)
 (hg1: ∀C s₀ H₀ ex,pO (aE X N' scope C s₀ H₀ ex) c t1 g1) (hp1: ∀C s₀ H₀ ex,pX (aE X N' scope C s₀ H₀ ex) c ifs1 p1) (he: ∀C s₀ H₀ ex,DP (aE X N' scope C s₀ H₀ ex) c .n elt f)
 (hk:scope.kind=.function:=by rfl) (hs:um scope X.env.scope=true:=by kernel_rfl) (hn:uq X.N N' scope=true:=by kernel_rfl) (hm:N'.length-X.N.length=m:=by rfl) (hset: ∀x,Lz i1 X.env x=pure x:=by intro _;rfl)
 (hi':X.N[i]? =some x:=by rfl) (hx:X.env.scope.names.lookup x=some .local:=by rfl) (hsw:MS (.ListComp elt [⟨t1,i1,ifs1,0⟩] scope pos) (some (.Name x pos')) spos.line X.env=pure true:=by rfl):
 DS X c k (.Assign [.Name x pos'] (.ListComp elt [⟨t1,i1,ifs1,0⟩] scope pos) spos) (A4 i m gi1 g1 p1 f):=λρ=>PS.imp (PS.post (Go (make:=To []) (ob:={cls:=.type "list",dict:=none,data:=.seq ([]:List KU).toArray}) (o0:=.lst []) (TA:=λD0 env=>qk X.prog X.w X.A elt (.ref D0) env) i hnd IC (λh=>ML h) (λh hb=>⟨Na _,[],0,.nil,Lj _ rfl⟩) nofun (λL W=>⟨[],rfl,.nil,λb hb=>absurd hb Nx,.nil⟩) hcalm hk hs hn hm hT1 hg1 hp1
 (λC s₀ H₀ ex hid D0 L W ρ0 d ρ1 nos e hh h00 nD=>zZ (Y:=aE X N' scope C s₀ H₀ ex) rfl (he C s₀ H₀ ex) hh h00 nD)
 (λC s₀ H₀ ex D0 it R I turn n s h=>gB I turn n h) Og rfl (λ_=>rfl) hi hset hsw hi' hx ρ)) λ_ σ H hq_=>by
 obtain⟨hid,sr,q⟩:=hq_
 unfold A4 at q;split at q
 ·rename_i ds e1
  split at q
  ·rename_i ys e2
   split at q
   ·rename_i rows e3
    split at q
    ·rename_i hz
     refine⟨hid,sr,ds,ys,e1,e2,LW hz (by decide),λa H' o ha sm hx ac af s I=>?_⟩
     obtain⟨H'',hid',I'',n2,sm2⟩:=C3 sr sm ha hx ac e3 i I
     exact⟨H'',I'',q _ _ hid' n2 sm2⟩
    ·exact q.elim
   ·exact q.elim
  ·exact q.elim
 ·exact q.elim
end
set_option maxHeartbeats 1000000
section
variable {X:Cx}{c:Ct}{a b:Expr}{f g:FE}{pos:Pos}
theorem Iy(ha:QP X c a f)(hb:QP X c b g)(hs:me b):QP X c (.Subscript a b pos) (av aW f g):=.of (aT aH aS ha.dp hb.dp hs)
end
set_option maxHeartbeats 4000000
def jO(i:Nat):Stmt:=OU.main.body.getD i (.Pass ⟨0,0,0,0⟩)
structure Bt(mg:Str->Option KU):Prop where
 b_abs:mg "abs"=none
 b_any:mg "any"=none
 b_enumerate:mg "enumerate"=none
 b_len:mg "len"=none
 b_list:mg "list"=none
 b_max:mg "max"=none
 b_min:mg "min"=none
 b_range:mg "range"=none
 b_sum:mg "sum"=none
 b_tuple:mg "tuple"=none
 g_MANY_WAYS: ∃tk,mg "MANY_WAYS"=some (.int 4 tk)
 g_MOST_SIZE: ∃tk,mg "MOST_SIZE"=some (.int 6 tk)
def exN:List Str:=["RookError","NoMove","TooMany"]
structure Et(K:K7)(mg:Str->Option KU)(kx0 kx1 kx2:Addr):Prop where
 t:ExTab K mg kx0 [("RookError",kx0),("NoMove",kx1),("TooMany",kx2)]
 o_NoMove:Qc K kx1 z0 "ValueError.__new__"=true
 o_TooMany:Qc K kx2 z0 "ValueError.__new__"=true
theorem JF:(["order","k","size","place"]:List Str).Nodup:=by decide+kernel
theorem Jz:(["order","k","size","number"]:List Str).Nodup:=by decide+kernel
theorem Ju:(["order","number"]:List Str).Nodup:=by decide+kernel
theorem Kc:(["square","rings","crosses","ring"]:List Str).Nodup:=by decide+kernel
theorem HN:(["square","size","column","row"]:List Str).Nodup:=by decide+kernel
theorem Gv:(["square","lines","rings","line_at","number","line","column"]:List Str).Nodup:=by decide+kernel
theorem FP:(["square","lines","rings","line_at","column","row","sign"]:List Str).Nodup:=by decide+kernel
theorem GF:(["meetings","one","other","pairs","over","beneath","sign"]:List Str).Nodup:=by decide+kernel
theorem HP:(["square","lines","meetings","one","other"]:List Str).Nodup:=by decide+kernel
theorem Jw:(["square","c","rings","crosses","one","other","between","row"]:List Str).Nodup:=by decide+kernel
theorem E7:(["square","c","way","rings","crosses","row","free_column","free_row","full_column","full_row","more_rings","more_crosses","mark"]:List Str).Nodup:=by decide+kernel
theorem FB:(["marks","row","column","at","mark"]:List Str).Nodup:=by decide+kernel
theorem Iu:(["_law_bag_here","_law_n","_law_plain","_law_by","_law_rings","_law_crosses","_law_c","_law_d","_law_row"]:List Str).Nodup:=by decide+kernel
theorem HD:(["_law_square_here","_law_begin","_law_found","_law_column","?_law_row","_law_row"]:List Str).Nodup:=by decide+kernel
theorem IB:(["_law_square_here","_law_begin","_law_found","_law_column","_law_row","_law_other"]:List Str).Nodup:=by decide+kernel
theorem Jb:(["_law_square_here","_law_found","_law_column","_law_line_here"]:List Str).Nodup:=by decide+kernel
theorem Fn:(["_law_square_here","_law_lines_here","_law_found","_law_column","_law_row","_law_sign","_law_beneath","_law_over","_law_under","_law_other"]:List Str).Nodup:=by decide+kernel
theorem Ip:(["_law_square_here","_law_lines_here","_law_found","_law_column","_law_row","_law_sign","_law_beneath","_law_over","_law_under","_law_other","_law_line_here"]:List Str).Nodup:=by decide+kernel
theorem Fq:(["_law_square_here","_law_lines_here","_law_found","_law_column","_law_row","_law_sign","_law_beneath","_law_over","_law_under","_law_k"]:List Str).Nodup:=by decide+kernel
theorem Iq:(["_law_n","_law_found","_law_number","_law_longer","_law_row","_law_at"]:List Str).Nodup:=by decide+kernel
theorem IU:(["_law_one","_law_other","_law_order_here","_law_k"]:List Str).Nodup:=by decide+kernel
theorem II:(["_law_one","_law_other","_law_order_here","_law_k","_law_l"]:List Str).Nodup:=by decide+kernel
theorem HE:(["_law_square_here","_law_linked_here","_law_due","_law_k","_law_other"]:List Str).Nodup:=by decide+kernel
section
variable {P:LB}{w:L1}{K:K7}{mg:Str->Option KU}{base:Heap}{kx0 kx1 kx2:Addr}
abbrev dg:Stmt:=jO 5
abbrev du:Stmt:=jO 6
abbrev dv:Stmt:=jO 7
abbrev bY:Stmt:=jO 8
abbrev de:Stmt:=jO 9
abbrev fY:Stmt:=jO 12
abbrev di:Stmt:=jO 14
abbrev hJ:Stmt:=jO 15
abbrev eD:Stmt:=jO 16
abbrev dN:Stmt:=jO 17
abbrev ib:Stmt:=jO 18
abbrev db:Stmt:=jO 19
abbrev dM:Stmt:=jO 20
abbrev cG:Stmt:=jO 21
abbrev h9:Stmt:=jO 22
abbrev cm:Stmt:=jO 25
abbrev dP:Stmt:=jO 26
abbrev ji:Stmt:=jO 27
abbrev en:Stmt:=jO 28
abbrev ca:Stmt:=jO 29
abbrev cV:Stmt:=jO 30
abbrev jn:Stmt:=jO 31
abbrev cF:Stmt:=jO 32
abbrev eF:Stmt:=jO 33
abbrev eE:Stmt:=jO 34
abbrev jG:Stmt:=jO 35
abbrev ia:Stmt:=jO 36
abbrev dO:Stmt:=jO 37
abbrev cX:Stmt:=jO 38
abbrev lw:Stmt:=jO 39
abbrev fW:Stmt:=jO 41
abbrev g9:Stmt:=jO 42
abbrev fX:Stmt:=jO 43
abbrev fz:Stmt:=jO 44
abbrev et:Stmt:=jO 45
abbrev gd:Stmt:=jO 46
abbrev fm:Stmt:=jO 47
abbrev gg:Stmt:=jO 48
abbrev eI:Stmt:=jO 49
abbrev eG:Stmt:=jO 50
abbrev eB:Stmt:=jO 51
abbrev fy:Stmt:=jO 52
abbrev cK:Stmt:=jO 53
abbrev mE:Stmt:=jO 54
theorem sc_order_turned:FnScope ["order","k","size"] ["order","k"] (aq dg):=⟨rfl,rfl,rfl,by decide+kernel,rfl,by decide+kernel,by decide+kernel⟩
def qf:FS:=
 aD (bj 2 (ak bu (ae (ai 0) (aj))))
 (aZ (ak dC (ae (aR 1 (bz (ae (ai 2) (aj))) (gN 3) (cq) (av aW (ai 0) (av cH (av km (ai 3) (ai 1)) (ai 2)))) (aj))))
def gU:List D->Option D:=gr .s 3 qf
theorem qB(B:Bt mg)(F:Df K mg "order_turned" dg ["order","k"])(ET:Et K mg kx0 kx1 kx2):Cl P w K mg base 1 "order_turned" ["order","k"] (dS K .s 2 gU):=by
 refine br (k:=0) F sc_order_turned (by decide) rfl λ_ cdv A outer s H hid E hr=>?_
 exact(ar (bp 2 sc_order_turned.nd (aQ aI cb B.b_len (aM (ag 0) be) (hv:=by kernel_rfl)))
  (aB (aY (eO cx gD B.b_tuple (aM (dw (N':=["order","k","size","place"]) rfl (bH (K4 rfl)) (DIp.b (bw B.b_range (ah (ag 2) au))) (λ_ _ _ _=>(ay 3 JF)) (λ_ _ _ _=>cC) (λ_ _ _ _=>(aT aH aS (ag 0) (gO (m8 (ag 3) (ag 1)) (ag 2)) (λ_ _=>rfl)))) be) (hv:=by kernel_rfl)))))
theorem sc_order_raised:FnScope ["order","k","size"] ["order","k"] (aq du):=⟨rfl,rfl,rfl,by decide+kernel,rfl,by decide+kernel,by decide+kernel⟩
def qC:FS:=
 aD (bj 2 (ak bu (ae (ai 0) (aj))))
 (aZ (ak dC (ae (aR 1 (dz (ai 0)) (gN 3) (cq) (av cH (av bC (ai 3) (ai 1)) (ai 2))) (aj))))
def gC:List D->Option D:=gr .s 3 qC
theorem p4(B:Bt mg)(F:Df K mg "order_raised" du ["order","k"])(ET:Et K mg kx0 kx1 kx2):Cl P w K mg base 1 "order_raised" ["order","k"] (dS K .s 2 gC):=by
 refine br (k:=0) F sc_order_raised (by decide) rfl λ_ cdv A outer s H hid E hr=>?_
 exact(ar (bp 2 sc_order_raised.nd (aQ aI cb B.b_len (aM (ag 0) be) (hv:=by kernel_rfl)))
  (aB (aY (eO cx gD B.b_tuple (aM (dw (N':=["order","k","size","number"]) rfl (bH (K4 rfl)) (DIp.b (dW (ag 0))) (λ_ _ _ _=>(ay 3 Jz)) (λ_ _ _ _=>cC) (λ_ _ _ _=>(gO (cQ (ag 3) (ag 1)) (ag 2)))) be) (hv:=by kernel_rfl)))))
theorem pI:FnScope ["order"] ["order"] (aq dv):=⟨rfl,rfl,rfl,by decide+kernel,rfl,by decide+kernel,by decide+kernel⟩
def qY:FS:=
 aZ (ak dC (ae (aR 1 (bz (ae (ak bu (ae (ai 0) (aj))) (aj))) (gN 1) (cq) (av lB (ai 0) (ai 1))) (aj)))
def gE:List D->Option D:=gr .s 1 qY
theorem qO(B:Bt mg)(F:Df K mg "order_tipped" dv ["order"])(ET:Et K mg kx0 kx1 kx2):Cl P w K mg base 1 "order_tipped" ["order"] (dS K .s 1 gE):=by
 refine br (k:=0) F pI (by decide) rfl λ_ cdv A outer s H hid E hr=>?_
 exact(aB (aY (eO cx gD B.b_tuple (aM (dw (N':=["order","number"]) rfl (bH (K4 rfl)) (DIp.b (bw B.b_range (ah (aQ aI cb B.b_len (aM (ag 0) be) (hv:=by kernel_rfl)) au))) (λ_ _ _ _=>(ay 1 Ju)) (λ_ _ _ _=>cC) (λ_ _ _ _=>(eZ hr.units (ag 0) (ag 1)))) be) (hv:=by kernel_rfl))))
theorem sc_order_exchanged:FnScope ["order","one","other","numbers"] ["order","one","other"] (aq bY):=⟨rfl,rfl,rfl,by decide+kernel,rfl,by decide+kernel,by decide+kernel⟩
def nN:FS:=
 aD (fK 3 (ak yu (ae (ai 0) (aj))))
 (aD (dc (gT 2 (cA (ft 3 (ai 1)) (cA (ft 3 (ai 2)) (iC)))) (pu (bF (ae (av aW (ai 0) (ai 2)) (ae (av aW (ai 0) (ai 1)) (aj))))))
 (aZ (ak dC (ae (fI 3) (aj)))))
def eS:List D->Option D:=gr .s 4 nN
theorem n9(B:Bt mg)(F:Df K mg "order_exchanged" bY ["order","one","other"])(ET:Et K mg kx0 kx1 kx2):Cl P w K mg base 1 "order_exchanged" ["order","one","other"] (dS K .s 3 eS):=by
 refine br (k:=0) F sc_order_exchanged (by decide) rfl λ_ cdv A outer s H hid E hr=>?_
 exact(ar (jW 3 sc_order_exchanged.nd (eO uh Dv B.b_list (aM (ag 0) be) (hv:=by kernel_rfl)))
  (ar (qd (DP.ef (ee (ah (aT aH aS (ag 0) (ag 2) (λ_ _=>rfl)) (ah (aT aH aS (ag 0) (ag 1) (λ_ _=>rfl)) au)))) (xy (n:=2) rfl (nQ (kT 3 (ag 1)) (nQ (kT 3 (ag 2)) yo))))
  (aB (aY (eO cx gD B.b_tuple (aM (fL 3) be) (hv:=by kernel_rfl))))))
theorem sc_order_rounds:FnScope ["order","rounds","start","places"] ["order"] (aq de):=⟨rfl,rfl,rfl,by decide+kernel,rfl,by decide+kernel,by decide+kernel⟩
def qJ:FS:=
 aD (fK 1 (dZ (aj)))
 (aD (gW (dU (bz (ae (ak bu (ae (ai 0) (aj))) (aj)))) (gN 2) (aD (fK 3 (dZ (ae (ai 2) (aj))))
 (aD (pV (bL (av nM (av aW (ai 0) (av aW (fI 3) (tO (aA (.int 1))))) (ai 2))) (eX (bn 3 1 la (dU (ae (av aW (ai 0) (av aW (fI 3) (tO (aA (.int 1))))) (aj))))) 16)
 (fS (bL (av iD (ak sv (ae (fI 3) (aj))) (ai 2))) ((λρ=>(eX (bn 1 1 la (dU (ae (ai 3) (aj))))) (zx 3 ρ))) (skip)))))
 (rS 1))
def jC:List D->Option D:=gr .n 4 qJ
theorem qc(B:Bt mg)(F:Df K mg "order_rounds" de ["order"])(ET:Et K mg kx0 kx1 kx2):Cl P w K mg base 1 "order_rounds" ["order"] (dS K .n 1 jC):=by
 refine br (k:=0) F sc_order_rounds (by decide) rfl λ_ cdv A outer s H hid E hr=>?_
 exact(ar (jW 1 sc_order_rounds.nd (iG au))
  (ar (iX L6 rfl (DIp.e (bw B.b_range (ah (aQ aI cb B.b_len (aM (ag 0) be) (hv:=by kernel_rfl)) au))) (ay 2 sc_order_rounds.nd) (ar (jW 3 sc_order_rounds.nd (iG (ah (ag 2) au)))
  (ar (rf 16 L6 (bD (lu hr.units) nW (aT aH aS (ag 0) (aT aH aS (fL 3) (ub ax) (λ_ _=>rfl)) (λ_ _=>rfl)) (ag 2) (bA _)) (aB (kO (jS 3 ko gh MU MV (DA.gf (ah (aT aH aS (ag 0) (aT aH aS (fL 3) (ub ax) (λ_ _=>rfl)) (λ_ _=>rfl)) au))))))
  (aB (fN (bD (eP hr.units) gY (aQ (zi rfl) EB B.b_min (aM (fL 3) be) (hv:=by kernel_rfl)) (ag 2) (bA _)) (aB (Hk 3 (kO (jS 1 ko gh MU MV (DA.gf (ah (ag 3) au)))))) cw)))))
  (aB (pY 1))))
theorem sc_lines_of:FnScope ["square","rings","crosses"] ["square"] (aq fY):=⟨rfl,rfl,rfl,by decide+kernel,rfl,by decide+kernel,by decide+kernel⟩
def ng:FS:=
 aD (dc (gT 2 (cA (gN 1) (cA (gN 2) (iC)))) (pu (ai 0)))
 (aZ (ak (nF 1 jC) (ae (aR 1 (dz (ai 1)) (gN 3) (cq) (av lB (ai 2) (ai 3))) (aj))))
def eC:List D->Option D:=gr .n 3 ng
theorem wx(B:Bt mg)(F:Df K mg "lines_of" fY ["square"])(ET:Et K mg kx0 kx1 kx2)(ju:Cl P w K mg base 1 "order_rounds" ["order"] (dS K .n 1 jC)):Cl P w K mg base 2 "lines_of" ["square"] (dS K .n 1 eC):=by
 refine br (k:=1) F sc_lines_of (by decide) rfl λ_ cdv A outer s H hid E hr=>?_
 exact(ar (gL (DP.ef (ag 0)) (cR (n:=2) rfl (aL (ay 1 sc_lines_of.nd) (aL (ay 2 sc_lines_of.nd) cO))))
  (aB (aY (bB ju (hr.mono (by decide)) (ah (DP.toS (dw (N':=["square","rings","crosses","ring"]) rfl (bH (K4 rfl)) (DIp.b (dW (ag 1))) (λ_ _ _ _=>(ay 3 Kc)) (λ_ _ _ _=>cC) (λ_ _ _ _=>(eZ hr.units (ag 2) (ag 3))))) au)))))
theorem pF:FnScope ["at","one","other"] ["at","one","other"] (aq di):=⟨rfl,rfl,rfl,by decide+kernel,rfl,by decide+kernel,by decide+kernel⟩
def qX:FS:=
 aZ (rh uv uv (ak lQ (ae (ai 1) (ae (ai 2) (aj)))) (ai 0) (ak rX (ae (ai 1) (ae (ai 2) (aj)))))
def cU:List D->Option D:=gr .s 3 qX
theorem p5(B:Bt mg)(F:Df K mg "lies_between" di ["at","one","other"])(ET:Et K mg kx0 kx1 kx2):Cl P w K mg base 1 "lies_between" ["at","one","other"] (dS K .s 3 cU):=by
 refine br (k:=0) F pF (by decide) rfl λ_ cdv A outer s H hid E hr=>?_
 exact(aB (aY (Fp pj pj gm gm (aQ (oz rfl) ui B.b_min (aM (ag 1) (aM (ag 2) be)) (hv:=by kernel_rfl)) (ag 0) (aQ (rY rfl) xP B.b_max (aM (ag 1) (aM (ag 2) be)) (hv:=by kernel_rfl)))))
theorem sc_goes_up:FnScope ["square","column","rings","crosses"] ["square","column"] (aq hJ):=⟨rfl,rfl,rfl,by decide+kernel,rfl,by decide+kernel,by decide+kernel⟩
def oo:FS:=
 aD (dc (gT 2 (cA (gN 2) (cA (gN 3) (iC)))) (pu (ai 0)))
 (aZ (av uv (av aW (ai 3) (ai 1)) (av aW (ai 2) (ai 1))))
def kB:List D->Option D:=gr .s 4 oo
theorem zw(B:Bt mg)(F:Df K mg "goes_up" hJ ["square","column"])(ET:Et K mg kx0 kx1 kx2):Cl P w K mg base 1 "goes_up" ["square","column"] (dS K .s 2 kB):=by
 refine br (k:=0) F sc_goes_up (by decide) rfl λ_ cdv A outer s H hid E hr=>?_
 exact(ar (gL (DP.ef (ag 0)) (cR (n:=2) rfl (aL (ay 2 sc_goes_up.nd) (aL (ay 3 sc_goes_up.nd) cO))))
  (aB (aY (lP pj gm (aT aH aS (ag 3) (ag 1) (λ_ _=>rfl)) (aT aH aS (ag 2) (ag 1) (λ_ _=>rfl)) (bA _)))))
theorem sc_goes_right:FnScope ["square","row","rings","crosses"] ["square","row"] (aq eD):=⟨rfl,rfl,rfl,by decide+kernel,rfl,by decide+kernel,by decide+kernel⟩
def lg:FS:=
 aD (dc (gT 2 (cA (gN 2) (cA (gN 3) (iC)))) (pu (ai 0)))
 (aZ (av uv (av lB (ai 2) (ai 1)) (av lB (ai 3) (ai 1))))
def gS:List D->Option D:=gr .s 4 lg
theorem tW(B:Bt mg)(F:Df K mg "goes_right" eD ["square","row"])(ET:Et K mg kx0 kx1 kx2):Cl P w K mg base 1 "goes_right" ["square","row"] (dS K .s 2 gS):=by
 refine br (k:=0) F sc_goes_right (by decide) rfl λ_ cdv A outer s H hid E hr=>?_
 exact(ar (gL (DP.ef (ag 0)) (cR (n:=2) rfl (aL (ay 2 sc_goes_right.nd) (aL (ay 3 sc_goes_right.nd) cO))))
  (aB (aY (lP pj gm (eZ hr.units (ag 2) (ag 1)) (eZ hr.units (ag 3) (ag 1)) (bA _)))))
theorem sc_is_crossing:FnScope ["square","column","row","rings","crosses"] ["square","column","row"] (aq dN):=⟨rfl,rfl,rfl,by decide+kernel,rfl,by decide+kernel,by decide+kernel⟩
def kc:FS:=
 aD (dc (gT 2 (cA (gN 3) (cA (gN 4) (iC)))) (pu (ai 0)))
 (aD (fS (fJ (fZ (ak (nF 3 cU) (ae (ai 2) (ae (av aW (ai 3) (ai 1)) (ae (av aW (ai 4) (ai 1)) (aj))))))) (aZ (aA (.bl false))) (skip))
 (aZ (ak (nF 3 cU) (ae (ai 1) (ae (av lB (ai 3) (ai 2)) (ae (av lB (ai 4) (ai 2)) (aj)))))))
def ip:List D->Option D:=gr .s 5 kc
theorem rM(B:Bt mg)(F:Df K mg "is_crossing" dN ["square","column","row"])(ET:Et K mg kx0 kx1 kx2)(cY:Cl P w K mg base 1 "lies_between" ["at","one","other"] (dS K .s 3 cU)):Cl P w K mg base 2 "is_crossing" ["square","column","row"] (dS K .s 3 ip):=by
 refine br (k:=1) F sc_is_crossing (by decide) rfl λ_ cdv A outer s H hid E hr=>?_
 exact(ar (gL (DP.ef (ag 0)) (cR (n:=2) rfl (aL (ay 3 sc_is_crossing.nd) (aL (ay 4 sc_is_crossing.nd) cO))))
  (ar (fN (j6 (lv (bB cY (hr.mono (by decide)) (ah (ag 2) (ah (aT aH aS (ag 3) (ag 1) (λ_ _=>rfl)) (ah (aT aH aS (ag 4) (ag 1) (λ_ _=>rfl)) au)))))) (aB (aY pz)) cw)
  (aB (aY (bB cY (hr.mono (by decide)) (ah (ag 1) (ah (eZ hr.units (ag 3) (ag 2)) (ah (eZ hr.units (ag 4) (ag 2)) au))))))))
theorem ww:FnScope ["square","column","row"] ["square","column","row"] (aq ib):=⟨rfl,rfl,rfl,by decide+kernel,rfl,by decide+kernel,by decide+kernel⟩
def oq:FS:=
 aZ (Ae (bL (av nM (ak (nF 2 kB) (ae (ai 0) (ae (ai 1) (aj)))) (ak (nF 2 gS) (ae (ai 0) (ae (ai 2) (aj)))))) (aA (.int 1)) (tO (aA (.int 1))))
def mw:List D->Option D:=gr .s 3 oq
theorem yU(B:Bt mg)(F:Df K mg "sign_at" ib ["square","column","row"])(ET:Et K mg kx0 kx1 kx2)(oy:Cl P w K mg base 1 "goes_up" ["square","column"] (dS K .s 2 kB))(lb:Cl P w K mg base 1 "goes_right" ["square","row"] (dS K .s 2 gS)):Cl P w K mg base 2 "sign_at" ["square","column","row"] (dS K .s 3 mw):=by
 refine br (k:=1) F ww (by decide) rfl λ_ cdv A outer s H hid E hr=>?_
 exact(aB (aY (Ax (by decide) (bD (lu hr.units) nW (bB oy (hr.mono (by decide)) (ah (ag 0) (ah (ag 1) au))) (bB lb (hr.mono (by decide)) (ah (ag 0) (ah (ag 2) au))) (bA _)) ax (ub ax))))
theorem sc_crossings_of:FnScope ["square","size"] ["square"] (aq db):=⟨rfl,rfl,rfl,by decide+kernel,rfl,by decide+kernel,by decide+kernel⟩
def jv:FS:=
 aD (bj 1 (ak bu (ae (av aW (ai 0) (aA (.int 0))) (aj))))
 (aZ (xh 2 (bz (ae (ai 1) (aj))) (gN 2) (cq) (bz (ae (ai 1) (aj))) (gN 3) (fZ (ak (nF 3 ip) (ae (ai 0) (ae (ai 2) (ae (ai 3) (aj)))))) (bF (ae (ai 2) (ae (ai 3) (ae (ak (nF 3 mw) (ae (ai 0) (ae (ai 2) (ae (ai 3) (aj))))) (aj)))))))
def cf:List D->Option D:=gr .n 2 jv
theorem qT(B:Bt mg)(F:Df K mg "crossings_of" db ["square"])(ET:Et K mg kx0 kx1 kx2)(oM:Cl P w K mg base 2 "sign_at" ["square","column","row"] (dS K .s 3 mw))(ke:Cl P w K mg base 2 "is_crossing" ["square","column","row"] (dS K .s 3 ip)):Cl P w K mg base 3 "crossings_of" ["square"] (dS K .n 1 cf):=by
 refine br (k:=2) F sc_crossings_of (by decide) rfl λ_ cdv A outer s H hid E hr=>?_
 exact(ar (bp 1 sc_crossings_of.nd (aQ aI cb B.b_len (aM (aT aH aS (ag 0) ax (λ_ _=>rfl)) be) (hv:=by kernel_rfl)))
  (aB (aY (vF (N':=["square","size","column","row"]) rfl 3 (bH (K4 rfl)) (DX (K4 rfl)) (bH (K4 rfl)) (DIp.b (bw B.b_range (ah (ag 1) au))) (λ_ _ _ _=>(ay 2 HN)) (λ_ _ _ _=>cC) (λ_ _ _ _=>(bw B.b_range (ah (ag 1) au))) (λ_ _ _ _=>(ay 3 HN)) (λ_ _ _ _=>(jd (lv (bB ke (hr.mono (by decide)) (ah (ag 0) (ah (ag 2) (ah (ag 3) au))))))) (λ_ _ _ _=>(ee (ah (ag 2) (ah (ag 3) (ah (bB oM (hr.mono (by decide)) (ah (ag 0) (ah (ag 2) (ah (ag 3) au)))) au)))))))))
theorem sc_meetings_of:FnScope ["square","lines","rings","line_at"] ["square","lines"] (aq dM):=⟨rfl,rfl,rfl,by decide+kernel,rfl,by decide+kernel,by decide+kernel⟩
def ka:FS:=
 aD (bj 2 (av aW (ai 0) (aA (.int 0))))
 (aD (BO 3 3 (Ap (ai 1)) (gT 2 (cA (gN 4) (cA (gN 5) (iC)))) (cq) (Fg (dz (ai 5)) (gN 6) (cq) (ai 6) (ai 4)))
 (aZ (aR 3 (dz (ak (nF 1 cf) (ae (ai 0) (aj)))) (gT 3 (cA (gN 4) (cA (gN 5) (cA (gN 6) (iC))))) (cq) (bF (ae (EO 3 (ai 4)) (ae (EO 3 (av lB (ai 2) (ai 5))) (ae (ai 6) (aj))))))))
def iw:List D->Option D:=gr .n 4 ka
theorem rH(B:Bt mg)(F:Df K mg "meetings_of" dM ["square","lines"])(ET:Et K mg kx0 kx1 kx2)(ei:Cl P w K mg base 3 "crossings_of" ["square"] (dS K .n 1 cf)):Cl P w K mg base 4 "meetings_of" ["square","lines"] (dS K .n 2 iw):=by
 refine br (k:=3) F sc_meetings_of (by decide) rfl λ_ cdv A outer s H hid E hr=>?_
 exact(ar (bp 2 sc_meetings_of.nd (aT aH aS (ag 0) ax (λ_ _=>rfl)))
  (ar (zT 3 (N':=["square","lines","rings","line_at","number","line","column"]) sc_meetings_of.nd rfl 6 (tw (dJ (bH (K4 rfl)) (dJ (bH (K4 rfl)) mq))) (Jp (vT (DX (K4 rfl)) (vT (DX (K4 rfl)) De))) (bH (K4 rfl)) (DIp.b (zk (ag 1) B.b_enumerate)) (λ_ _ _ _=>(cR (n:=2) rfl (aL (ay 4 Gv) (aL (ay 5 Gv) cO)))) (λ_ _ _ _=>cC) (λ_ _ _ _=>(dW (ag 5))) (λ_ _ _ _=>(ay 6 Gv)) (λ_ _ _ _=>cC) (λ_ _ _ _=>(ag 6)) (λ_ _ _ _=>(ag 4)))
  (aB (aY (dw (N':=["square","lines","rings","line_at","column","row","sign"]) rfl (tw (dJ (bH (K4 rfl)) (dJ (bH (K4 rfl)) (dJ (bH (K4 rfl)) mq)))) (DIp.b (dW (DP.toS (bB ei (hr.mono (by decide)) (ah (ag 0) au))))) (λ_ _ _ _=>(cR (n:=3) rfl (aL (ay 4 FP) (aL (ay 5 FP) (aL (ay 6 FP) cO))))) (λ_ _ _ _=>cC) (λ_ _ _ _=>(ee (ah (CK 3 (xp hr) (ag 4) (λ_ _=>rfl)) (ah (CK 3 (xp hr) (eZ hr.units (ag 2) (ag 5)) (λ_ _=>rfl)) (ah (ag 6) au))))))))))
theorem sc_signs_between:FnScope ["meetings","one","other","pairs"] ["meetings","one","other"] (aq cG):=⟨rfl,rfl,rfl,by decide+kernel,rfl,by decide+kernel,by decide+kernel⟩
def iO:FS:=
 aD (bj 3 (bF (ae (bF (ae (ai 1) (ae (ai 2) (aj)))) (ae (bF (ae (ai 2) (ae (ai 1) (aj)))) (aj)))))
 (aZ (ak Hc (ae (aR 3 (dz (ai 0)) (gT 3 (cA (gN 4) (cA (gN 5) (cA (gN 6) (iC))))) (bL (av (mC false) (bF (ae (ai 4) (ae (ai 5) (aj)))) (ai 3))) (ai 6)) (aj))))
def fR:List D->Option D:=gr .s 4 iO
theorem pK(B:Bt mg)(F:Df K mg "signs_between" cG ["meetings","one","other"])(ET:Et K mg kx0 kx1 kx2):Cl P w K mg base 1 "signs_between" ["meetings","one","other"] (dS K .s 3 fR):=by
 refine br (k:=0) F sc_signs_between (by decide) rfl λ_ cdv A outer s H hid E hr=>?_
 exact(QSs.to (jq (pQ 3 sc_signs_between.nd (eQ (aG (eQ (aG (QP.of (ag 1)) (aG (QP.of (ag 2)) dq))) (aG (eQ (aG (QP.of (ag 2)) (aG (QP.of (ag 1)) dq))) dq fB) fB)))
  (t9 (QS.of (aY (aQ (A6 rfl) GL B.b_sum (aM (dw (N':=["meetings","one","other","pairs","over","beneath","sign"]) rfl (tw (dJ (bH (K4 rfl)) (dJ (bH (K4 rfl)) (dJ (bH (K4 rfl)) mq)))) (DIp.b (dW (ag 0))) (λ_ _ _ _=>(cR (n:=3) rfl (aL (ay 4 GF) (aL (ay 5 GF) (aL (ay 6 GF) cO))))) (λ_ _ _ _=>(jd (bD (oZ hr.units) (qU false) (ee (ah (ag 4) (ah (ag 5) au))) (ag 3) (by with_unfolding_all rfl)))) (λ_ _ _ _=>(ag 6))) be) (hv:=by kernel_rfl)))))))
theorem sc_ties_of:FnScope ["square","lines","meetings"] ["square"] (aq h9):=⟨rfl,rfl,rfl,by decide+kernel,rfl,by decide+kernel,by decide+kernel⟩
def oC:FS:=
 aD (bj 1 (ak (nF 1 eC) (ae (ai 0) (aj))))
 (aD (bj 2 (ak (nF 2 iw) (ae (ai 0) (ae (ai 1) (aj)))))
 (aZ (xh 2 (bz (ae (ak bu (ae (ai 1) (aj))) (aj))) (gN 3) (cq) (po (ae (av bC (ai 3) (aA (.int 1))) (ae (ak bu (ae (ai 1) (aj))) (aj)))) (gN 4) (cq) (bF (ae (ai 3) (ae (ai 4) (ae (av iZ (ak (nF 3 fR) (ae (ai 2) (ae (ai 3) (ae (ai 4) (aj))))) (aA (.int 2))) (aj))))))))
def ms:List D->Option D:=gr .n 3 oC
theorem yW(B:Bt mg)(F:Df K mg "ties_of" h9 ["square"])(ET:Et K mg kx0 kx1 kx2)(hZ:Cl P w K mg base 2 "lines_of" ["square"] (dS K .n 1 eC))(j5:Cl P w K mg base 4 "meetings_of" ["square","lines"] (dS K .n 2 iw))(iW:Cl P w K mg base 1 "signs_between" ["meetings","one","other"] (dS K .s 3 fR)):Cl P w K mg base 5 "ties_of" ["square"] (dS K .n 1 ms):=by
 refine br (k:=4) F sc_ties_of (by decide) rfl λ_ cdv A outer s H hid E hr=>?_
 exact(ar (bp 1 sc_ties_of.nd (DP.toS (bB hZ (hr.mono (by decide)) (ah (ag 0) au))))
  (ar (bp 2 sc_ties_of.nd (DP.toS (bB j5 (hr.mono (by decide)) (ah (ag 0) (ah (ag 1) au)))))
  (aB (aY (vF (N':=["square","lines","meetings","one","other"]) rfl 4 (bH (K4 rfl)) (DX (K4 rfl)) (bH (K4 rfl)) (DIp.b (bw B.b_range (ah (aQ aI cb B.b_len (aM (ag 1) be) (hv:=by kernel_rfl)) au))) (λ_ _ _ _=>(ay 3 HP)) (λ_ _ _ _=>cC) (λ_ _ _ _=>(qb B.b_range (ah (cQ (ag 3) ax) (ah (aQ aI cb B.b_len (aM (ag 1) be) (hv:=by kernel_rfl)) au)))) (λ_ _ _ _=>(ay 4 HP)) (λ_ _ _ _=>cC) (λ_ _ _ _=>(ee (ah (ag 3) (ah (ag 4) (ah (nu (bB iW (hr.mono (by decide)) (ah (ag 2) (ah (ag 3) (ah (ag 4) au)))) ax) au))))))))))
theorem sc_columns_turned:FnScope ["square","k","rings","crosses"] ["square","k"] (aq cm):=⟨rfl,rfl,rfl,by decide+kernel,rfl,by decide+kernel,by decide+kernel⟩
def oW:FS:=
 aD (dc (gT 2 (cA (gN 2) (cA (gN 3) (iC)))) (pu (ai 0)))
 (aZ (bF (ae (ak (nF 2 gU) (ae (ai 2) (ae (ai 1) (aj)))) (ae (ak (nF 2 gU) (ae (ai 3) (ae (ai 1) (aj)))) (aj)))))
def ig:List D->Option D:=gr .s 4 oW
theorem oB(B:Bt mg)(F:Df K mg "columns_turned" cm ["square","k"])(ET:Et K mg kx0 kx1 kx2)(gJ:Cl P w K mg base 1 "order_turned" ["order","k"] (dS K .s 2 gU)):Cl P w K mg base 2 "columns_turned" ["square","k"] (dS K .s 2 ig):=by
 refine br (k:=1) F sc_columns_turned (by decide) rfl λ_ cdv A outer s H hid E hr=>?_
 exact(ar (gL (DP.ef (ag 0)) (cR (n:=2) rfl (aL (ay 2 sc_columns_turned.nd) (aL (ay 3 sc_columns_turned.nd) cO))))
  (aB (aY (ee (ah (bB gJ (hr.mono (by decide)) (ah (ag 2) (ah (ag 1) au))) (ah (bB gJ (hr.mono (by decide)) (ah (ag 3) (ah (ag 1) au))) au))))))
theorem sc_rows_turned:FnScope ["square","k","rings","crosses"] ["square","k"] (aq dP):=⟨rfl,rfl,rfl,by decide+kernel,rfl,by decide+kernel,by decide+kernel⟩
def rm:FS:=
 aD (dc (gT 2 (cA (gN 2) (cA (gN 3) (iC)))) (pu (ai 0)))
 (aZ (bF (ae (ak (nF 2 gC) (ae (ai 2) (ae (ai 1) (aj)))) (ae (ak (nF 2 gC) (ae (ai 3) (ae (ai 1) (aj)))) (aj)))))
def j8:List D->Option D:=gr .s 4 rm
theorem rL(B:Bt mg)(F:Df K mg "rows_turned" dP ["square","k"])(ET:Et K mg kx0 kx1 kx2)(gM:Cl P w K mg base 1 "order_raised" ["order","k"] (dS K .s 2 gC)):Cl P w K mg base 2 "rows_turned" ["square","k"] (dS K .s 2 j8):=by
 refine br (k:=1) F sc_rows_turned (by decide) rfl λ_ cdv A outer s H hid E hr=>?_
 exact(ar (gL (DP.ef (ag 0)) (cR (n:=2) rfl (aL (ay 2 sc_rows_turned.nd) (aL (ay 3 sc_rows_turned.nd) cO))))
  (aB (aY (ee (ah (bB gM (hr.mono (by decide)) (ah (ag 2) (ah (ag 1) au))) (ah (bB gM (hr.mono (by decide)) (ah (ag 3) (ah (ag 1) au))) au))))))
theorem sc_tipped:FnScope ["square","rings","crosses"] ["square"] (aq ji):=⟨rfl,rfl,rfl,by decide+kernel,rfl,by decide+kernel,by decide+kernel⟩
def Ab:FS:=
 aD (dc (gT 2 (cA (gN 1) (cA (gN 2) (iC)))) (pu (ai 0)))
 (aZ (bF (ae (ak (nF 1 gE) (ae (ai 1) (aj))) (ae (ak (nF 1 gE) (ae (ai 2) (aj))) (aj)))))
def kH:List D->Option D:=gr .s 3 Ab
theorem Bv(B:Bt mg)(F:Df K mg "tipped" ji ["square"])(ET:Et K mg kx0 kx1 kx2)(gK:Cl P w K mg base 1 "order_tipped" ["order"] (dS K .s 1 gE)):Cl P w K mg base 2 "tipped" ["square"] (dS K .s 1 kH):=by
 refine br (k:=1) F sc_tipped (by decide) rfl λ_ cdv A outer s H hid E hr=>?_
 exact(ar (gL (DP.ef (ag 0)) (cR (n:=2) rfl (aL (ay 1 sc_tipped.nd) (aL (ay 2 sc_tipped.nd) cO))))
  (aB (aY (ee (ah (bB gK (hr.mono (by decide)) (ah (ag 1) au)) (ah (bB gK (hr.mono (by decide)) (ah (ag 2) au)) au))))))
theorem sc_may_change:FnScope ["square","c","rings","crosses","one","other","between"] ["square","c"] (aq en):=⟨rfl,rfl,rfl,by decide+kernel,rfl,by decide+kernel,by decide+kernel⟩
def tH:FS:=
 aD (dc (gT 2 (cA (gN 2) (cA (gN 3) (iC)))) (pu (ai 0)))
 (aD (fS (fJ (bL (rh qK qK (aA (.int 0)) (ai 1) (av km (ak bu (ae (ai 2) (aj))) (aA (.int 2)))))) (aZ (aA (.bl false))) (skip))
 (aD (bj 4 (bF (ae (av aW (ai 2) (ai 1)) (ae (av aW (ai 3) (ai 1)) (aj)))))
 (aD (bj 5 (bF (ae (av aW (ai 2) (av bC (ai 1) (aA (.int 1)))) (ae (av aW (ai 3) (av bC (ai 1) (aA (.int 1)))) (aj)))))
 (aD (fS (rj (bL (av (mC false) (av aW (ai 4) (aA (.int 0))) (ai 5))) (bL (av (mC false) (av aW (ai 4) (aA (.int 1))) (ai 5)))) (aZ (aA (.bl false))) (skip))
 (aD (bj 6 (aR 1 (dz (ai 5)) (gN 7) (fZ (ak (nF 3 cU) (ae (ai 7) (ae (av aW (ai 4) (aA (.int 0))) (ae (av aW (ai 4) (aA (.int 1))) (aj)))))) (ai 7)))
 (aZ (av nM (ak bu (ae (ai 6) (aj))) (aA (.int 1)))))))))
def kZ:List D->Option D:=gr .s 7 tH
theorem sV(B:Bt mg)(F:Df K mg "may_change" en ["square","c"])(ET:Et K mg kx0 kx1 kx2)(cY:Cl P w K mg base 1 "lies_between" ["at","one","other"] (dS K .s 3 cU)):Cl P w K mg base 2 "may_change" ["square","c"] (dS K .s 2 kZ):=by
 refine br (k:=1) F sc_may_change (by decide) rfl λ_ cdv A outer s H hid E hr=>?_
 exact(ar (gL (DP.ef (ag 0)) (cR (n:=2) rfl (aL (ay 2 sc_may_change.nd) (aL (ay 3 sc_may_change.nd) cO))))
  (ar (fN (j6 (yj pe pe gm gm ax (ag 1) (m8 (aQ aI cb B.b_len (aM (ag 2) be) (hv:=by kernel_rfl)) ax))) (aB (aY pz)) cw)
  (ar (bp 4 sc_may_change.nd (ee (ah (aT aH aS (ag 2) (ag 1) (λ_ _=>rfl)) (ah (aT aH aS (ag 3) (ag 1) (λ_ _=>rfl)) au))))
  (ar (bp 5 sc_may_change.nd (ee (ah (aT aH aS (ag 2) (cQ (ag 1) ax) (λ_ _=>rfl)) (ah (aT aH aS (ag 3) (cQ (ag 1) ax) (λ_ _=>rfl)) au))))
  (ar (fN (DW.dt (uX (bD (oZ hr.units) (qU false) (aT aH aS (ag 4) ax (λ_ _=>rfl)) (ag 5) (by with_unfolding_all rfl)) (tx (bD (oZ hr.units) (qU false) (aT aH aS (ag 4) ax (λ_ _=>rfl)) (ag 5) (by with_unfolding_all rfl))))) (aB (aY pz)) cw)
  (ar (Dj 6 (N':=["square","c","rings","crosses","one","other","between","row"]) rfl sc_may_change.nd (bH (K4 rfl)) (DIp.b (dW (ag 5))) (λ_ _ _ _=>(ay 7 Jw)) (λ_ _ _ _=>(jd (lv (bB cY (hr.mono (by decide)) (ah (ag 7) (ah (aT aH aS (ag 4) ax (λ_ _=>rfl)) (ah (aT aH aS (ag 4) ax (λ_ _=>rfl)) au))))))) (λ_ _ _ _=>(ag 7)))
  (aB (aY (lP (lu hr.units) nW (aQ aI cb B.b_len (aM (ag 6) be) (hv:=by kernel_rfl)) ax (bA _))))))))))
theorem sc_columns_changed:FnScope ["square","c","rings","crosses"] ["square","c"] (aq ca):=⟨rfl,rfl,rfl,by decide+kernel,rfl,by decide+kernel,by decide+kernel⟩
def nq:FX:=
 eJ (rg (fJ (fZ (ak (nF 2 kZ) (ae (ai 0) (ae (ai 1) (aj)))))) (rC ⟨"NoMove",0⟩ (ae (aA (.str "these columns may not be exchanged")) (aj))) (kA skip))
 (kA (aD (dc (gT 2 (cA (gN 2) (cA (gN 3) (iC)))) (pu (ai 0)))
 (aZ (bF (ae (ak (nF 3 eS) (ae (ai 2) (ae (ai 1) (ae (av bC (ai 1) (aA (.int 1))) (aj))))) (ae (ak (nF 3 eS) (ae (ai 3) (ae (ai 1) (ae (av bC (ai 1) (aA (.int 1))) (aj))))) (aj)))))))
def dH:List D->Option (Except Ex D):=ut .s 4 nq
theorem nV(B:Bt mg)(F:Df K mg "columns_changed" ca ["square","c"])(ET:Et K mg kx0 kx1 kx2)(lm:Cl P w K mg base 2 "may_change" ["square","c"] (dS K .s 2 kZ))(eT:Cl P w K mg base 1 "order_exchanged" ["order","one","other"] (dS K .s 3 eS)):ClX P w K mg base 3 "columns_changed" ["square","c"] (za K .s 2 dH):=by
 refine ma (k:=2) F sc_columns_changed (by decide) rfl λ_ cdv A outer s H hid E hr=>?_
 exact(cT (mP (DT.nox (j6 (lv (bB lm (hr.mono (by decide)) (ah (ag 0) (ah (ag 1) au)))))) (fP (mj (n:=0) (ET.t.row _ (Mm _ (Mt _))).mg (ET.t.row _ (Mm _ (Mt _))).ns ET.o_NoMove hr.hd (DA.nox (ah eA au)))) jo)
  (oA (ar (gL (DP.ef (ag 0)) (cR (n:=2) rfl (aL (ay 2 sc_columns_changed.nd) (aL (ay 3 sc_columns_changed.nd) cO))))
  (aB (aY (ee (ah (bB eT (hr.mono (by decide)) (ah (ag 2) (ah (ag 1) (ah (cQ (ag 1) ax) au)))) (ah (bB eT (hr.mono (by decide)) (ah (ag 3) (ah (ag 1) (ah (cQ (ag 1) ax) au)))) au))))))))
theorem pD:FnScope ["square","r"] ["square","r"] (aq cV):=⟨rfl,rfl,rfl,by decide+kernel,rfl,by decide+kernel,by decide+kernel⟩
def qZ:FX:=
 j4 (s0 1 kH (pi (eg 2 dH (iU (ae (ak (nF 1 kH) (ae (ai 0) (aj))) (ae (ai 1) (aj))))) (iU (aj))))
def jA:List D->Option (Except Ex D):=ut .s 2 qZ
theorem qA(B:Bt mg)(F:Df K mg "rows_changed" cV ["square","r"])(ET:Et K mg kx0 kx1 kx2)(jz:Cl P w K mg base 2 "tipped" ["square"] (dS K .s 1 kH))(cB:ClX P w K mg base 3 "columns_changed" ["square","c"] (za K .s 2 dH)):ClX P w K mg base 4 "rows_changed" ["square","r"] (za K .s 2 jA):=by
 refine ma (k:=3) F pD (by decide) rfl λ_ cdv A outer s H hid E hr=>?_
 exact(fP (mi (FY jz (hr.mono (by decide)) (AB (sN cB (hr.mono (by decide)) (DA.rr (DA.nox (ah (bB jz (hr.mono (by decide)) (ah (ag 0) au)) (ah (ag 1) au))))) (DA.rr (DA.nox au))))))
theorem zC:FnScope ["way"] ["way"] (aq jn):=⟨rfl,rfl,rfl,by decide+kernel,rfl,by decide+kernel,by decide+kernel⟩
def Cw:FS:=
 aZ (rh qK uv (aA (.int 0)) (ai 0) (aA (.int 4)))
def qN:List D->Option D:=gr .s 1 Cw
theorem CH(B:Bt mg)(F:Df K mg "is_way" jn ["way"])(ET:Et K mg kx0 kx1 kx2):Cl P w K mg base 1 "is_way" ["way"] (dS K .s 1 qN):=by
 refine br (k:=0) F zC (by decide) rfl λ_ cdv A outer s H hid E hr=>?_
 exact(aB (aY (Fp pe pj gm gm ax (ag 0) (BC B.g_MANY_WAYS))))
theorem sc_free_and_full:FnScope ["c","r","way","right","up"] ["c","r","way"] (aq cF):=⟨rfl,rfl,rfl,by decide+kernel,rfl,by decide+kernel,by decide+kernel⟩
def pC:FS:=
 aD (Cs 3 4 (ae (av cH (ai 2) (aA (.int 2))) (ae (av iZ (ai 2) (aA (.int 2))) (aj))))
 (aZ (bF (ae (av bC (ai 0) (ai 3)) (ae (av bC (ai 1) (ai 4)) (ae (av km (av bC (ai 0) (aA (.int 1))) (ai 3)) (ae (av km (av bC (ai 1) (aA (.int 1))) (ai 4)) (aj)))))))
def cJ:List D->Option D:=gr .s 5 pC
theorem pJ(B:Bt mg)(F:Df K mg "free_and_full" cF ["c","r","way"])(ET:Et K mg kx0 kx1 kx2):Cl P w K mg base 1 "free_and_full" ["c","r","way"] (dS K .s 3 cJ):=by
 refine br (k:=0) F sc_free_and_full (by decide) rfl λ_ cdv A outer s H hid E hr=>?_
 exact(ar (FZ 3 4 rfl sc_free_and_full.nd (ah (gO (ag 2) ax) (ah (nu (ag 2) ax) au)))
  (aB (aY (ee (ah (cQ (ag 0) (ag 3)) (ah (cQ (ag 1) (ag 4)) (ah (m8 (cQ (ag 0) ax) (ag 3)) (ah (m8 (cQ (ag 1) ax) (ag 4)) au))))))))
theorem rQ:FnScope ["mark","row","to"] ["mark","row","to"] (aq eF):=⟨rfl,rfl,rfl,by decide+kernel,rfl,by decide+kernel,by decide+kernel⟩
def uj:FS:=
 aD (fS (bL (av iD (ai 0) (ai 1))) (aZ (ai 2)) (skip))
 (aZ (Ae (bL (av Hx (ai 0) (ai 1))) (av bC (ai 0) (aA (.int 1))) (ai 0)))
def i8:List D->Option D:=gr .s 3 uj
theorem tU(B:Bt mg)(F:Df K mg "row_parted" eF ["mark","row","to"])(ET:Et K mg kx0 kx1 kx2):Cl P w K mg base 1 "row_parted" ["mark","row","to"] (dS K .s 3 i8):=by
 refine br (k:=0) F rQ (by decide) rfl λ_ cdv A outer s H hid E hr=>?_
 exact(ar (fN (bD (eP hr.units) gY (ag 0) (ag 1) (bA _)) (aB (aY (ag 2))) cw)
  (aB (aY (Ax (by decide) (bD Fx gm (ag 0) (ag 1) (bA _)) (cQ (ag 0) ax) (ag 0)))))
theorem sc_corner_put:FnScope ["square","c","way","rings","crosses","row","free_column","free_row","full_column","full_row","more_rings","more_crosses"] ["square","c","way"] (aq eE):=⟨rfl,rfl,rfl,by decide+kernel,rfl,by decide+kernel,by decide+kernel⟩
def tV:FX:=
 eJ (kA (dc (gT 2 (cA (gN 3) (cA (gN 4) (iC)))) (pu (ai 0))))
 (eJ (rg (rj (fJ (bL (rh qK uv (aA (.int 0)) (ai 1) (ak bu (ae (ai 3) (aj)))))) (fJ (fZ (ak (nF 1 qN) (ae (ai 2) (aj)))))) (rC ⟨"NoMove",0⟩ (ae (aA (.str "there is no such column or way")) (aj))) (kA skip))
 (eJ (rg (bL (av GZ (ak bu (ae (ai 3) (aj))) (aA (.int 6)))) (rC ⟨"TooMany",0⟩ (ae (aA (.str "the square has no room for a corner")) (aj))) (kA skip))
 (kA (aD (bj 5 (av aW (ai 4) (ai 1)))
 (aD (dc (gT 4 (cA (gN 6) (cA (gN 7) (cA (gN 8) (cA (gN 9) (iC)))))) (pu (ak (nF 3 cJ) (ae (ai 1) (ae (ai 5) (ae (ai 2) (aj)))))))
 (aD (fK 10 (aR 1 (dz (ai 3)) (gN 12) (cq) (ak (nF 3 i8) (ae (ai 12) (ae (ai 5) (ae (ai 7) (aj)))))))
 (aD (fK 11 (aR 1 (dz (ai 4)) (gN 12) (cq) (ak (nF 3 i8) (ae (ai 12) (ae (ai 5) (ae (ai 9) (aj)))))))
 (aD (eX (bn 10 2 vO (dU (ae (ai 8) (ae (ai 9) (aj))))))
 (aD (eX (bn 11 2 vO (dU (ae (ai 8) (ae (ai 7) (aj))))))
 (aZ (bF (ae (ak dC (ae (fI 10) (aj))) (ae (ak dC (ae (fI 11) (aj))) (aj))))))))))))))
def kS:List D->Option (Except Ex D):=ut .s 12 tV
theorem sX(B:Bt mg)(F:Df K mg "corner_put" eE ["square","c","way"])(ET:Et K mg kx0 kx1 kx2)(bQ:Cl P w K mg base 1 "free_and_full" ["c","r","way"] (dS K .s 3 cJ))(ja:Cl P w K mg base 1 "row_parted" ["mark","row","to"] (dS K .s 3 i8))(qH:Cl P w K mg base 1 "is_way" ["way"] (dS K .s 1 qN)):ClX P w K mg base 2 "corner_put" ["square","c","way"] (za K .s 3 kS):=by
 refine ma (k:=1) F sc_corner_put (by decide) rfl λ_ cdv A outer s H hid E hr=>?_
 exact(cT (kz (gL (DP.ef (ag 0)) (cR (n:=2) rfl (aL (ay 3 sc_corner_put.nd) (aL (ay 4 sc_corner_put.nd) cO)))))
  (cT (mP (DT.nox (DW.dt (uX (j6 (yj pe pj gm gm ax (ag 1) (aQ aI cb B.b_len (aM (ag 3) be) (hv:=by kernel_rfl)))) (tx (j6 (lv (bB qH (hr.mono (by decide)) (ah (ag 2) au)))))))) (fP (mj (n:=0) (ET.t.row _ (Mm _ (Mt _))).mg (ET.t.row _ (Mm _ (Mt _))).ns ET.o_NoMove hr.hd (DA.nox (ah eA au)))) jo)
  (cT (mP (DT.nox (bD E5 gm (aQ aI cb B.b_len (aM (ag 3) be) (hv:=by kernel_rfl)) (BC B.g_MOST_SIZE) (bA _))) (fP (mj (n:=0) (ET.t.row _ (Mm _ (Mm _ (Mt _)))).mg (ET.t.row _ (Mm _ (Mm _ (Mt _)))).ns ET.o_TooMany hr.hd (DA.nox (ah eA au)))) jo)
  (oA (ar (bp 5 sc_corner_put.nd (aT aH aS (ag 4) (ag 1) (λ_ _=>rfl)))
  (ar (gL (DP.ef (bB bQ (hr.mono (by decide)) (ah (ag 1) (ah (ag 5) (ah (ag 2) au))))) (cR (n:=4) rfl (aL (ay 6 sc_corner_put.nd) (aL (ay 7 sc_corner_put.nd) (aL (ay 8 sc_corner_put.nd) (aL (ay 9 sc_corner_put.nd) cO))))))
  (ar (ug 10 (N':=["square","c","way","rings","crosses","row","free_column","free_row","full_column","full_row","more_rings","more_crosses","mark"]) rfl sc_corner_put.nd (bH (K4 rfl)) (DIp.b (dW (ag 3))) (λ_ _ _ _=>(ay 12 E7)) (λ_ _ _ _=>cC) (λ_ _ _ _=>(bB ja (hr.mono (by decide)) (ah (ag 12) (ah (ag 5) (ah (ag 7) au))))))
  (ar (ug 11 (N':=["square","c","way","rings","crosses","row","free_column","free_row","full_column","full_row","more_rings","more_crosses","mark"]) rfl sc_corner_put.nd (bH (K4 rfl)) (DIp.b (dW (ag 4))) (λ_ _ _ _=>(ay 12 E7)) (λ_ _ _ _=>cC) (λ_ _ _ _=>(bB ja (hr.mono (by decide)) (ah (ag 12) (ah (ag 5) (ah (ag 9) au))))))
  (ar (kO (jS 10 si sF O8 O9 (DA.gf (ah (ag 8) (ah (ag 9) au)))))
  (ar (kO (jS 11 si sF O8 O9 (DA.gf (ah (ag 8) (ah (ag 7) au)))))
  (aB (aY (ee (ah (eO cx gD B.b_tuple (aM (fL 10) be) (hv:=by kernel_rfl)) (ah (eO cx gD B.b_tuple (aM (fL 11) be) (hv:=by kernel_rfl)) au)))))))))))))))
theorem sc_is_put:FnScope ["square","c","r","way","rings","crosses","free_column","free_row","full_column","full_row"] ["square","c","r","way"] (aq jG):=⟨rfl,rfl,rfl,by decide+kernel,rfl,by decide+kernel,by decide+kernel⟩
def CI:FS:=
 aD (dc (gT 2 (cA (gN 4) (cA (gN 5) (iC)))) (pu (ai 0)))
 (aD (dc (gT 4 (cA (gN 6) (cA (gN 7) (cA (gN 8) (cA (gN 9) (iC)))))) (pu (ak (nF 3 cJ) (ae (ai 1) (ae (ai 2) (ae (ai 3) (aj)))))))
 (aD (fS (bL (av nM (bF (ae (av aW (ai 4) (ai 8)) (ae (av aW (ai 5) (ai 8)) (aj)))) (bF (ae (ai 9) (ae (ai 7) (aj)))))) (aZ (aA (.bl false))) (skip))
 (aZ (Fw (qt (bL (av iD (av aW (ai 5) (ai 6)) (ai 9))) (bL (av nM (av aW (ai 4) (ai 6)) (ai 7))))))))
def qQ:List D->Option D:=gr .s 10 CI
theorem AA(B:Bt mg)(F:Df K mg "is_put" jG ["square","c","r","way"])(ET:Et K mg kx0 kx1 kx2)(bQ:Cl P w K mg base 1 "free_and_full" ["c","r","way"] (dS K .s 3 cJ)):Cl P w K mg base 2 "is_put" ["square","c","r","way"] (dS K .s 4 qQ):=by
 refine br (k:=1) F sc_is_put (by decide) rfl λ_ cdv A outer s H hid E hr=>?_
 exact(ar (gL (DP.ef (ag 0)) (cR (n:=2) rfl (aL (ay 4 sc_is_put.nd) (aL (ay 5 sc_is_put.nd) cO))))
  (ar (gL (DP.ef (bB bQ (hr.mono (by decide)) (ah (ag 1) (ah (ag 2) (ah (ag 3) au))))) (cR (n:=4) rfl (aL (ay 6 sc_is_put.nd) (aL (ay 7 sc_is_put.nd) (aL (ay 8 sc_is_put.nd) (aL (ay 9 sc_is_put.nd) cO))))))
  (ar (fN (bD (lu hr.units) nW (ee (ah (aT aH aS (ag 4) (ag 8) (λ_ _=>rfl)) (ah (aT aH aS (ag 5) (ag 8) (λ_ _=>rfl)) au))) (ee (ah (ag 9) (ah (ag 7) au))) (bA _)) (aB (aY pz)) cw)
  (aB (aY (Cu (lP (eP hr.units) gY (aT aH aS (ag 5) (ag 6) (λ_ _=>rfl)) (ag 9) (bA _)) (A7 (lP (lu hr.units) nW (aT aH aS (ag 4) (ag 6) (λ_ _=>rfl)) (ag 7) (bA _)))))))))
theorem sc_way_put:FnScope ["square","c","r","last","way"] ["square","c","r"] (aq ia):=⟨rfl,rfl,rfl,by decide+kernel,rfl,by decide+kernel,by decide+kernel⟩
def yZ:FS:=
 aD (bj 3 (av km (ak bu (ae (av aW (ai 0) (aA (.int 0))) (aj))) (aA (.int 2))))
 (aD (fS (rj (fJ (bL (rh qK qK (aA (.int 0)) (ai 1) (ai 3)))) (fJ (bL (rh qK qK (aA (.int 0)) (ai 2) (ai 3))))) (aZ (aA .non)) (skip))
 (aD (gW (dU (bz (ae (aA (.int 4)) (aj)))) (gN 4) (fS (fZ (ak (nF 4 qQ) (ae (ai 0) (ae (ai 1) (ae (ai 2) (ae (ai 4) (aj))))))) (aZ (ai 4)) (skip)))
 (aZ (aA .non))))
def oQ:List D->Option D:=gr .s 5 yZ
theorem zK(B:Bt mg)(F:Df K mg "way_put" ia ["square","c","r"])(ET:Et K mg kx0 kx1 kx2)(qF:Cl P w K mg base 2 "is_put" ["square","c","r","way"] (dS K .s 4 qQ)):Cl P w K mg base 3 "way_put" ["square","c","r"] (dS K .s 3 oQ):=by
 refine br (k:=2) F sc_way_put (by decide) rfl λ_ cdv A outer s H hid E hr=>?_
 exact(ar (bp 3 sc_way_put.nd (m8 (aQ aI cb B.b_len (aM (aT aH aS (ag 0) ax (λ_ _=>rfl)) be) (hv:=by kernel_rfl)) ax))
  (ar (fN (DW.dt (uX (j6 (yj pe pe gm gm ax (ag 1) (ag 3))) (tx (j6 (yj pe pe gm gm ax (ag 2) (ag 3)))))) (aB (aY wU)) cw)
  (ar (iX L6 rfl (DIp.e (bw B.b_range (ah (BC B.g_MANY_WAYS) au))) (ay 4 sc_way_put.nd) (aB (fN (lv (bB qF (hr.mono (by decide)) (ah (ag 0) (ah (ag 1) (ah (ag 2) (ah (ag 4) au)))))) (aB (aY (ag 4))) cw)))
  (aB (aY wU)))))
theorem qW:FnScope ["marks","row","column"] ["marks","row","column"] (aq dO):=⟨rfl,rfl,rfl,by decide+kernel,rfl,by decide+kernel,by decide+kernel⟩
def rq:FS:=
 aZ (ak dC (ae (aR 2 (Di (ai 0)) (gT 2 (cA (gN 3) (cA (gN 4) (iC)))) (bL (av nM (ai 3) (ai 2))) (Ae (bL (av Hx (ai 4) (ai 1))) (av km (ai 4) (aA (.int 1))) (ai 4))) (aj)))
def im:List D->Option D:=gr .s 3 rq
theorem rP(B:Bt mg)(F:Df K mg "rows_joined" dO ["marks","row","column"])(ET:Et K mg kx0 kx1 kx2):Cl P w K mg base 1 "rows_joined" ["marks","row","column"] (dS K .s 3 im):=by
 refine br (k:=0) F qW (by decide) rfl λ_ cdv A outer s H hid E hr=>?_
 exact(aB (aY (eO cx gD B.b_tuple (aM (dw (N':=["marks","row","column","at","mark"]) rfl (tw (dJ (bH (K4 rfl)) (dJ (bH (K4 rfl)) mq))) (DIp.b (Ce (ag 0) B.b_enumerate)) (λ_ _ _ _=>(cR (n:=2) rfl (aL (ay 3 FB) (aL (ay 4 FB) cO)))) (λ_ _ _ _=>(jd (bD (lu hr.units) nW (ag 3) (ag 2) (bA _)))) (λ_ _ _ _=>(Ax (by decide) (bD Fx gm (ag 4) (ag 1) (bA _)) (m8 (ag 4) ax) (ag 4)))) be) (hv:=by kernel_rfl))))
theorem sc_corner_taken:FnScope ["square","c","r","way","rings","crosses","full_column"] ["square","c","r"] (aq cX):=⟨rfl,rfl,rfl,by decide+kernel,rfl,by decide+kernel,by decide+kernel⟩
def qp:FX:=
 eJ (kA (bj 3 (ak (nF 3 oQ) (ae (ai 0) (ae (ai 1) (ae (ai 2) (aj)))))))
 (eJ (rg (bL (av (Jj false) (ai 3) (aA .non))) (rC ⟨"NoMove",0⟩ (ae (aA (.str "there is no corner to be taken out")) (aj))) (kA skip))
 (kA (aD (dc (gT 2 (cA (gN 4) (cA (gN 5) (iC)))) (pu (ai 0)))
 (aD (bj 6 (av aW (ak (nF 3 cJ) (ae (ai 1) (ae (ai 2) (ae (ai 3) (aj))))) (aA (.int 2))))
 (aZ (bF (ae (ak (nF 3 im) (ae (ai 4) (ae (ai 2) (ae (ai 6) (aj))))) (ae (ak (nF 3 im) (ae (ai 5) (ae (ai 2) (ae (ai 6) (aj))))) (aj)))))))))
def jp:List D->Option (Except Ex D):=ut .s 7 qp
theorem qo(B:Bt mg)(F:Df K mg "corner_taken" cX ["square","c","r"])(ET:Et K mg kx0 kx1 kx2)(pc:Cl P w K mg base 3 "way_put" ["square","c","r"] (dS K .s 3 oQ))(bQ:Cl P w K mg base 1 "free_and_full" ["c","r","way"] (dS K .s 3 cJ))(iq:Cl P w K mg base 1 "rows_joined" ["marks","row","column"] (dS K .s 3 im)):ClX P w K mg base 4 "corner_taken" ["square","c","r"] (za K .s 3 jp):=by
 refine ma (k:=3) F sc_corner_taken (by decide) rfl λ_ cdv A outer s H hid E hr=>?_
 exact(cT (kz (bp 3 sc_corner_taken.nd (bB pc (hr.mono (by decide)) (ah (ag 0) (ah (ag 1) (ah (ag 2) au))))))
  (cT (mP (DT.nox (bD IQ (IS false) (ag 3) wU (bA _))) (fP (mj (n:=0) (ET.t.row _ (Mm _ (Mt _))).mg (ET.t.row _ (Mm _ (Mt _))).ns ET.o_NoMove hr.hd (DA.nox (ah eA au)))) jo)
  (oA (ar (gL (DP.ef (ag 0)) (cR (n:=2) rfl (aL (ay 4 sc_corner_taken.nd) (aL (ay 5 sc_corner_taken.nd) cO))))
  (ar (bp 6 sc_corner_taken.nd (aT aH aS (bB bQ (hr.mono (by decide)) (ah (ag 1) (ah (ag 2) (ah (ag 3) au)))) ax (λ_ _=>rfl)))
  (aB (aY (ee (ah (bB iq (hr.mono (by decide)) (ah (ag 4) (ah (ag 2) (ah (ag 6) au)))) (ah (bB iq (hr.mono (by decide)) (ah (ag 5) (ah (ag 2) (ah (ag 6) au)))) au))))))))))
theorem sc_moved:FnScope ["square","move","kind"] ["square","move"] (aq lw):=⟨rfl,rfl,rfl,by decide+kernel,rfl,by decide+kernel,by decide+kernel⟩
def Dk:FX:=
 eJ (kA (bj 2 (av aW (ai 1) (aA (.int 0)))))
 (eJ (kA (fS (bL (av iD (ai 2) (aA (.str "columns")))) (aZ (ak (nF 2 ig) (ae (ai 0) (ae (av aW (ai 1) (aA (.int 1))) (aj))))) (skip)))
 (eJ (kA (fS (bL (av iD (ai 2) (aA (.str "rows")))) (aZ (ak (nF 2 j8) (ae (ai 0) (ae (av aW (ai 1) (aA (.int 1))) (aj))))) (skip)))
 (eJ (kA (fS (bL (av iD (ai 2) (aA (.str "tip")))) (aZ (ak (nF 1 kH) (ae (ai 0) (aj)))) (skip)))
 (eJ (rg (bL (av iD (ai 2) (aA (.str "swap")))) (j4 (eg 2 dH (iU (ae (ai 0) (ae (av aW (ai 1) (aA (.int 1))) (aj)))))) (kA skip))
 (eJ (rg (bL (av iD (ai 2) (aA (.str "cross")))) (j4 (eg 2 jA (iU (ae (ai 0) (ae (av aW (ai 1) (aA (.int 1))) (aj)))))) (kA skip))
 (eJ (rg (bL (av iD (ai 2) (aA (.str "put")))) (j4 (eg 3 kS (iU (ae (ai 0) (ae (av aW (ai 1) (aA (.int 1))) (ae (av aW (ai 1) (aA (.int 2))) (aj))))))) (kA skip))
 (j4 (eg 3 jp (iU (ae (ai 0) (ae (av aW (ai 1) (aA (.int 1))) (ae (av aW (ai 1) (aA (.int 2))) (aj)))))))))))))
def pN:List D->Option (Except Ex D):=ut .s 3 Dk
theorem Dt(B:Bt mg)(F:Df K mg "moved" lw ["square","move"])(ET:Et K mg kx0 kx1 kx2)(jx:ClX P w K mg base 4 "corner_taken" ["square","c","r"] (za K .s 3 jp))(h8:Cl P w K mg base 2 "columns_turned" ["square","k"] (dS K .s 2 ig))(kh:Cl P w K mg base 2 "rows_turned" ["square","k"] (dS K .s 2 j8))(jz:Cl P w K mg base 2 "tipped" ["square"] (dS K .s 1 kH))(cB:ClX P w K mg base 3 "columns_changed" ["square","c"] (za K .s 2 dH))(jl:ClX P w K mg base 4 "rows_changed" ["square","r"] (za K .s 2 jA))(kL:ClX P w K mg base 2 "corner_put" ["square","c","way"] (za K .s 3 kS)):ClX P w K mg base 5 "moved" ["square","move"] (za K .s 2 pN):=by
 refine ma (k:=4) F sc_moved (by decide) rfl λ_ cdv A outer s H hid E hr=>?_
 exact(cT (kz (bp 2 sc_moved.nd (aT aH aS (ag 1) ax (λ_ _=>rfl))))
  (cT (kz (fN (bD (eP hr.units) gY (ag 2) eA (bA _)) (aB (aY (bB h8 (hr.mono (by decide)) (ah (ag 0) (ah (aT aH aS (ag 1) ax (λ_ _=>rfl)) au))))) cw))
  (cT (kz (fN (bD (eP hr.units) gY (ag 2) eA (bA _)) (aB (aY (bB kh (hr.mono (by decide)) (ah (ag 0) (ah (aT aH aS (ag 1) ax (λ_ _=>rfl)) au))))) cw))
  (cT (kz (fN (bD (eP hr.units) gY (ag 2) eA (bA _)) (aB (aY (bB jz (hr.mono (by decide)) (ah (ag 0) au)))) cw))
  (cT (mP (DT.nox (bD (eP hr.units) gY (ag 2) eA (bA _))) (fP (mi (sN cB (hr.mono (by decide)) (DA.rr (DA.nox (ah (ag 0) (ah (aT aH aS (ag 1) ax (λ_ _=>rfl)) au))))))) jo)
  (cT (mP (DT.nox (bD (eP hr.units) gY (ag 2) eA (bA _))) (fP (mi (sN jl (hr.mono (by decide)) (DA.rr (DA.nox (ah (ag 0) (ah (aT aH aS (ag 1) ax (λ_ _=>rfl)) au))))))) jo)
  (cT (mP (DT.nox (bD (eP hr.units) gY (ag 2) eA (bA _))) (fP (mi (sN kL (hr.mono (by decide)) (DA.rr (DA.nox (ah (ag 0) (ah (aT aH aS (ag 1) ax (λ_ _=>rfl)) (ah (aT aH aS (ag 1) ax (λ_ _=>rfl)) au)))))))) jo)
  (fP (mi (sN jx (hr.mono (by decide)) (DA.rr (DA.nox (ah (ag 0) (ah (aT aH aS (ag 1) ax (λ_ _=>rfl)) (ah (aT aH aS (ag 1) ax (λ_ _=>rfl)) au)))))))))))))))
theorem uR:FnScope ["_law_script","_law_k"] ["_law_script","_law_k"] (aq fW):=⟨rfl,rfl,rfl,by decide+kernel,rfl,by decide+kernel,by decide+kernel⟩
def xf:FS:=
 aD (fS (bL (av uv (ai 1) (ak bu (ae (ai 0) (aj))))) (aZ (av aW (ai 0) (ai 1))) (skip))
 (aZ (aA (.int 0)))
def m9:List D->Option D:=gr .s 2 xf
theorem we(B:Bt mg)(F:Df K mg "_law_cell" fW ["_law_script","_law_k"])(ET:Et K mg kx0 kx1 kx2):Cl P w K mg base 1 "_law_cell" ["_law_script","_law_k"] (dS K .s 2 m9):=by
 refine br (k:=0) F uR (by decide) rfl λ_ cdv A outer s H hid E hr=>?_
 exact(ar (fN (bD pj gm (ag 1) (aQ aI cb B.b_len (aM (ag 0) be) (hv:=by kernel_rfl)) (bA _)) (aB (aY (aT aH aS (ag 0) (ag 1) (λ_ _=>rfl)))) cw)
  (aB (aY ax)))
theorem sc_law_bag:FnScope ["_law_script","_law_at","_law_cell_here","_law_mix","_law_k"] ["_law_script","_law_at"] (aq g9):=⟨rfl,rfl,rfl,by decide+kernel,rfl,by decide+kernel,by decide+kernel⟩
def zr:FS:=
 aD (bj 2 (av cH (ak vf (ae (ak (nF 2 m9) (ae (ai 0) (ae (ai 1) (aj)))) (aj))) (av gR (av gR (av gH (aA (.int 10)) (aA (.int 60))) (av gH (aA (.int 10)) (aA (.int 60)))) (av gH (aA (.int 10)) (aA (.int 60))))))
 (aD (fS (bL (av GZ (ai 2) (av gH (aA (.int 10)) (aA (.int 18))))) (aZ (dZ (ae (ai 2) (ae (aA (.int 0)) (aj))))) (skip))
 (aD (bj 3 (av cH (av bC (av bC (ai 2) (av gR (aA (.int 7919)) (ai 1))) (aA (.int 17))) (aA (.int 2147483647))))
 (aD (gW (dU (bz (ae (ak lQ (ae (ak bu (ae (ai 0) (aj))) (ae (aA (.int 9)) (aj)))) (aj)))) (gN 4) (bj 3 (av cH (av bC (av bC (av gH (ai 3) (aA (.int 5))) (av cH (av aW (ai 0) (ai 4)) (aA (.int 2147483629)))) (av gR (aA (.int 31)) (ai 4))) (aA (.int 2147483647)))))
 (aZ (dZ (ae (ai 3) (ae (aA (.int 1)) (aj))))))))
def ml:List D->Option D:=gr .n 5 zr
theorem zH(B:Bt mg)(F:Df K mg "_law_bag" g9 ["_law_script","_law_at"])(ET:Et K mg kx0 kx1 kx2)(mY:Cl P w K mg base 1 "_law_cell" ["_law_script","_law_k"] (dS K .s 2 m9)):Cl P w K mg base 2 "_law_bag" ["_law_script","_law_at"] (dS K .n 2 ml):=by
 refine br (k:=1) F sc_law_bag (by decide) rfl λ_ cdv A outer s H hid E hr=>?_
 exact(ar (bp 2 sc_law_bag.nd (gO (aQ BP GG B.b_abs (aM (bB mY (hr.mono (by decide)) (ah (ag 0) (ah (ag 1) au))) be) (hv:=by kernel_rfl)) (oJ (oJ (oD ax ax) (oD ax ax)) (oD ax ax))))
  (ar (fN (bD E5 gm (ag 2) (oD ax ax) (bA _)) (aB (aY (iG (ah (ag 2) (ah ax au))))) cw)
  (ar (bp 3 sc_law_bag.nd (gO (cQ (cQ (ag 2) (oJ ax (ag 1))) ax) ax))
  (ar (iX L6 rfl (DIp.e (bw B.b_range (ah (aQ (oz rfl) ui B.b_min (aM (aQ aI cb B.b_len (aM (ag 0) be) (hv:=by kernel_rfl)) (aM ax be)) (hv:=by kernel_rfl)) au))) (ay 4 sc_law_bag.nd) (aB (bp 3 sc_law_bag.nd (gO (cQ (cQ (oD (ag 3) ax) (gO (aT aH aS (ag 0) (ag 4) (λ_ _=>rfl)) ax)) (oJ ax (ag 4))) ax))))
  (aB (aY (iG (ah (ag 3) (ah ax au)))))))))
theorem sc_law_take:FnScope ["_law_bag_here","_law_many","_law_digit"] ["_law_bag_here","_law_many"] (aq fX):=⟨rfl,rfl,rfl,by decide+kernel,rfl,by decide+kernel,by decide+kernel⟩
def wZ:FS:=
 aD (fS (bL (av iD (av aW (fI 0) (aA (.int 1))) (aA (.int 0)))) (aD (bj 2 (av cH (av aW (fI 0) (aA (.int 0))) (ai 1)))
 (aD (dc (ft 0 (aA (.int 0))) (pu (av iZ (av aW (fI 0) (aA (.int 0))) (ai 1))))
 (aZ (ai 2)))) (skip))
 (aD (dc (ft 0 (aA (.int 0))) (pu (av cH (av bC (av bC (av gH (av aW (fI 0) (aA (.int 0))) (aA (.int 5))) (av gR (aA (.int 48271)) (av aW (fI 0) (aA (.int 1))))) (aA (.int 11))) (aA (.int 2147483647)))))
 (aD (dc (ft 0 (aA (.int 1))) (pu (av bC (av aW (fI 0) (aA (.int 1))) (aA (.int 1)))))
 (aZ (av cH (av iZ (av cH (av gR (av aW (fI 0) (aA (.int 0))) (aA (.int 69621))) (aA (.int 2147483629))) (aA (.int 8))) (ai 1)))))
def bS:List D->List D->Option (D×List D):=vY .s 3 wZ
theorem wX(B:Bt mg)(F:Df K mg "_law_take" fX ["_law_bag_here","_law_many"])(ET:Et K mg kx0 kx1 kx2):Cl P w K mg base 1 "_law_take" ["_law_bag_here","_law_many"] (vX K .s 1 bS):=by
 refine tX (k:=0) F sc_law_take (by decide) rfl λ_ cdv A outer s H hid a E hr=>?_
 exact(ar (fN (bD (eP hr.units) gY (aT aH aS (fL 0) ax (λ_ _=>rfl)) ax (bA _)) (ar (bp 2 sc_law_take.nd (gO (aT aH aS (fL 0) ax (λ_ _=>rfl)) (ag 1)))
  (ar (qd (DP.ef (nu (aT aH aS (fL 0) ax (λ_ _=>rfl)) (ag 1))) (kT 0 ax))
  (aB (aY (ag 2))))) cw)
  (ar (qd (DP.ef (gO (cQ (cQ (oD (aT aH aS (fL 0) ax (λ_ _=>rfl)) ax) (oJ ax (aT aH aS (fL 0) ax (λ_ _=>rfl)))) ax) ax)) (kT 0 ax))
  (ar (qd (DP.ef (cQ (aT aH aS (fL 0) ax (λ_ _=>rfl)) ax)) (kT 0 ax))
  (aB (aY (gO (nu (gO (oJ (aT aH aS (fL 0) ax (λ_ _=>rfl)) ax) ax) ax) (ag 1)))))))
theorem sc_law_order:FnScope ["_law_bag_here","_law_n","_law_left","_law_found"] ["_law_bag_here","_law_n"] (aq fz):=⟨rfl,rfl,rfl,by decide+kernel,rfl,by decide+kernel,by decide+kernel⟩
def vk:FS:=
 aD (fK 2 (C1 (ai 1)))
 (aD (fK 3 (dZ (aj)))
 (aD (pV (bL (av nM (fI 2) (dZ (aj)))) (eX (bn 3 1 la (gj (bn 2 1 rR (gj (bn 0 1 bS (dU (ae (ak bu (ae (fI 2) (aj))) (aj)))) (dU (aj)))) (dU (aj))))) 16)
 (rS 3)))
def jV:List D->List D->Option (D×List D):=vY .n 4 vk
theorem vA(B:Bt mg)(F:Df K mg "_law_order" fz ["_law_bag_here","_law_n"])(ET:Et K mg kx0 kx1 kx2)(bO:Cl P w K mg base 1 "_law_take" ["_law_bag_here","_law_many"] (vX K .s 1 bS)):Cl P w K mg base 2 "_law_order" ["_law_bag_here","_law_n"] (vX K .n 1 jV):=by
 refine tX (k:=1) F sc_law_order (by decide) rfl λ_ cdv A outer s H hid a E hr=>?_
 exact(ar (jW 2 sc_law_order.nd (mF rfl B.b_list B.b_range (ag 1)))
  (ar (jW 3 sc_law_order.nd (iG au))
  (ar (rf 16 L6 (bD (lu hr.units) nW (fL 2) (iG au) (bA _)) (aB (kO (jS 3 ko gh MU MV (oe (jS 2 GC BW PySem.F.slot_list_pop PySem.F.type_list_pop (oe (ly 0 bO (hr.mono (by decide)) (DA.gf (ah (aQ aI cb B.b_len (aM (fL 2) be) (hv:=by kernel_rfl)) au))) (DA.gf au))) (DA.gf au))))))
  (aB (pY 3)))))
theorem sc_law_square:FnScope ["_law_bag_here","_law_n","_law_plain","_law_by","_law_rings","_law_crosses","_law_c","_law_d"] ["_law_bag_here","_law_n"] (aq et):=⟨rfl,rfl,rfl,by decide+kernel,rfl,by decide+kernel,by decide+kernel⟩
def sU:FS:=
 aD (jD 2 (bn 0 1 bS (dU (ae (aA (.int 4)) (aj)))))
 (aD (jD 3 (p7 bC (pu (aA (.int 1))) (bn 0 1 bS (dU (ae (av km (ai 1) (aA (.int 1))) (aj))))))
 (aD (jD 4 (bn 0 1 jV (dU (ae (ai 1) (aj)))))
 (aD (wt 5 (bn 0 1 jV (dU (ae (ai 1) (aj)))))
 (aD (fS (bL (av iD (ai 2) (aA (.int 1)))) (aD (bj 4 (C1 (ai 1)))
 (fK 5 (aR 1 (dz (ai 4)) (gN 8) (cq) (av cH (av bC (ai 8) (ai 3)) (ai 1))))) (skip))
 (aD (gW (dU (bz (ae (ai 1) (aj)))) (gN 6) (aD (bj 7 (av cH (av bC (ai 6) (aA (.int 1))) (ai 1)))
 (fS (bL (av iD (av aW (fI 5) (ai 6)) (av aW (ai 4) (ai 6)))) (dc (gT 2 (cA (ft 5 (ai 6)) (cA (ft 5 (ai 7)) (iC)))) (pu (bF (ae (av aW (fI 5) (ai 7)) (ae (av aW (fI 5) (ai 6)) (aj)))))) (skip))))
 (aZ (bF (ae (ak dC (ae (ai 4) (aj))) (ae (ak dC (ae (fI 5) (aj))) (aj))))))))))
def i6:List D->List D->Option (D×List D):=vY .s 8 sU
theorem tF(B:Bt mg)(F:Df K mg "_law_square" et ["_law_bag_here","_law_n"])(ET:Et K mg kx0 kx1 kx2)(bO:Cl P w K mg base 1 "_law_take" ["_law_bag_here","_law_many"] (vX K .s 1 bS))(jM:Cl P w K mg base 2 "_law_order" ["_law_bag_here","_law_n"] (vX K .n 1 jV)):Cl P w K mg base 3 "_law_square" ["_law_bag_here","_law_n"] (vX K .s 1 i6):=by
 refine tX (k:=2) F sc_law_square (by decide) rfl λ_ cdv A outer s H hid a E hr=>?_
 exact(ar (jc 2 sc_law_square.nd (ly 0 bO (hr.mono (by decide)) (DA.gf (ah ax au))))
  (ar (jc 3 sc_law_square.nd (AY (DP.ef ax) (ly 0 bO (hr.mono (by decide)) (DA.gf (ah (m8 (ag 1) ax) au)))))
  (ar (jc 4 sc_law_square.nd (DE.toS (ly 0 jM (hr.mono (by decide)) (DA.gf (ah (ag 1) au)))))
  (ar (EE 5 sc_law_square.nd (ly 0 jM (hr.mono (by decide)) (DA.gf (ah (ag 1) au))))
  (ar (fN (bD (eP hr.units) gY (ag 2) ax (bA _)) (ar (bp 4 sc_law_square.nd (DP.toS (mF rfl B.b_list B.b_range (ag 1))))
  (aB (ug 5 (N':=["_law_bag_here","_law_n","_law_plain","_law_by","_law_rings","_law_crosses","_law_c","_law_d","_law_row"]) rfl sc_law_square.nd (bH (K4 rfl)) (DIp.b (dW (ag 4))) (λ_ _ _ _=>(ay 8 Iu)) (λ_ _ _ _=>cC) (λ_ _ _ _=>(gO (cQ (ag 8) (ag 3)) (ag 1)))))) cw)
  (ar (iX L6 rfl (DIp.e (bw B.b_range (ah (ag 1) au))) (ay 6 sc_law_square.nd) (ar (bp 7 sc_law_square.nd (gO (cQ (ag 6) ax) (ag 1)))
  (aB (fN (bD (eP hr.units) gY (aT aH aS (fL 5) (ag 6) (λ_ _=>rfl)) (aT aH aS (ag 4) (ag 6) (λ_ _=>rfl)) (bA _)) (aB (qd (DP.ef (ee (ah (aT aH aS (fL 5) (ag 7) (λ_ _=>rfl)) (ah (aT aH aS (fL 5) (ag 6) (λ_ _=>rfl)) au)))) (xy (n:=2) rfl (nQ (kT 5 (ag 6)) (nQ (kT 5 (ag 7)) yo))))) cw))))
  (aB (aY (ee (ah (eO cx gD B.b_tuple (aM (ag 4) be) (hv:=by kernel_rfl)) (ah (eO cx gD B.b_tuple (aM (fL 5) be) (hv:=by kernel_rfl)) au)))))))))))
theorem sc_law_line:FnScope ["_law_square_here","_law_begin","_law_found","_law_column","_law_row"] ["_law_square_here","_law_begin"] (aq gd):=⟨rfl,rfl,rfl,by decide+kernel,rfl,by decide+kernel,by decide+kernel⟩
def mW:FS:=
 aD (fK 2 (dZ (aj)))
 (aD (bj 3 (ai 1))
 (aD (pV (bL (av (mC true) (ai 3) (fI 2))) (aD (eX (bn 2 1 la (dU (ae (ai 3) (aj)))))
 (aD (bj 4 (av aW (aR 1 (bz (ae (ak bu (ae (av aW (ai 0) (aA (.int 0))) (aj))) (aj))) (gN 5) (bL (av iD (av aW (av aW (ai 0) (aA (.int 0))) (ai 3)) (ai 5))) (ai 5)) (aA (.int 0))))
 (bj 3 (av aW (aR 1 (bz (ae (ak bu (ae (av aW (ai 0) (aA (.int 0))) (aj))) (aj))) (gN 5) (bL (av iD (av aW (av aW (ai 0) (aA (.int 1))) (ai 5)) (ai 4))) (ai 5)) (aA (.int 0)))))) 64)
 (rS 2)))
def ie:List D->Option D:=gr .n 5 mW
theorem v9(B:Bt mg)(F:Df K mg "_law_line" gd ["_law_square_here","_law_begin"])(ET:Et K mg kx0 kx1 kx2):Cl P w K mg base 1 "_law_line" ["_law_square_here","_law_begin"] (dS K .n 2 ie):=by
 refine br (k:=0) F sc_law_line (by decide) rfl λ_ cdv A outer s H hid E hr=>?_
 exact(ar (jW 2 sc_law_line.nd (iG au))
  (ar (bp 3 sc_law_line.nd (ag 1))
  (ar (rf 64 L6 (bD (zv hr.units) (qU true) (ag 3) (fL 2) (by with_unfolding_all rfl)) (ar (kO (jS 2 ko gh MU MV (DA.gf (ah (ag 3) au))))
  (ar (bp 4 sc_law_line.nd (aT aH aS (dw (N':=["_law_square_here","_law_begin","_law_found","_law_column","?_law_row","_law_row"]) rfl (bH (K4 rfl)) (DIp.b (bw B.b_range (ah (aQ aI cb B.b_len (aM (aT aH aS (ag 0) ax (λ_ _=>rfl)) be) (hv:=by kernel_rfl)) au))) (λ_ _ _ _=>(ay 5 HD)) (λ_ _ _ _=>(jd (bD (eP hr.units) gY (aT aH aS (aT aH aS (ag 0) ax (λ_ _=>rfl)) (ag 3) (λ_ _=>rfl)) (ag 5) (bA _)))) (λ_ _ _ _=>(ag 5))) ax (λ_ _=>rfl)))
  (aB (bp 3 sc_law_line.nd (aT aH aS (dw (N':=["_law_square_here","_law_begin","_law_found","_law_column","_law_row","_law_other"]) rfl (bH (K4 rfl)) (DIp.b (bw B.b_range (ah (aQ aI cb B.b_len (aM (aT aH aS (ag 0) ax (λ_ _=>rfl)) be) (hv:=by kernel_rfl)) au))) (λ_ _ _ _=>(ay 5 IB)) (λ_ _ _ _=>(jd (bD (eP hr.units) gY (aT aH aS (aT aH aS (ag 0) ax (λ_ _=>rfl)) (ag 5) (λ_ _=>rfl)) (ag 4) (bA _)))) (λ_ _ _ _=>(ag 5))) ax (λ_ _=>rfl)))))))
  (aB (pY 2)))))
theorem sc_law_lines:FnScope ["_law_square_here","_law_found","_law_column"] ["_law_square_here"] (aq fm):=⟨rfl,rfl,rfl,by decide+kernel,rfl,by decide+kernel,by decide+kernel⟩
def lH:FS:=
 aD (fK 1 (dZ (aj)))
 (aD (gW (dU (bz (ae (ak bu (ae (av aW (ai 0) (aA (.int 0))) (aj))) (aj)))) (gN 2) (fS (fJ (fZ (ak uT (ae (aR 1 (oY (fI 1)) (gN 3) (cq) (av (mC false) (ai 2) (ai 3))) (aj))))) (eX (bn 1 1 la (dU (ae (ak (nF 2 ie) (ae (ai 0) (ae (ai 2) (aj)))) (aj))))) (skip)))
 (rS 1))
def cS:List D->Option D:=gr .n 3 lH
theorem vH(B:Bt mg)(F:Df K mg "_law_lines" fm ["_law_square_here"])(ET:Et K mg kx0 kx1 kx2)(mS:Cl P w K mg base 1 "_law_line" ["_law_square_here","_law_begin"] (dS K .n 2 ie)):Cl P w K mg base 2 "_law_lines" ["_law_square_here"] (dS K .n 1 cS):=by
 refine br (k:=1) F sc_law_lines (by decide) rfl λ_ cdv A outer s H hid E hr=>?_
 exact(ar (jW 1 sc_law_lines.nd (iG au))
  (ar (iX L6 rfl (DIp.e (bw B.b_range (ah (aQ aI cb B.b_len (aM (aT aH aS (ag 0) ax (λ_ _=>rfl)) be) (hv:=by kernel_rfl)) au))) (ay 2 sc_law_lines.nd) (aB (fN (j6 (lv (aQ (Aq rfl) Gm B.b_any (aM (dw (N':=["_law_square_here","_law_found","_law_column","_law_line_here"]) rfl (bH (K4 rfl)) (A2 (fL 1)) (λ_ _ _ _=>(ay 3 Jb)) (λ_ _ _ _=>cC) (λ_ _ _ _=>(lP (oZ hr.units) (qU false) (ag 2) (ag 3) (by with_unfolding_all rfl)))) be) (hv:=by kernel_rfl)))) (aB (kO (jS 1 ko gh MU MV (DA.gf (ah (DP.toS (bB mS (hr.mono (by decide)) (ah (ag 0) (ah (ag 2) au)))) au))))) cw)))
  (aB (pY 1))))
theorem sc_law_move:FnScope ["_law_bag_here","_law_n","_law_way","_law_c","_law_r","_law_some"] ["_law_bag_here","_law_n"] (aq gg):=⟨rfl,rfl,rfl,by decide+kernel,rfl,by decide+kernel,by decide+kernel⟩
def mV:FS:=
 aD (jD 2 (bn 0 1 bS (dU (ae (aA (.int 9)) (aj)))))
 (aD (jD 3 (bn 0 1 bS (dU (ae (ai 1) (aj)))))
 (aD (jD 4 (bn 0 1 bS (dU (ae (ai 1) (aj)))))
 (aD (bj 5 (dZ (ae (bF (ae (aA (.str "columns")) (ae (ai 3) (aj)))) (ae (bF (ae (aA (.str "rows")) (ae (ai 4) (aj)))) (ae (bF (ae (aA (.str "tip")) (aj))) (ae (bF (ae (aA (.str "swap")) (ae (ai 3) (aj)))) (ae (bF (ae (aA (.str "cross")) (ae (ai 4) (aj)))) (ae (bF (ae (aA (.str "swap")) (ae (ai 4) (aj)))) (ae (bF (ae (aA (.str "cross")) (ae (ai 3) (aj)))) (aj))))))))))
 (aZ (av aW (av jw (ai 5) (dZ (ae (bF (ae (aA (.str "put")) (ae (ai 3) (ae (av cH (ai 4) (aA (.int 4))) (aj))))) (ae (bF (ae (aA (.str "take")) (ae (ai 3) (ae (ai 4) (aj))))) (aj))))) (ai 2))))))
def ic:List D->List D->Option (D×List D):=vY .s 6 mV
theorem wB(B:Bt mg)(F:Df K mg "_law_move" gg ["_law_bag_here","_law_n"])(ET:Et K mg kx0 kx1 kx2)(bO:Cl P w K mg base 1 "_law_take" ["_law_bag_here","_law_many"] (vX K .s 1 bS)):Cl P w K mg base 2 "_law_move" ["_law_bag_here","_law_n"] (vX K .s 1 ic):=by
 refine tX (k:=1) F sc_law_move (by decide) rfl λ_ cdv A outer s H hid a E hr=>?_
 exact(QSs.to (jq (QS.of (jc 2 sc_law_move.nd (ly 0 bO (hr.mono (by decide)) (DA.gf (ah ax au)))))
  (jq (QS.of (jc 3 sc_law_move.nd (ly 0 bO (hr.mono (by decide)) (DA.gf (ah (ag 1) au)))))
  (jq (QS.of (jc 4 sc_law_move.nd (ly 0 bO (hr.mono (by decide)) (DA.gf (ah (ag 1) au)))))
  (jq (pQ 5 sc_law_move.nd (qi (aG (eQ (aG (QP.of eA) (aG (QP.of (ag 3)) dq))) (aG (eQ (aG (QP.of eA) (aG (QP.of (ag 4)) dq))) (aG (eQ (aG (QP.of eA) dq)) (aG (eQ (aG (QP.of eA) (aG (QP.of (ag 3)) dq))) (aG (eQ (aG (QP.of eA) (aG (QP.of (ag 4)) dq))) (aG (eQ (aG (QP.of eA) (aG (QP.of (ag 4)) dq))) (aG (eQ (aG (QP.of eA) (aG (QP.of (ag 3)) dq))) dq fB) fB) fB) fB) fB) fB) fB)))
  (t9 (QS.of (aY (aT aH aS (nB (ag 5) (QP.dp (qi (aG (eQ (aG (QP.of eA) (aG (QP.of (ag 3)) (aG (QP.of (gO (ag 4) ax)) dq)))) (aG (eQ (aG (QP.of eA) (aG (QP.of (ag 3)) (aG (QP.of (ag 4)) dq)))) dq fB) fB)))) (ag 2) (λ_ _=>rfl))))))))))
theorem sc_law_behind:FnScope ["_law_square_here","_law_move_here","e"] ["_law_square_here","_law_move_here"] (aq eI):=⟨rfl,rfl,rfl,by decide+kernel,rfl,by decide+kernel,by decide+kernel⟩
def kQ:FS:=
 wS 2 exN ["NoMove","TooMany"] (j4 (eg 2 pN (iU (ae (ai 0) (ae (ai 1) (aj)))))) (aZ (ai 0))
def dI:List D->Option D:=gr .s 3 kQ
theorem sY(B:Bt mg)(F:Df K mg "_law_behind" eI ["_law_square_here","_law_move_here"])(ET:Et K mg kx0 kx1 kx2)(sZ:ClX P w K mg base 5 "moved" ["square","move"] (za K .s 2 pN)):Cl P w K mg base 6 "_law_behind" ["_law_square_here","_law_move_here"] (dS K .s 2 dI):=by
 refine br (k:=5) F sc_law_behind (by decide) rfl λ_ cdv A outer s H hid E hr=>?_
 exact(aB (Ay 2 sc_law_behind.nd ⟨rfl,rfl⟩ (λ_ _=>(fP (mi (sN sZ (hr.mono (by decide)) (DA.rr (DA.nox (ah (ag 0) (ah (ag 1) au)))))))) (Eo ET.t rfl (Mm _ (Mt _)) (Mm _ (Mm _ (Mt _)))) (λ_=>(aB (aY (ag 0))))))
theorem sc_law_linked:FnScope ["_law_square_here","_law_lines_here","_law_found","_law_column","_law_row","_law_sign","_law_beneath","_law_over","_law_under"] ["_law_square_here"] (aq eG):=⟨rfl,rfl,rfl,by decide+kernel,rfl,by decide+kernel,by decide+kernel⟩
def ny:FS:=
 aD (bj 1 (ak (nF 1 cS) (ae (ai 0) (aj))))
 (aD (A4 2 1 (dz (ai 1)) (gN 9) (cq) (aR 1 (dz (ai 1)) (gN 10) (cq) (aA (.int 0))))
 (aD (gW (dU (dz (ak (nF 1 cf) (ae (ai 0) (aj))))) (gT 3 (cA (gN 3) (cA (gN 4) (cA (gN 5) (iC))))) (aD (bj 6 (av aW (aR 1 (bz (ae (ak bu (ae (av aW (ai 0) (aA (.int 0))) (aj))) (aj))) (gN 9) (bL (av iD (av aW (av aW (ai 0) (aA (.int 0))) (ai 9)) (ai 4))) (ai 9)) (aA (.int 0))))
 (aD (bj 7 (av aW (aR 1 (bz (ae (ak bu (ae (ai 1) (aj))) (aj))) (gN 9) (bL (av (mC false) (ai 3) (av aW (ai 1) (ai 9)))) (ai 9)) (aA (.int 0))))
 (aD (bj 8 (av aW (aR 1 (bz (ae (ak bu (ae (ai 1) (aj))) (aj))) (gN 9) (bL (av (mC false) (ai 6) (av aW (ai 1) (ai 9)))) (ai 9)) (aA (.int 0))))
 (fS (bL (av nM (ai 7) (ai 8))) (aD (pp 2 (ai 7) (ai 8) (av bC (vn 2 (ai 7) (ai 8)) (ai 5)))
 (pp 2 (ai 8) (ai 7) (av bC (vn 2 (ai 8) (ai 7)) (ai 5)))) (skip))))))
 (vS 2 (aZ (ai 2)))))
def dE:List D->Option D:=gr .s 9 ny
theorem ue(B:Bt mg)(F:Df K mg "_law_linked" eG ["_law_square_here"])(ET:Et K mg kx0 kx1 kx2)(gp:Cl P w K mg base 2 "_law_lines" ["_law_square_here"] (dS K .n 1 cS))(ei:Cl P w K mg base 3 "crossings_of" ["square"] (dS K .n 1 cf)):Cl P w K mg base 4 "_law_linked" ["_law_square_here"] (dS K .s 1 dE):=by
 refine br (k:=3) F sc_law_linked (by decide) rfl λ_ cdv A outer s H hid E hr=>?_
 exact(ar (bp 1 sc_law_linked.nd (DP.toS (bB gp (hr.mono (by decide)) (ah (ag 0) au))))
  (ar (zq 2 (N':=["_law_square_here","_law_lines_here","_law_found","_law_column","_law_row","_law_sign","_law_beneath","_law_over","_law_under","_law_other"]) sc_law_linked.nd rfl (bH (K4 rfl)) (DIp.b (dW (ag 1))) (λ_ _ _ _=>(ay 9 Fn)) (λ_ _ _ _=>cC) (λ_ _ _ _=>(dw (N':=["_law_square_here","_law_lines_here","_law_found","_law_column","_law_row","_law_sign","_law_beneath","_law_over","_law_under","_law_other","_law_line_here"]) rfl (bH (K4 rfl)) (DIp.b (dW (ag 1))) (λ_ _ _ _=>(ay 10 Ip)) (λ_ _ _ _=>cC) (λ_ _ _ _=>ax))))
  (ar (iX L6 rfl (DIp.e (dW (DP.toS (bB ei (hr.mono (by decide)) (ah (ag 0) au))))) (cR (n:=3) rfl (aL (ay 3 sc_law_linked.nd) (aL (ay 4 sc_law_linked.nd) (aL (ay 5 sc_law_linked.nd) cO)))) (ar (bp 6 sc_law_linked.nd (aT aH aS (dw (N':=["_law_square_here","_law_lines_here","_law_found","_law_column","_law_row","_law_sign","_law_beneath","_law_over","_law_under","_law_other"]) rfl (bH (K4 rfl)) (DIp.b (bw B.b_range (ah (aQ aI cb B.b_len (aM (aT aH aS (ag 0) ax (λ_ _=>rfl)) be) (hv:=by kernel_rfl)) au))) (λ_ _ _ _=>(ay 9 Fn)) (λ_ _ _ _=>(jd (bD (eP hr.units) gY (aT aH aS (aT aH aS (ag 0) ax (λ_ _=>rfl)) (ag 9) (λ_ _=>rfl)) (ag 4) (bA _)))) (λ_ _ _ _=>(ag 9))) ax (λ_ _=>rfl)))
  (ar (bp 7 sc_law_linked.nd (aT aH aS (dw (N':=["_law_square_here","_law_lines_here","_law_found","_law_column","_law_row","_law_sign","_law_beneath","_law_over","_law_under","_law_k"]) rfl (bH (K4 rfl)) (DIp.b (bw B.b_range (ah (aQ aI cb B.b_len (aM (ag 1) be) (hv:=by kernel_rfl)) au))) (λ_ _ _ _=>(ay 9 Fq)) (λ_ _ _ _=>(jd (bD (oZ hr.units) (qU false) (ag 3) (aT aH aS (ag 1) (ag 9) (λ_ _=>rfl)) (by with_unfolding_all rfl)))) (λ_ _ _ _=>(ag 9))) ax (λ_ _=>rfl)))
  (ar (bp 8 sc_law_linked.nd (aT aH aS (dw (N':=["_law_square_here","_law_lines_here","_law_found","_law_column","_law_row","_law_sign","_law_beneath","_law_over","_law_under","_law_k"]) rfl (bH (K4 rfl)) (DIp.b (bw B.b_range (ah (aQ aI cb B.b_len (aM (ag 1) be) (hv:=by kernel_rfl)) au))) (λ_ _ _ _=>(ay 9 Fq)) (λ_ _ _ _=>(jd (bD (oZ hr.units) (qU false) (ag 6) (aT aH aS (ag 1) (ag 9) (λ_ _=>rfl)) (by with_unfolding_all rfl)))) (λ_ _ _ _=>(ag 9))) ax (λ_ _=>rfl)))
  (aB (fN (bD (lu hr.units) nW (ag 7) (ag 8) (bA _)) (ar (yc 2 (xp hr) (ag 7) (ag 8) (cQ (CO 2 (ag 7) (ag 8)) (ag 5)))
  (aB (yc 2 (xp hr) (ag 8) (ag 7) (cQ (CO 2 (ag 8) (ag 7)) (ag 5))))) cw))))))
  (aB (Ew 2 (aY (ag 2)))))))
theorem sc_law_orders:FnScope ["_law_n","_law_found","_law_number","_law_longer","_law_row"] ["_law_n"] (aq eB):=⟨rfl,rfl,rfl,by decide+kernel,rfl,by decide+kernel,by decide+kernel⟩
def nL:FS:=
 aD (bj 1 (dZ (ae (dZ (aj)) (aj))))
 (aD (gW (dU (bz (ae (ai 0) (aj)))) (gN 2) (aD (bj 3 (dZ (aj)))
 (aD (gW (dU (dz (ai 1))) (gN 4) (bj 3 (av jw (ai 3) (aR 1 (bz (ae (av bC (ak bu (ae (ai 4) (aj))) (aA (.int 1))) (aj))) (gN 5) (cq) (av jw (av jw (pL (ai 4) B0 (z7 (ai 5))) (dZ (ae (ai 2) (aj)))) (pL (ai 4) (z7 (ai 5)) B0))))))
 (bj 1 (ai 3)))))
 (aZ (ai 1)))
def i7:List D->Option D:=gr .s 5 nL
theorem tQ(B:Bt mg)(F:Df K mg "_law_orders" eB ["_law_n"])(ET:Et K mg kx0 kx1 kx2):Cl P w K mg base 1 "_law_orders" ["_law_n"] (dS K .s 1 i7):=by
 refine br (k:=0) F sc_law_orders (by decide) rfl λ_ cdv A outer s H hid E hr=>?_
 exact(QSs.to (jq (pQ 1 sc_law_orders.nd (qi (aG (qi dq) dq FN)))
  (jq (QS.of (iX L6 rfl (DIp.e (bw B.b_range (ah (ag 0) au))) (ay 2 sc_law_orders.nd) (ar (bp 3 sc_law_orders.nd (DP.toS (iG au)))
  (ar (iX L6 rfl (DIp.e (dW (ag 1))) (ay 4 sc_law_orders.nd) (aB (bp 3 sc_law_orders.nd (DP.toS (nB (ag 3) (dw (N':=["_law_n","_law_found","_law_number","_law_longer","_law_row","_law_at"]) rfl (bH (K4 rfl)) (DIp.b (bw B.b_range (ah (cQ (aQ aI cb B.b_len (aM (ag 4) be) (hv:=by kernel_rfl)) ax) au))) (λ_ _ _ _=>(ay 5 Iq)) (λ_ _ _ _=>cC) (λ_ _ _ _=>(DP.toS (nB (nB (Am (ag 4) xq (xI (ag 5))) (iG (ah (ag 2) au))) (Am (ag 4) (xI (ag 5)) xq))))))))))
  (aB (bp 1 sc_law_orders.nd (ag 3)))))))
  (t9 (QS.of (aY (ag 1)))))))
theorem sc_law_alike:FnScope ["_law_one","_law_other","_law_order_here"] ["_law_one","_law_other"] (aq fy):=⟨rfl,rfl,rfl,by decide+kernel,rfl,by decide+kernel,by decide+kernel⟩
def pk:FS:=
 aD (gW (dU (dz (ak (nF 1 i7) (ae (ak bu (ae (ai 0) (aj))) (aj))))) (gN 2) (fS (bL (av iD (aR 1 (dz (ai 2)) (gN 3) (cq) (aR 1 (dz (ai 2)) (gN 4) (cq) (av aW (av aW (ai 0) (ai 3)) (ai 4)))) (ai 1))) (aZ (aA (.bl true))) (skip)))
 (aZ (aA (.bl false)))
def fj:List D->Option D:=gr .s 3 pk
theorem vJ(B:Bt mg)(F:Df K mg "_law_alike" fy ["_law_one","_law_other"])(ET:Et K mg kx0 kx1 kx2)(kY:Cl P w K mg base 1 "_law_orders" ["_law_n"] (dS K .s 1 i7)):Cl P w K mg base 2 "_law_alike" ["_law_one","_law_other"] (dS K .s 2 fj):=by
 refine br (k:=1) F sc_law_alike (by decide) rfl λ_ cdv A outer s H hid E hr=>?_
 exact(ar (iX L6 rfl (DIp.e (dW (bB kY (hr.mono (by decide)) (ah (aQ aI cb B.b_len (aM (ag 0) be) (hv:=by kernel_rfl)) au)))) (ay 2 sc_law_alike.nd) (aB (fN (bD (eP hr.units) gY (dw (N':=["_law_one","_law_other","_law_order_here","_law_k"]) rfl (bH (K4 rfl)) (DIp.b (dW (ag 2))) (λ_ _ _ _=>(ay 3 IU)) (λ_ _ _ _=>cC) (λ_ _ _ _=>(DP.toS (dw (N':=["_law_one","_law_other","_law_order_here","_law_k","_law_l"]) rfl (bH (K4 rfl)) (DIp.b (dW (ag 2))) (λ_ _ _ _=>(ay 4 II)) (λ_ _ _ _=>cC) (λ_ _ _ _=>(aT aH aS (aT aH aS (ag 0) (ag 3) (λ_ _=>rfl)) (ag 4) (λ_ _=>rfl))))))) (ag 1) (bA _)) (aB (aY pz)) cw)))
  (aB (aY pz)))
theorem sc_law_ties_good:FnScope ["_law_square_here","_law_linked_here","_law_due","_law_k"] ["_law_square_here","_law_linked_here"] (aq cK):=⟨rfl,rfl,rfl,by decide+kernel,rfl,by decide+kernel,by decide+kernel⟩
def lz:FS:=
 aD (bj 2 (dZ (aj)))
 (aD (gW (dU (bz (ae (ak bu (ae (ai 1) (aj))) (aj)))) (gN 3) (bj 2 (av jw (ai 2) (aR 1 (po (ae (av bC (ai 3) (aA (.int 1))) (ae (ak bu (ae (ai 1) (aj))) (aj)))) (gN 4) (cq) (bF (ae (ai 3) (ae (ai 4) (ae (av iZ (av aW (av aW (ai 1) (ai 3)) (ai 4)) (aA (.int 2))) (aj)))))))))
 (aZ (Fw (qt (bL (av iD (ak (nF 1 ms) (ae (ai 0) (aj))) (ai 2))) (bL (av iD (ak (nF 1 eC) (ae (ai 0) (aj))) (ak (nF 1 cS) (ae (ai 0) (aj)))))))))
def dD:List D->Option D:=gr .s 4 lz
theorem pB(B:Bt mg)(F:Df K mg "_law_ties_good" cK ["_law_square_here","_law_linked_here"])(ET:Et K mg kx0 kx1 kx2)(oH:Cl P w K mg base 5 "ties_of" ["square"] (dS K .n 1 ms))(hZ:Cl P w K mg base 2 "lines_of" ["square"] (dS K .n 1 eC))(gp:Cl P w K mg base 2 "_law_lines" ["_law_square_here"] (dS K .n 1 cS)):Cl P w K mg base 6 "_law_ties_good" ["_law_square_here","_law_linked_here"] (dS K .s 2 dD):=by
 refine br (k:=5) F sc_law_ties_good (by decide) rfl λ_ cdv A outer s H hid E hr=>?_
 exact(ar (bp 2 sc_law_ties_good.nd (DP.toS (iG au)))
  (ar (iX L6 rfl (DIp.e (bw B.b_range (ah (aQ aI cb B.b_len (aM (ag 1) be) (hv:=by kernel_rfl)) au))) (ay 3 sc_law_ties_good.nd) (aB (bp 2 sc_law_ties_good.nd (DP.toS (nB (ag 2) (dw (N':=["_law_square_here","_law_linked_here","_law_due","_law_k","_law_other"]) rfl (bH (K4 rfl)) (DIp.b (qb B.b_range (ah (cQ (ag 3) ax) (ah (aQ aI cb B.b_len (aM (ag 1) be) (hv:=by kernel_rfl)) au)))) (λ_ _ _ _=>(ay 4 HE)) (λ_ _ _ _=>cC) (λ_ _ _ _=>(ee (ah (ag 3) (ah (ag 4) (ah (nu (aT aH aS (aT aH aS (ag 1) (ag 3) (λ_ _=>rfl)) (ag 4) (λ_ _=>rfl)) ax) au)))))))))))
  (aB (aY (Cu (lP (eP hr.units) gY (bB oH (hr.mono (by decide)) (ah (ag 0) au)) (ag 2) (bA _)) (A7 (lP (eP hr.units) gY (bB hZ (hr.mono (by decide)) (ah (ag 0) au)) (bB gp (hr.mono (by decide)) (ah (ag 0) au)) (bA _))))))))
theorem sc_law:FnScope ["_law_script","_law_k","_law_bag_here","_law_plain","_law_square_here","_law_ahead","_law_turn","_law_linked_here"] ["_law_script"] (aq mE):=⟨rfl,rfl,rfl,by decide+kernel,rfl,by decide+kernel,by decide+kernel⟩
def AE:FS:=
 aD (gW (dU (bz (ae (ak rX (ae (aA (.int 1)) (ae (ak lQ (ae (aA (.int 3)) (ae (ak bu (ae (ai 0) (aj))) (aj)))) (aj)))) (aj)))) (gN 1) (aD (fK 2 (ak (nF 2 ml) (ae (ai 0) (ae (ai 1) (aj)))))
 (aD (jD 3 (bn 2 1 bS (dU (ae (aA (.int 4)) (aj)))))
 (aD (jD 4 (bn 2 1 i6 (gj (p7 bC (pu (aA (.int 2))) (bn 2 1 bS (dU (ae (aA (.int 5)) (aj))))) (dU (aj)))))
 (aD (fS (bL (av uv (ai 3) (aA (.int 2)))) (bj 4 (av aW (dZ (ae (bF (ae (bF (ae (aA (.int 0)) (ae (aA (.int 1)) (ae (aA (.int 2)) (ae (aA (.int 3)) (aj)))))) (ae (bF (ae (aA (.int 2)) (ae (aA (.int 3)) (ae (aA (.int 0)) (ae (aA (.int 1)) (aj)))))) (aj)))) (ae (bF (ae (bF (ae (aA (.int 0)) (ae (aA (.int 1)) (ae (aA (.int 2)) (ae (aA (.int 3)) (ae (aA (.int 4)) (ae (aA (.int 5)) (aj)))))))) (ae (bF (ae (aA (.int 3)) (ae (aA (.int 4)) (ae (aA (.int 5)) (ae (aA (.int 0)) (ae (aA (.int 1)) (ae (aA (.int 2)) (aj)))))))) (aj)))) (aj)))) (ai 3))) (skip))
 (aD (bj 5 (ak (nF 1 dE) (ae (ai 4) (aj))))
 (gW (dU (bz (ae (aA (.int 20)) (aj)))) (gN 6) (aD (jD 4 (pf (nF 2 dI) (gj (pu (ai 4)) (gj (bn 2 1 ic (dU (ae (ak bu (ae (av aW (ai 4) (aA (.int 0))) (aj))) (aj)))) (dU (aj))))))
 (aD (bj 7 (ak (nF 1 dE) (ae (ai 4) (aj))))
 (aD (fS (rj (bL (av nM (ak bu (ae (ai 7) (aj))) (ak bu (ae (ai 5) (aj))))) (rj (fJ (fZ (ak (nF 2 fj) (ae (ai 7) (ae (ai 5) (aj)))))) (fJ (fZ (ak (nF 2 dD) (ae (ai 4) (ae (ai 7) (aj)))))))) (aZ (aA (.bl false))) (skip))
 (bj 5 (ai 7))))))))))))
 (aZ (aA (.bl true)))
def Fs:List D->Option D:=gr .s 8 AE
theorem GD {f:Addr}{fd:M5}(B:Bt mg)(F:Fun K "law" "law" mE f fd)(ET:Et K mg kx0 kx1 kx2)(oX:Cl P w K mg base 2 "_law_bag" ["_law_script","_law_at"] (dS K .n 2 ml))(bO:Cl P w K mg base 1 "_law_take" ["_law_bag_here","_law_many"] (vX K .s 1 bS))(lq:Cl P w K mg base 3 "_law_square" ["_law_bag_here","_law_n"] (vX K .s 1 i6))(je:Cl P w K mg base 4 "_law_linked" ["_law_square_here"] (dS K .s 1 dE))(kX:Cl P w K mg base 6 "_law_behind" ["_law_square_here","_law_move_here"] (dS K .s 2 dI))(nh:Cl P w K mg base 2 "_law_move" ["_law_bag_here","_law_n"] (vX K .s 1 ic))(lU:Cl P w K mg base 2 "_law_alike" ["_law_one","_law_other"] (dS K .s 2 fj))(iK:Cl P w K mg base 6 "_law_ties_good" ["_law_square_here","_law_linked_here"] (dS K .s 2 dD)):FnOk P w K mg base ur 7 f fd ["_law_script"] (dS K .s 1 Fs):=by
 refine yN (k:=6) F sc_law (by decide) λcdv A outer s H hid E hr=>?_
 exact(ar (iX L6 rfl (DIp.e (bw B.b_range (ah (aQ (rY rfl) xP B.b_max (aM ax (aM (aQ (oz rfl) ui B.b_min (aM ax (aM (aQ aI cb B.b_len (aM (ag 0) be) (hv:=by kernel_rfl)) be)) (hv:=by kernel_rfl)) be)) (hv:=by kernel_rfl)) au))) (ay 1 sc_law.nd) (ar (jW 2 sc_law.nd (bB oX (hr.mono (by decide)) (ah (ag 0) (ah (ag 1) au))))
  (ar (jc 3 sc_law.nd (ly 2 bO (hr.mono (by decide)) (DA.gf (ah ax au))))
  (ar (jc 4 sc_law.nd (ly 2 lq (hr.mono (by decide)) (oe (AY (DP.ef ax) (ly 2 bO (hr.mono (by decide)) (DA.gf (ah ax au)))) (DA.gf au))))
  (ar (fN (bD pj gm (ag 3) ax (bA _)) (by refine aB ?_;exact(by refine QS.ds ?_;refine pQ 4 sc_law.nd ?_ (hs:= ?_);(exact(Iy (qi (aG (eQ (aG (eQ (aG (QP.of ax) (aG (QP.of ax) (aG (QP.of ax) (aG (QP.of ax) dq))))) (aG (eQ (aG (QP.of ax) (aG (QP.of ax) (aG (QP.of ax) (aG (QP.of ax) dq))))) dq fB) fB)) (aG (eQ (aG (eQ (aG (QP.of ax) (aG (QP.of ax) (aG (QP.of ax) (aG (QP.of ax) (aG (QP.of ax) (aG (QP.of ax) dq))))))) (aG (eQ (aG (QP.of ax) (aG (QP.of ax) (aG (QP.of ax) (aG (QP.of ax) (aG (QP.of ax) (aG (QP.of ax) dq))))))) dq fB) fB)) dq fB) fB)) (QP.of (ag 3)) (λ_ _=>rfl)));kernel_rfl)) cw)
  (ar (bp 5 sc_law.nd (bB je (hr.mono (by decide)) (ah (ag 4) au)))
  (aB (iX L6 rfl (DIp.e (bw B.b_range (ah ax au))) (ay 6 sc_law.nd) (ar (jc 4 sc_law.nd (Hf kX (hr.mono (by decide)) (oe (DP.ef (ag 4)) (oe (ly 2 nh (hr.mono (by decide)) (DA.gf (ah (aQ aI cb B.b_len (aM (aT aH aS (ag 4) ax (λ_ _=>rfl)) be) (hv:=by kernel_rfl)) au))) (DA.gf au)))))
  (ar (bp 7 sc_law.nd (bB je (hr.mono (by decide)) (ah (ag 4) au)))
  (ar (fN (DW.dt (uX (bD (lu hr.units) nW (aQ aI cb B.b_len (aM (ag 7) be) (hv:=by kernel_rfl)) (aQ aI cb B.b_len (aM (ag 5) be) (hv:=by kernel_rfl)) (bA _)) (uX (j6 (lv (bB lU (hr.mono (by decide)) (ah (ag 7) (ah (ag 5) au))))) (tx (j6 (lv (bB iK (hr.mono (by decide)) (ah (ag 4) (ah (ag 7) au))))))))) (aB (aY pz)) cw)
  (aB (bp 5 sc_law.nd (ag 7))))))))))))))
  (aB (aY pz)))
end
theorem Ds {o:List Nat}{a b:Nat}(ha:a<o.length)(hb:b<o.length)(i:Nat):(lF o a b).getD i 0=if i=b then o.getD a 0 else if i=a then o.getD b 0 else o.getD i 0:=by
 unfold lF;simp only[K2,Q0]
 by_cases e:i=b
 ·subst e;rw[if_pos rfl,if_pos (by rw[Pz];exact hb),if_pos rfl];rfl
 ·rw[if_neg (Lw e),if_neg e]
  by_cases e2:i=a
  ·subst e2;rw[if_pos rfl,if_pos ha,if_pos rfl];rfl
  ·rw[if_neg (Lw e2),if_neg e2]
theorem xS(v:Nat): ∀l:List Nat,v∈l-> ∃j,(l.map nI).findIdx? (λd=>eN d (nI v))=some j/\j<l.length/\l.getD j 0=v
 | [],h=>absurd h Nx
 |y::l,h=>by
  rw[Lf,List.findIdx?_cons,iJ]
  by_cases e:y=v
  ·exact⟨0,by simp[e],by simp,by simpa using e⟩
  ·obtain⟨j,h1,h2,h3⟩:=xS v l ((Ll.mp h).resolve_left (Lw e))
   refine⟨j+1,by simp[e,h1],by simp[h2],by simpa using h3⟩
structure Sg(n:Nat)(r x:List Nat)(S:Nat->Nat):Prop where
 ev: ∀y,y<n->lB (aN x) (nI (r.getD y 0))=some (nI (S y))
 lt: ∀y,y<n->S y<n
 inj: ∀y z,y<n->z<n->S y=S z->y=z
theorem kl {n:Nat}{l:List Nat}(nd:l.Nodup)(h: ∀z∈l,z<n):l.length<=n:=by
 have p:l.Perm ((KW n).filter λz=>decide (z∈l)):=(Ms nd (P6 _ ME)).mpr λz=>by
  rw[L8,La,decide_eq_true_eq];exact⟨λq=>⟨h z q,q⟩,λq=>q.2⟩
 rw[p.length_eq];exact LW (NH _ _) (by simp)
def mO(S:Nat->Nat):Nat->Nat->Nat
 |0,s=>s
 |k+1,s=>S (mO S k s)
def oj(S:Nat->Nat)(s z:Nat):Prop:= ∃k,mO S k s=z
theorem lL(S:Nat->Nat)(s:Nat):oj S s s:=⟨0,rfl⟩
theorem qE {S:Nat->Nat}{s z:Nat}(h:oj S s z):oj S s (S z):=let⟨k,e⟩:=h;⟨k+1,by show S (mO S k s)=_;rw[e]⟩
theorem nl(S:Nat->Nat)(s m:Nat): ∀k,mO S k (mO S m s)=mO S (k+m) s
 |0=>by rw[No];rfl
 |k+1=>by rw[Nat.succ_add];show S _=S _;rw[nl S s m k]
theorem mn {S:Nat->Nat}{a b c:Nat}(h1:oj S a b)(h2:oj S b c):oj S a c:=by
 obtain⟨m,rfl⟩:=h1
 obtain⟨k,rfl⟩:=h2
 exact⟨k+m,(nl S a m k).symm⟩
structure Wlk(n:Nat)(S:Nat->Nat)(s:Nat)(W:List Nat)(t:Nat):Prop where
 nd:W.Nodup
 lt: ∀z∈W,z<n
 hs:s∈W
 ht:t∈W
 pre: ∀z∈W,z≠s-> ∃y∈W,y≠t/\S y=z
 nxt: ∀z∈W,z≠t->S z∈W
 on: ∀z∈W,oj S s z
 back: ∀z∈W,oj S z t
structure Cyc(n:Nat)(S:Nat->Nat)(s:Nat)(W:List Nat):Prop where
 lt: ∀z∈W,z<n
 mem: ∀z,z∈W↔oj S s z
 back: ∀z,z∈W->oj S z s
section
variable {n:Nat}{r x:List Nat}{S:Nat->Nat}(H:Sg n r x S)
theorem Wlk.start {s:Nat}(hs:s<n):Wlk n S s [s] s:=
 ⟨by simp,λz hz=>by rw[L3] at hz;rw[hz];exact hs,by simp,by simp,λz hz hn=>absurd (L3.mp hz) hn,λz hz hn=>absurd (L3.mp hz) hn,λz hz=>by rw[L3] at hz;rw[hz];exact lL S s,λz hz=>by rw[L3] at hz;rw[hz];exact lL S s⟩
include H
theorem Wlk.notin {s t:Nat}{W:List Nat}(w:Wlk n S s W t)(h:S t≠s):S t∉W:=λhm=>by
 obtain⟨y,y1,y2,y3⟩:=w.pre _ hm h
 exact y2 (H.inj _ _ (w.lt _ y1) (w.lt _ w.ht) y3)
theorem Wlk.next {s t:Nat}{W:List Nat}(w:Wlk n S s W t)(h:S t≠s):Wlk n S s (W++[S t]) (S t):=by
 have hm:=w.notin H h
 have cs: ∀ {P:Nat->Prop},(∀z∈W,P z)->P (S t)-> ∀z∈W++[S t],P z:=λh1 h2 z hz=>(NW.mp hz).elim (h1 z) λq=>by rw[L3] at q;rw[q];exact h2
 refine⟨Q3.mpr ⟨w.nd,by simp,λu hu v hv=>by rw[L3] at hv;subst hv;exact λe=>hm (e▸hu)⟩,cs w.lt (H.lt _ (w.lt _ w.ht)),Mi _ w.hs,by simp,cs (λz hz hn=>?_) (λ_=>⟨t,Mi _ w.ht,λe=>hm (e▸w.ht),rfl⟩),cs (λz hz hn=>?_) (λq=>absurd rfl q),cs w.on (qE (w.on _ w.ht)),cs (λz hz=>qE (w.back z hz)) (lL S _)⟩
 ·obtain⟨y,y1,_,y3⟩:=w.pre z hz hn
  exact⟨y,Mi _ y1,λe=>hm (e▸y1),y3⟩
 ·by_cases e:z=t
  ·subst e;simp
  ·exact Mi _ (w.nxt z hz e)
omit H in
theorem Wlk.done {s t:Nat}{W:List Nat}(w:Wlk n S s W t)(h:S t=s):Cyc n S s W:=by
 refine⟨w.lt,λz=>⟨w.on z,?_⟩,λz hz=>h▸qE (w.back z hz)⟩
 rintro⟨k,rfl⟩
 induction k with
 |zero=>exact w.hs
 |succ k ih=>
  show S (mO S k s)∈W
  by_cases e:mO S k s=t
  ·rw[e,h];exact w.hs
  ·exact w.nxt _ ih e
theorem BH {s:Nat}(hs:s<n): ∃W,Cyc n S s W:=by
 have go: ∀(f:Nat) (W:List Nat) (t:Nat),n<f+W.length->Wlk n S s W t-> ∃W,Cyc n S s W:=by
  intro f
  induction f with
  |zero=>intro W t h w;exact absurd (kl w.nd w.lt) (by omega)
  |succ f ih=>
   intro W t h w
   by_cases e:S t=s
   ·exact⟨W,w.done e⟩
   ·exact ih (W++[S t]) (S t) (by rw[LJ,Mn];omega) (w.next H e)
 exact go (n+1) [s] s (by omega) (Wlk.start hs)
theorem nz {s z:Nat}(hs:s<n)(h:oj S s z):oj S z s:=by
 obtain⟨W,c⟩:=BH H hs
 exact c.back z ((c.mem z).mpr h)
end
def led(S:Nat->Nat)(s:Nat):Prop:= ∀z,oj S s z->s<=z
noncomputable def iy(S:Nat->Nat)(s:Nat):Bool:= @decide (led S s) (Pk _)
theorem ledB_iff {S:Nat->Nat}{s:Nat}:iy S s=true↔led S s:=by unfold iy;exact @decide_eq_true_iff _ (Pk _)
def Hv:FT:=bL (av nM (av aW (ai 0) (av aW (fI 3) (tO (aA (.int 1))))) (ai 2))
def Ht:FS:=eX (bn 3 1 la (dU (ae (av aW (ai 0) (av aW (fI 3) (tO (aA (.int 1))))) (aj))))
def Jh:FS:=fS (bL (av iD (ak sv (ae (fI 3) (aj))) (ai 2))) ((λρ=>(eX (bn 1 1 la (dU (ae (ai 3) (aj))))) (zx 3 ρ))) (skip)
def iP:FS:=
 aD (fK 1 (dZ (aj)))
 (aD (gW (dU (bz (ae (ak bu (ae (ai 0) (aj))) (aj)))) (gN 2) (aD (fK 3 (dZ (ae (ai 2) (aj))))
 (aD (pV Hv Ht 16)
 Jh)))
 (rS 1))
def pA:List D->Option D:=gr .n 4 iP
structure Wl(n:Nat)(S:Nat->Nat)(s:Nat)(W:List Nat)(t:Nat):Prop where
 w:Wlk n S s W t
 last:W.getLast?=some t
 eq:W=(KW W.length).map λi=>mO S i s
structure Cy(n:Nat)(S:Nat->Nat)(s:Nat)(W:List Nat):Prop where
 c:Cyc n S s W
 eq:W=(KW W.length).map λi=>mO S i s
 per:mO S W.length s=s
 nd:W.Nodup
 pos:0<W.length
structure Sh(n:Nat)(S:Nat->Nat):Prop where
 lt: ∀y,y<n->S y<n
 inj: ∀y z,y<n->z<n->S y=S z->y=z
theorem Sh.sg {n:Nat}{S:Nat->Nat}(H:Sh n S):Sg n ((KW n).map S) (KW n) S:=by
 refine⟨λy hy=>?_,H.lt,H.inj⟩
 have e:((KW n).map S).getD y 0=S y:=by simp[MB,hy]
 rw[e];obtain⟨j,h1,h2,h3⟩:=xS (S y) (KW n) (La.mpr (H.lt y hy))
 have:j=S y:=by
  rw[Mh] at h2;simpa [MB,h2] using h3
 subst this;show(if dB ((KW n).map nI)<=32 then(rG ((KW n).map nI) (nI (S y))).map (λj=>D.int j) else none)=_
 rw[if_pos (by rw[jX];omega)]
 unfold rG;rw[h1];rfl
theorem Wl.start {n:Nat}{S:Nat->Nat}{s:Nat}(hs:s<n):Wl n S s [s] s:=⟨Wlk.start hs,rfl,rfl⟩
theorem Wl.tt {n:Nat}{S:Nat->Nat}{s t:Nat}{W:List Nat}(w:Wl n S s W t):S t=mO S W.length s:=by
 have h:=w.last
 have e:=w.eq
 have hp:0<W.length:=by
  cases W with
  |nil=>cases h
  |cons=>simp
 rw[OZ] at h;have e2:W[W.length-1]? =some (mO S (W.length-1) s):=by
  have q: ∀k,k<W.length->((KW W.length).map λi=>mO S i s)[k]? =some (mO S k s):=λk hk=>by rw[Ln,LU hk];rfl
  have q2:=q (W.length-1) (by omega)
  rw[<-e] at q2;exact q2
 have e3:=h.symm.trans e2
 injection e3 with e3
 have:W.length=(W.length-1)+1:=by omega
 rw[this];show S t=S (mO S (W.length-1) s);rw[<-e3]
theorem Wl.next {n:Nat}{S:Nat->Nat}(H:Sh n S){s t:Nat}{W:List Nat}(w:Wl n S s W t)(h:S t≠s):Wl n S s (W++[S t]) (S t):=by
 refine⟨w.w.next H.sg h,by simp,?_⟩
 rw[LJ,Mn,Nl,L5,<-w.eq,w.tt];rfl
theorem Wl.done {n:Nat}{S:Nat->Nat}{s t:Nat}{W:List Nat}(w:Wl n S s W t)(h:S t=s):Cy n S s W:=by
 refine⟨w.w.done h,w.eq,by rw[<-w.tt];exact h,w.w.nd,?_⟩
 have:=w.last
 cases W with
 |nil=>cases this
 |cons=>simp
theorem Cy.uniq {n:Nat}{S:Nat->Nat}{s:Nat}{W W':List Nat}(a:Cy n S s W)(b:Cy n S s W'):W=W':=by
 have key: ∀ {W W':List Nat},Cy n S s W->Cy n S s W'-> ¬W.length<W'.length:=λ{W W'} a b h=>by
  have e0:W'[0]? =some s:=by rw[b.eq];simp[b.pos];rfl
  have e1:W'[W.length]? =some s:=by rw[b.eq];simp[h];exact a.per
  have:=(List.getElem?_inj (by exact b.pos) b.nd).mp (e0.trans e1.symm)
  have:=a.pos
  omega
 have:W.length=W'.length:=by have h1:=key a b;have h2:=key b a;omega
 rw[a.eq,b.eq,this]
section
variable {n:Nat}{S:Nat->Nat}(H:Sh n S)(hn:n<=14)
abbrev C2(n:Nat)(S:Nat->Nat)(F:List D)(s:Nat)(W:List Nat):aJ:=[.v (.lst (((KW n).map S).map nI)),.own F,.v (nI s),.own (W.map nI)]
theorem DF {W:List Nat}{t:Nat}(h:W.getLast?=some t):aW (.lst (W.map nI)) (.int (-1))=some (nI t):=by
 show pU (W.map nI) (-1)=_;have hp:0<W.length:=by
  cases W with
  |nil=>cases h
  |cons=>simp
 unfold pU rl;rw[if_neg (by omega),if_pos (by rw[K5];omega),K6]
 have:(-1+((W.map nI).length:Int)).toNat=W.length-1:=by rw[K5];omega
 rw[this,Ln,<-OZ,h];rfl
theorem G4(ρ:aJ):tO (aA (.int 1)) ρ=some (.int (-1)):=rfl
include H in
theorem BU {F:List D}{s t:Nat}{W:List Nat}(w:Wl n S s W t):av aW (ai 0) (av aW (fI 3) (tO (aA (.int 1)))) (C2 n S F s W)=some (nI (S t)):=by
 refine(az (x:=.lst (((KW n).map S).map nI)) (y:=nI t) rfl ((az (x:=.lst (W.map nI)) rfl (G4 _)).trans (DF w.last))).trans ?_
 have ht:=w.w.lt _ w.w.ht
 refine(yz (by simp[ht])).trans ?_
 congr 2
 simp[MB,ht]
include H hn in
theorem tz(F:List D)(s:Nat): ∀(f:Nat) (W:List Nat) (t:Nat),n<f+W.length->Wl n S s W t->
 ∃L,pV Hv Ht f (C2 n S F s W)=.nx (C2 n S F s L)/\Cy n S s L
 |0,W,t,h,w=>absurd (kl w.w.nd w.w.lt) (by omega)
 |f+1,W,t,h,w=>by
  unfold pV;have tt:Hv (C2 n S F s W)=some (!decide (S t=s)):=by
   unfold Hv;refine bN ((az (x:=nI (S t)) (y:=nI s) (BU H w) rfl).trans ?_)
   rw[lJ (by rw[fE];omega),iJ]
  rw[tt]
  by_cases e:S t=s
  ·rw[show(!decide (S t=s))=false by simp[e]]
   exact⟨W,rfl,w.done e⟩
  ·rw[show(!decide (S t=s))=true by simp[e]]
   have ll:=kl w.w.nd w.w.lt
   have b:Ht (C2 n S F s W)=.nx (C2 n S F s (W++[S t])):=by
    unfold Ht;refine(uf (i:=3) (bs:=W.map nI) (d:=nI (S t)) rfl (ck (ao (BU H w) rfl)) rfl (by rw[K5];omega)).trans ?_
    unfold C2;rw[L5];rfl
   obtain⟨L,h1,h2⟩:=tz F s f (W++[S t]) (S t) (by rw[LJ,Mn];omega) (w.next H e)
   refine⟨L,?_,h2⟩
   dsimp only;rw[b];exact h1
theorem CA: ∀l:List Nat,iB (l.map nI)=some (l.map λ(z:Nat)=>(z:Int))
 | []=>rfl
 |z::l=>by rw[Lf];show(iB (l.map nI)).map _=_;rw[CA l];rfl
theorem Im {l:List Nat}{s:Nat}(h:s∈l): ∃v:Int,sv [.lst (l.map nI)]=some (.int v)/\(v=s↔ ∀z∈l,s<=z):=by
 refine⟨oP (l.map λ(z:Nat)=>(z:Int)),?_,?_⟩
 ·show((iB (l.map nI)).bind λns=>if ns.isEmpty=true then none else some (D.int (oP ns)))=_
  rw[CA];cases l with
  |nil=>exact absurd h Nx
  |cons=>rfl
 ·cases l with
  |nil=>exact absurd h Nx
  |cons a l=>
   obtain⟨m1,m2⟩:=vi (l.map λ(z:Nat)=>(z:Int)) (a:Int)
   have m1:oP ((a::l).map λ(z:Nat)=>(z:Int))∈(a::l).map λ(z:Nat)=>(z:Int):=m1
   have m2: ∀x∈(a::l).map (λ(z:Nat)=>(z:Int)),oP ((a::l).map λ(z:Nat)=>(z:Int))<=x:=m2
   constructor
   ·intro e z hz
    have:=m2 z (LX.mpr ⟨z,hz,rfl⟩)
    omega
   ·intro q
    have h1:=m2 s (LX.mpr ⟨s,h,rfl⟩)
    obtain⟨z,hz,e⟩:=LX.mp m1
    have h2:=q z hz
    omega
include H hn in
theorem pE: ∃C:Nat->List Nat,(∀s,s<n->Cy n S s (C s))/\
 pA [.lst (((KW n).map S).map nI)]=some (.lst (((KW n).filter (iy S)).map λs=>.lst ((C s).map nI))):=by
 have hC: ∀s,∃L,s<n->Cy n S s L:=λs=>by
  by_cases hs:s<n
  ·obtain⟨L,_,h⟩:=tz H hn [] s 16 [s] s (by simp;omega) (Wl.start hs)
   exact⟨L,λ_=>h⟩
  ·exact⟨[],λh=>absurd h hs⟩
 obtain⟨C,hC⟩:=Classical.skolem.mp hC
 refine⟨C,hC,?_⟩
 have lp: ∀(l:List Nat),(∀s∈l,s<n)-> ∀(F:List D) (s2 s3:Sl),F.length+l.length<=900-> ∃s2' s3',fh (gN 2) (aD (fK 3 (dZ (ae (ai 2) (aj)))) (aD (pV Hv Ht 16) Jh)) (l.map nI) [.v (.lst (((KW n).map S).map nI)),.own F,s2,s3]
  =.nx [.v (.lst (((KW n).map S).map nI)),.own (F++(l.filter (iy S)).map λs=>.lst ((C s).map nI)),s2',s3']:=by
  intro l
  induction l with
  |nil=>intro _ F s2 s3 _;exact⟨s2,s3,by simp[fh]⟩
  |cons s l ih=>
   intro hl F s2 s3 hF;rw[LM] at hF;have hs:=hl s (Lu ..)
   obtain⟨L,hL,K⟩:=tz H hn F s 16 [s] s (by simp;omega) (Wl.start hs)
   cases K.uniq (hC s hs)
   have b1:(aD (fK 3 (dZ (ae (ai 2) (aj)))) (aD (pV Hv Ht 16) Jh)) [.v (.lst (((KW n).map S).map nI)),.own F,.v (nI s),s3]=Jh (C2 n S F s (C s)):=
    (aC (ρ':=C2 n S F s [s]) ((i9 (li (ds:=[nI s]) rfl (by simp))).trans rfl)).trans (aC hL)
   obtain⟨v,hv,hv2⟩:=Im ((K.c.mem s).mpr (lL S s))
   have hv3:v=s↔iy S s=true:=hv2.trans ((Iff.intro (λq z hz=>q z ((K.c.mem z).mpr hz)) λq z hz=>q z ((K.c.mem z).mp hz)).trans ledB_iff.symm)
   have ih':=ih λz hz=>hl z (Lb _ hz)
   have tt:bL (av iD (ak sv (ae (fI 3) (aj))) (ai 2)) (C2 n S F s (C s))=some (iy S s):=by
    refine bN ((az (x:=.int v) (y:=nI s) ((bU (ds:=[.lst ((C s).map nI)]) rfl).trans hv) rfl).trans ?_)
    rw[jE (by rw[fE];omega),kP]
    congr 2
    rw[LI,decide_eq_true_eq];exact hv3
   cases e:iy S s
   ·rw[e] at tt
    obtain⟨s2',s3',h⟩:=ih' F (.v (nI s)) (.own ((C s).map nI)) (by omega)
    refine⟨s2',s3',?_⟩
    rw[Lf,MF (by rw[e];decide),<-h]
    exact fG (ρ1:=[.v (.lst (((KW n).map S).map nI)),.own F,.v (nI s),s3]) rfl (b1.trans (xG tt))
   ·rw[e] at tt
    obtain⟨s2',s3',h⟩:=ih' (F++[.lst ((C s).map nI)]) (.v (nI s)) (.v (.lst ((C s).map nI))) (by rw[LJ,Mn];omega)
    refine⟨s2',s3',?_⟩
    rw[Lf,MG e,Lf,List.append_cons,<-h];exact fG (ρ1:=[.v (.lst (((KW n).map S).map nI)),.own F,.v (nI s),s3]) rfl (b1.trans ((i0 tt).trans ((uf (i:=1) (bs:=F) (d:=.lst ((C s).map nI)) rfl (ck rfl) rfl (by omega)).trans rfl)))
 obtain⟨s2',s3',h⟩:=lp (KW n) (λs hs=>La.mp hs) [] .no .no (by simp;omega)
 apply cg (kd:=.n) (n:=4) (t:=iP)
 unfold iP;refine(aC (ρ':=[.v (.lst (((KW n).map S).map nI)),.own [],.no,.no]) ((i9 (li (ds:=[]) rfl (by simp))).trans rfl)).trans ?_
 refine(aC ((ir (ds:=(KW n).map nI) (ck (cz (n:=n) (ao ((uF ((KW n).map S) _ _ rfl).trans (by simp)) rfl) (by omega)))).trans h)).trans ?_
 rfl
end
theorem zd(r:List Nat):r=(KW r.length).map λy=>r.getD y 0:=by
 apply Ot (by simp)
 intro i h1 h2;simp[MB,h1]
def dQ(xs:List Nat)(k:Int):List Nat:=(KW xs.length).map λ(i:Nat)=>xs.getD (((i:Int) -k) % xs.length).toNat 0
def lD(xs:List Nat)(k:Int):List Nat:=xs.map λ(v:Nat)=>(((v:Int)+k) % xs.length).toNat
theorem uM(xs:List Nat)(k:Int):(dQ xs k).length=xs.length:=by simp[dQ]
theorem qD(xs:List Nat)(k:Int):(lD xs k).length=xs.length:=by simp[lD]
theorem p8(xs:List Nat)(k:Int){i:Nat}(h:i<xs.length):(dQ xs k).getD i 0=xs.getD (((i:Int) -k) % xs.length).toNat 0:=by
 simp[dQ,MB,h]
theorem Bg(xs:List Nat)(k:Int){i:Nat}(h:i<xs.length):(lD xs k).getD i 0=((((xs.getD i 0:Nat):Int)+k) % xs.length).toNat:=by
 simp[lD,MB,h]
theorem vh {xs ys:List Nat}(hl:xs.length=ys.length)(h: ∀i,i<xs.length->xs.getD i 0=ys.getD i 0):xs=ys:=by
 refine Ot hl λi h1 h2=>?_
 have:=h i h1
 simpa [MB,h1,h2] using this
theorem wC {n:Nat}(h:0<n)(a:Int):((KW n).map λ(i:Nat)=>(((i:Int)+a) % n).toNat).Perm (KW n):=by
 refine(Ms ?_ ME).mpr λj=>?_
 ·show Qw (·≠ ·) _
  rw[O4];refine Pa (λ{i j} hi hj hlt e=>?_) Oj
  rw[La] at hi hj;have m1:=Fr ((i:Int)+a) h
  have m2:=Fr ((j:Int)+a) h
  have:((i:Int)+a) % n=((j:Int)+a) % n:=by omega
  rw[Int.emod_add_cancel_right,Ol (by omega) (by omega),Ol (by omega) (by omega)] at this
  omega
 ·rw[LX,La]
  constructor
  ·rintro⟨i,_,rfl⟩;exact(Fr _ h).1
  ·intro hj
   have m:=Fr ((j:Int) -a) h
   refine⟨(((j:Int) -a) % n).toNat,by rw[La];exact m.1,?_⟩
   rw[m.2,Int.emod_add_emod,show(j:Int) -a+a=j by omega,Ol (by omega) (by omega)]
   rfl
def Fu(n:Nat)(k:Int)(v:Nat):Nat:=(((v:Int)+k) % n).toNat
structure Mv(n:Nat)(t:Nat->Nat):Prop where
 lt: ∀c,c<n->t c<n
 inj: ∀c d,c<n->d<n->t c=t d->c=d
 sur: ∀c,c<n-> ∃d,d<n/\t d=c
 inb: ∀s e v,s<n->e<n->v<n->JD n (t s) (t e) (t v)=JD n s e v
theorem Ck(n:Nat):Mv n id:=⟨λ_ h=>h,λ_ _ _ _ h=>h,λc h=>⟨c,h,rfl⟩,λ_ _ _ _ _ _=>rfl⟩
theorem Ba {n:Nat}(h:0<n)(k:Int):Mv n (Fu n k):=by
 have cast: ∀v:Nat,((Fu n k v:Nat):Int)=((v:Int)+k) % n:=λv=>(Fr _ h).2
 have df: ∀u v:Nat,((Fu n k u:Int) -Fu n k v) % n=((u:Int) -v) % n:=λu v=>by
  rw[cast,cast,<-Q4,show(u:Int)+k- (v+k)=u-v by omega]
 refine⟨λc _=>(Fr _ h).1,λc d hc hd e=>?_,λc hc=>?_,λs e v _ _ _=>?_⟩
 ·have:=df c d
  rw[e,Int.sub_self,Int.zero_emod] at this;obtain⟨m,hm⟩:=Int.dvd_of_emod_eq_zero this.symm
  have:m=0:=by
   rcases Int.lt_trichotomy m 0 with q|q|q
   ·have:(n:Int)*m<=n*(-1):=MY (by omega) (by omega)
    omega
   ·exact q
   ·have:(n:Int)*1<=n*m:=MY (by omega) (by omega)
    omega
  rw[this] at hm;omega
 ·have:=(wC h k).mem_iff.mpr (La.mpr hc)
  obtain⟨d,hd,e⟩:=LX.mp this
  exact⟨d,La.mp hd,e⟩
 ·unfold JD
  rw[df,df]
theorem Bk {n:Nat}{o:List Nat}(hl:o.length=n)(lt: ∀c,c<n->o.getD c 0<n)(inj: ∀c d,c<n->d<n->o.getD c 0=o.getD d 0->c=d)(sur: ∀v,v<n-> ∃c,c<n/\o.getD c 0=v):Ord n o:=by
 refine⟨(Ms ?_ ME).mpr λv=>?_⟩
 ·rw[List.Nodup,List.pairwise_iff_getElem]
  intro i j hi hj ij e;have:=inj i j (by omega) (by omega) (by rw[K2,K0 hi,K2,K0 hj];exact e)
  omega
 ·rw[La]
  constructor
  ·intro h
   obtain⟨i,hi,rfl⟩:=Qn h
   have:=lt i (by omega)
   rw[K2,K0 hi] at this;exact this
  ·intro h
   obtain⟨c,hc,e⟩:=sur v h
   rw[K2,K0 (by omega)] at e
   have e:o[c]=v:=e
   exact e▸Nw _
theorem wQ {n:Nat}{o:List Nat}(hl:o.length=n)(h:0<n)(k:Int){c:Nat}(hc:c<n):(dQ o k).getD (Fu n k c) 0=o.getD c 0:=by
 rw[p8 o k (by rw[hl];exact(Fr _ h).1),hl]
 have:(((Fu n k c:Nat):Int) -k) % n=c:=by
  rw[show((Fu n k c:Nat):Int)=((c:Int)+k) % n from(Fr _ h).2,Q4,Int.emod_emod,<-Q4,show(c:Int)+k-k=c by omega]
  exact Ol (by omega) (by omega)
 rw[this];rfl
theorem BT {n:Nat}{o:List Nat}(hl:o.length=n)(k:Int){c:Nat}(hc:c<n):(lD o k).getD c 0=Fu n k (o.getD c 0):=by
 rw[Bg o k (by omega),hl];rfl
theorem Ord.mv {n:Nat}{o o':List Nat}{t u:Nat->Nat}(O:Ord n o)(T:Mv n t)(U:Mv n u)(hl:o'.length=n)(h: ∀c,c<n->o'.getD (t c) 0=u (o.getD c 0)):Ord n o':=by
 refine Bk hl (λc hc=>?_) (λc d hc hd e=>?_) λv hv=>?_
 ·obtain⟨c',hc',rfl⟩:=T.sur c hc
  rw[h c' hc'];exact U.lt _ (O.get hc')
 ·obtain⟨c',hc',rfl⟩:=T.sur c hc
  obtain⟨d',hd',rfl⟩:=T.sur d hd
  rw[h c' hc',h d' hd'] at e;rw[O.inj hc' hd' (U.inj _ _ (O.get hc') (O.get hd') e)]
 ·obtain⟨w,hw,rfl⟩:=U.sur v hv
  obtain⟨c,hc,e⟩: ∃c,c<n/\o.getD c 0=w:=by
   obtain⟨i,hi,e⟩:=Qn (O.has hw)
   exact⟨i,by rw[<-O.len];exact hi,by rw[K2,K0 hi];exact e⟩
  exact⟨t c,T.lt c hc,by rw[h c hc,e]⟩
def bX(o:List Nat):List Nat:=(KW o.length).map λv=>o.idxOf v
theorem bf {n:Nat}{o:List Nat}(O:Ord n o){v:Nat}(hv:v<n):o.idxOf v<n/\o.getD (o.idxOf v) 0=v:=by
 have hi:=List.idxOf_lt_length_of_mem (O.has hv)
 refine⟨by rw[<-O.len];exact hi,?_⟩
 rw[K2,K0 hi,List.getElem_idxOf];rfl
theorem bZ {n:Nat}{o:List Nat}(O:Ord n o){c:Nat}(hc:c<n):o.idxOf (o.getD c 0)=c:=O.inj (bf O (O.get hc)).1 hc (bf O (O.get hc)).2
theorem yK(o:List Nat):(bX o).length=o.length:=by simp[bX]
theorem gF {n:Nat}{o:List Nat}(O:Ord n o){v:Nat}(hv:v<n):(bX o).getD v 0=o.idxOf v:=by
 unfold bX;rw[K2,Ln,LU (by rw[O.len];exact hv)];rfl
theorem ud {n:Nat}{o:List Nat}(O:Ord n o){c:Nat}(hc:c<n):(bX o).getD (o.getD c 0) 0=c:=by rw[gF O (O.get hc),bZ O hc]
theorem Ord.tip {n:Nat}{o:List Nat}(O:Ord n o):Ord n (bX o):=by
 refine Bk (by rw[yK,O.len]) (λv hv=>?_) (λv w hv hw e=>?_) λc hc=>⟨o.getD c 0,O.get hc,ud O hc⟩
 ·rw[gF O hv];exact(bf O hv).1
 ·rw[gF O hv,gF O hw] at e
  rw[<-(bf O hv).2,e,(bf O hw).2]
def iL:FS:=
 aD (bj 2 (ak bu (ae (ai 0) (aj))))
 (aZ (ak dC (ae (aR 1 (bz (ae (ai 2) (aj))) (gN 3) (cq) (av aW (ai 0) (av cH (av km (ai 3) (ai 1)) (ai 2)))) (aj))))
def iS:List D->Option D:=gr .s 3 iL
def iI:FS:=
 aD (bj 2 (ak bu (ae (ai 0) (aj))))
 (aZ (ak dC (ae (aR 1 (dz (ai 0)) (gN 3) (cq) (av cH (av bC (ai 3) (ai 1)) (ai 2))) (aj))))
def iF:List D->Option D:=gr .s 3 iI
def iY:FS:=
 aZ (ak dC (ae (aR 1 (bz (ae (ak bu (ae (ai 0) (aj))) (aj))) (gN 1) (cq) (av lB (ai 0) (ai 1))) (aj)))
def iM:List D->Option D:=gr .s 1 iY
def iR:FS:=
 aZ (rh uv uv (ak lQ (ae (ai 1) (ae (ai 2) (aj)))) (ai 0) (ak rX (ae (ai 1) (ae (ai 2) (aj)))))
def iT:List D->Option D:=gr .s 3 iR
def gP:FS:=
 aD (dc (gT 2 (cA (gN 2) (cA (gN 3) (iC)))) (pu (ai 0)))
 (aZ (bF (ae (ak (nF 2 iS) (ae (ai 2) (ae (ai 1) (aj)))) (ae (ak (nF 2 iS) (ae (ai 3) (ae (ai 1) (aj)))) (aj)))))
def jR:List D->Option D:=gr .s 4 gP
def jy:FS:=
 aD (dc (gT 2 (cA (gN 2) (cA (gN 3) (iC)))) (pu (ai 0)))
 (aZ (bF (ae (ak (nF 2 iF) (ae (ai 2) (ae (ai 1) (aj)))) (ae (ak (nF 2 iF) (ae (ai 3) (ae (ai 1) (aj)))) (aj)))))
def lG:List D->Option D:=gr .s 4 jy
def ou:FS:=
 aD (dc (gT 2 (cA (gN 1) (cA (gN 2) (iC)))) (pu (ai 0)))
 (aZ (bF (ae (ak (nF 1 iM) (ae (ai 1) (aj))) (ae (ak (nF 1 iM) (ae (ai 2) (aj))) (aj)))))
def kG:List D->Option D:=gr .s 3 ou
def kg:FS:=
 aD (dc (gT 2 (cA (gN 2) (cA (gN 3) (iC)))) (pu (ai 0)))
 (aD (fS (fJ (bL (rh qK qK (aA (.int 0)) (ai 1) (av km (ak bu (ae (ai 2) (aj))) (aA (.int 2)))))) (aZ (aA (.bl false))) (skip))
 (aD (bj 4 (bF (ae (av aW (ai 2) (ai 1)) (ae (av aW (ai 3) (ai 1)) (aj)))))
 (aD (bj 5 (bF (ae (av aW (ai 2) (av bC (ai 1) (aA (.int 1)))) (ae (av aW (ai 3) (av bC (ai 1) (aA (.int 1)))) (aj)))))
 (aD (fS (rj (bL (av (mC false) (av aW (ai 4) (aA (.int 0))) (ai 5))) (bL (av (mC false) (av aW (ai 4) (aA (.int 1))) (ai 5)))) (aZ (aA (.bl false))) (skip))
 (aD (bj 6 (aR 1 (dz (ai 5)) (gN 7) (fZ (ak (nF 3 iT) (ae (ai 7) (ae (av aW (ai 4) (aA (.int 0))) (ae (av aW (ai 4) (aA (.int 1))) (aj)))))) (ai 7)))
 (aZ (av nM (ak bu (ae (ai 6) (aj))) (aA (.int 1)))))))))
def j0:List D->Option D:=gr .s 7 kg
def dm:FX:=
 eJ (rg (fJ (fZ (ak (nF 2 j0) (ae (ai 0) (ae (ai 1) (aj)))))) (rC ⟨"NoMove",0⟩ (ae (aA (.str "these columns may not be exchanged")) (aj))) (kA skip))
 (kA (aD (dc (gT 2 (cA (gN 2) (cA (gN 3) (iC)))) (pu (ai 0)))
 (aZ (bF (ae (ak (nF 3 ge) (ae (ai 2) (ae (ai 1) (ae (av bC (ai 1) (aA (.int 1))) (aj))))) (ae (ak (nF 3 ge) (ae (ai 3) (ae (ai 1) (ae (av bC (ai 1) (aA (.int 1))) (aj))))) (aj)))))))
def cr:List D->Option (Except Ex D):=ut .s 4 dm
def lA:FX:=
 j4 (s0 1 kG (pi (eg 2 cr (iU (ae (ak (nF 1 kG) (ae (ai 0) (aj))) (ae (ai 1) (aj))))) (iU (aj))))
def fV:List D->Option (Except Ex D):=ut .s 2 lA
def so:FS:=
 aZ (rh qK uv (aA (.int 0)) (ai 0) (aA (.int 4)))
def oG:List D->Option D:=gr .s 1 so
def gZ:FS:=
 aD (Cs 3 4 (ae (av cH (ai 2) (aA (.int 2))) (ae (av iZ (ai 2) (aA (.int 2))) (aj))))
 (aZ (bF (ae (av bC (ai 0) (ai 3)) (ae (av bC (ai 1) (ai 4)) (ae (av km (av bC (ai 0) (aA (.int 1))) (ai 3)) (ae (av km (av bC (ai 1) (aA (.int 1))) (ai 4)) (aj)))))))
def dX:List D->Option D:=gr .s 5 gZ
def jY:FS:=
 aD (fS (bL (av iD (ai 0) (ai 1))) (aZ (ai 2)) (skip))
 (aZ (Ae (bL (av Hx (ai 0) (ai 1))) (av bC (ai 0) (aA (.int 1))) (ai 0)))
def ik:List D->Option D:=gr .s 3 jY
def dL:FX:=
 eJ (kA (dc (gT 2 (cA (gN 3) (cA (gN 4) (iC)))) (pu (ai 0))))
 (eJ (rg (rj (fJ (bL (rh qK uv (aA (.int 0)) (ai 1) (ak bu (ae (ai 3) (aj)))))) (fJ (fZ (ak (nF 1 oG) (ae (ai 2) (aj)))))) (rC ⟨"NoMove",0⟩ (ae (aA (.str "there is no such column or way")) (aj))) (kA skip))
 (eJ (rg (bL (av GZ (ak bu (ae (ai 3) (aj))) (aA (.int 6)))) (rC ⟨"TooMany",0⟩ (ae (aA (.str "the square has no room for a corner")) (aj))) (kA skip))
 (kA (aD (bj 5 (av aW (ai 4) (ai 1)))
 (aD (dc (gT 4 (cA (gN 6) (cA (gN 7) (cA (gN 8) (cA (gN 9) (iC)))))) (pu (ak (nF 3 dX) (ae (ai 1) (ae (ai 5) (ae (ai 2) (aj)))))))
 (aD (fK 10 (aR 1 (dz (ai 3)) (gN 12) (cq) (ak (nF 3 ik) (ae (ai 12) (ae (ai 5) (ae (ai 7) (aj)))))))
 (aD (fK 11 (aR 1 (dz (ai 4)) (gN 12) (cq) (ak (nF 3 ik) (ae (ai 12) (ae (ai 5) (ae (ai 9) (aj)))))))
 (aD (eX (bn 10 2 vO (dU (ae (ai 8) (ae (ai 9) (aj))))))
 (aD (eX (bn 11 2 vO (dU (ae (ai 8) (ae (ai 7) (aj))))))
 (aZ (bF (ae (ak dC (ae (fI 10) (aj))) (ae (ak dC (ae (fI 11) (aj))) (aj))))))))))))))
def ii:List D->Option (Except Ex D):=ut .s 12 dL
def oI:FS:=
 aD (dc (gT 2 (cA (gN 4) (cA (gN 5) (iC)))) (pu (ai 0)))
 (aD (dc (gT 4 (cA (gN 6) (cA (gN 7) (cA (gN 8) (cA (gN 9) (iC)))))) (pu (ak (nF 3 dX) (ae (ai 1) (ae (ai 2) (ae (ai 3) (aj)))))))
 (aD (fS (bL (av nM (bF (ae (av aW (ai 4) (ai 8)) (ae (av aW (ai 5) (ai 8)) (aj)))) (bF (ae (ai 9) (ae (ai 7) (aj)))))) (aZ (aA (.bl false))) (skip))
 (aZ (Fw (qt (bL (av iD (av aW (ai 5) (ai 6)) (ai 9))) (bL (av nM (av aW (ai 4) (ai 6)) (ai 7))))))))
def kE:List D->Option D:=gr .s 10 oI
def mQ:FS:=
 aD (bj 3 (av km (ak bu (ae (av aW (ai 0) (aA (.int 0))) (aj))) (aA (.int 2))))
 (aD (fS (rj (fJ (bL (rh qK qK (aA (.int 0)) (ai 1) (ai 3)))) (fJ (bL (rh qK qK (aA (.int 0)) (ai 2) (ai 3))))) (aZ (aA .non)) (skip))
 (aD (gW (dU (bz (ae (aA (.int 4)) (aj)))) (gN 4) (fS (fZ (ak (nF 4 kE) (ae (ai 0) (ae (ai 1) (ae (ai 2) (ae (ai 4) (aj))))))) (aZ (ai 4)) (skip)))
 (aZ (aA .non))))
def mU:List D->Option D:=gr .s 5 mQ
def jk:FS:=
 aZ (ak dC (ae (aR 2 (Di (ai 0)) (gT 2 (cA (gN 3) (cA (gN 4) (iC)))) (bL (av nM (ai 3) (ai 2))) (Ae (bL (av Hx (ai 4) (ai 1))) (av km (ai 4) (aA (.int 1))) (ai 4))) (aj)))
def jm:List D->Option D:=gr .s 3 jk
def eM:FX:=
 eJ (kA (bj 3 (ak (nF 3 mU) (ae (ai 0) (ae (ai 1) (ae (ai 2) (aj)))))))
 (eJ (rg (bL (av (Jj false) (ai 3) (aA .non))) (rC ⟨"NoMove",0⟩ (ae (aA (.str "there is no corner to be taken out")) (aj))) (kA skip))
 (kA (aD (dc (gT 2 (cA (gN 4) (cA (gN 5) (iC)))) (pu (ai 0)))
 (aD (bj 6 (av aW (ak (nF 3 dX) (ae (ai 1) (ae (ai 2) (ae (ai 3) (aj))))) (aA (.int 2))))
 (aZ (bF (ae (ak (nF 3 jm) (ae (ai 4) (ae (ai 2) (ae (ai 6) (aj))))) (ae (ak (nF 3 jm) (ae (ai 5) (ae (ai 2) (ae (ai 6) (aj))))) (aj)))))))))
def iH:List D->Option (Except Ex D):=ut .s 7 eM
def bP:FX:=
 eJ (kA (bj 2 (av aW (ai 1) (aA (.int 0)))))
 (eJ (kA (fS (bL (av iD (ai 2) (aA (.str "columns")))) (aZ (ak (nF 2 jR) (ae (ai 0) (ae (av aW (ai 1) (aA (.int 1))) (aj))))) (skip)))
 (eJ (kA (fS (bL (av iD (ai 2) (aA (.str "rows")))) (aZ (ak (nF 2 lG) (ae (ai 0) (ae (av aW (ai 1) (aA (.int 1))) (aj))))) (skip)))
 (eJ (kA (fS (bL (av iD (ai 2) (aA (.str "tip")))) (aZ (ak (nF 1 kG) (ae (ai 0) (aj)))) (skip)))
 (eJ (rg (bL (av iD (ai 2) (aA (.str "swap")))) (j4 (eg 2 cr (iU (ae (ai 0) (ae (av aW (ai 1) (aA (.int 1))) (aj)))))) (kA skip))
 (eJ (rg (bL (av iD (ai 2) (aA (.str "cross")))) (j4 (eg 2 fV (iU (ae (ai 0) (ae (av aW (ai 1) (aA (.int 1))) (aj)))))) (kA skip))
 (eJ (rg (bL (av iD (ai 2) (aA (.str "put")))) (j4 (eg 3 ii (iU (ae (ai 0) (ae (av aW (ai 1) (aA (.int 1))) (ae (av aW (ai 1) (aA (.int 2))) (aj))))))) (kA skip))
 (j4 (eg 3 iH (iU (ae (ai 0) (ae (av aW (ai 1) (aA (.int 1))) (ae (av aW (ai 1) (aA (.int 2))) (aj)))))))))))))
def vG:List D->Option (Except Ex D):=ut .s 3 bP
theorem bi {t u:FX}{ρ ρ':aJ}(h:t ρ=.ok (.nx ρ')):eJ t u ρ=u ρ':=by unfold eJ;rw[h]
theorem fT {t u:FX}{ρ ρ':aJ}{d:D}(h:t ρ=.ok (.rt d ρ')):eJ t u ρ=.ok (.rt d ρ'):=by unfold eJ;rw[h]
theorem fC {t u:FX}{ρ:aJ}{z:Ex×aJ}(h:t ρ=.error z):eJ t u ρ=.error z:=by unfold eJ;rw[h]
theorem cP {t:FS}{ρ:aJ}{o:Out}(h:t ρ=o):kA t ρ=.ok o:=by unfold kA;rw[h]
theorem mG {p:FT}{t u:FX}{ρ:aJ}(h:p ρ=some true):rg p t u ρ=t ρ:=by unfold rg;rw[h]
theorem IJ {p:FT}{t u:FX}{ρ:aJ}(h:p ρ=some false):rg p t u ρ=u ρ:=by unfold rg;rw[h]
theorem jI {p:FT}{t:FX}{ρ:aJ}(h:p ρ=some false):rg p t (kA skip) ρ=.ok (.nx ρ):=(IJ h).trans rfl
theorem gA {f:RE}{ρ:aJ}{d:D}(h:f ρ=some (.ok d)):j4 f ρ=.ok (.rt d ρ):=by unfold j4;rw[h]
theorem gG {f:RE}{ρ:aJ}{z:Ex}(h:f ρ=some (.error z)):j4 f ρ=.error (z,ρ):=by unfold j4;rw[h]
theorem jZ {kd:Kd}{n:Nat}{t:FX}{ds:List D}{ρ:aJ}{d:D}(h:t (fO n ds)=.ok (.rt d ρ)):ut kd n t ds=some (.ok d):=by unfold ut;rw[h]
theorem om {kd:Kd}{n:Nat}{t:FX}{ds:List D}{z:Ex×aJ}(h:t (fO n ds)=.error z):ut kd n t ds=some (.error z.1):=by unfold ut;rw[h]
theorem v0 {kd:Kd}{n:Nat}{t:FX}{ds:List D}{z:Ex}(h: ∃ρ,t (fO n ds)=.error (z,ρ)):ut kd n t ds=some (.error z):=by obtain⟨ρ,h⟩:=h;exact om h
theorem iz {n:Nat}{P:List D->Option (Except Ex D)}{fs:RA}{ρ:aJ}{ds:List D}(h:fs ρ=some (.ok ds))(hl:ds.length=n):eg n P fs ρ=P ds:=by unfold eg;rw[h];exact if_pos hl
theorem Bh {n:Nat}{P:List D->Option (Except Ex D)}{fs:RA}{ρ:aJ}{z:Ex}(h:fs ρ=some (.error z)):eg n P fs ρ=some (.error z):=by unfold eg;rw[h];rfl
theorem jL {f:FA}{ρ:aJ}{ds:List D}(h:f ρ=some ds):iU f ρ=some (.ok ds):=by unfold iU;rw[h];rfl
theorem Ak {f:RE}{fs:RA}{ρ:aJ}{d:D}{ds:List D}(h:f ρ=some (.ok d))(h2:fs ρ=some (.ok ds)):pi f fs ρ=some (.ok (d::ds)):=by unfold pi;rw[h];dsimp only[Nn];rw[h2];rfl
theorem AK {f:RE}{fs:RA}{ρ:aJ}{z:Ex}(h:f ρ=some (.error z)):pi f fs ρ=some (.error z):=by unfold pi;rw[h];rfl
theorem Fb {kd:Kd}{n:Nat}{t:FX}{ds:List D}{ρ:aJ}{f:RE}{r:Except Ex D}(h:t (fO n ds)=j4 f ρ)(h2:f ρ=some r):ut kd n t ds=some r:=by
 cases r with
 |ok d=>exact jZ (h.trans (gA h2))
 |error z=>exact om (h.trans (gG h2))
theorem cL {p:FT}{t:FS}{ρ:aJ}(h:p ρ=some false):fS p t skip ρ=.nx ρ:=(xG h).trans rfl
theorem oU {F G:D->D->Option D}{f g h:FE}{ρ:aJ}{x y z:D}{p q:Bool}(h1:f ρ=some x)(h2:g ρ=some y)(h3:F x y=some (.bl p))(h4:h ρ=some z)(h5:G y z=some (.bl q)):rh F G f g h ρ=some (.bl (p&&q)):=by
 unfold rh;rw[h1,K6,h2,K6,h3];show(if p=true then _ else _)=_
 cases p with
 |true=>rw[if_pos rfl,h4];exact h5
 |false=>rfl
theorem xl {p q:FT}{ρ:aJ}{a b:Bool}(h1:p ρ=some a)(h2:q ρ=some b):rj p q ρ=some (a||b):=by
 cases a with
 |true=>exact IW h1
 |false=>exact wu h1 h2
theorem BS {p:FT}{f g:FE}{ρ:aJ}(h:p ρ=some true):Ae p f g ρ=f ρ:=by unfold Ae;rw[h];rfl
theorem Bz {p:FT}{f g:FE}{ρ:aJ}(h:p ρ=some false):Ae p f g ρ=g ρ:=by unfold Ae;rw[h];rfl
theorem wM {f:FE}{ρ:aJ}{ds:List D}(h:f ρ=some (.tup ds)):dz f ρ=some ds:=by unfold dz;rw[h];rfl
theorem j7 {f:FE}{ρ:aJ}{ds:List D}(h:f ρ=some (.lst ds)):dz f ρ=some ds:=by unfold dz;rw[h];rfl
theorem Ord.exM {n:Nat}{o:List Nat}(O:Ord n o){a b:Nat}(ha:a<n)(hb:b<n):Ord n (lF o a b):=⟨(swap_perm o a b (by rw[O.len];exact ha) (by rw[O.len];exact hb)).trans O.perm⟩
theorem Ord.rot {n:Nat}{o:List Nat}(O:Ord n o)(h:0<n)(k:Int):Ord n (dQ o k):=O.mv (Ba h k) (Ck n) (by rw[uM,O.len]) λc hc=>wQ O.len h k hc
theorem Ord.rai {n:Nat}{o:List Nat}(O:Ord n o)(h:0<n)(k:Int):Ord n (lD o k):=O.mv (Ck n) (Ba h k) (by rw[qD,O.len]) λc hc=>BT O.len k hc
theorem Ik(v a b:Nat):mC false (nI v) (.tup [nI a,nI b])=some (.bl (decide (v=a)||decide (v=b))):=by
 unfold mC p9;dsimp only;rw[show dB [nI a,nI b]=0 from jX [a,b],if_pos (by omega)]
 show some (D.bl _)=_;congr 2
 rw[Ml,Ml,Q2,iJ,iJ,Oz,LI];simp only[NY,decide_eq_true_eq,N4,if_false];omega
theorem uV(xs:List Nat)(k:Int)(h1:0<xs.length)(h2:xs.length<=100):iS [aN xs,.int k]=some (aN (dQ xs k)):=by
 apply cg (kd:=.s) (n:=3) (t:=iL)
 unfold iL;refine(aC (ρ':=[.v (aN xs),.v (.int k),.v (nI xs.length)]) ((bv (eL xs _ _ rfl)).trans rfl)).trans ?_
 refine bc ((bU (ds:=[.lst ((dQ xs k).map nI)]) (ao ?_ rfl)).trans rfl)
 refine bV (ds:=(KW xs.length).map nI) (cz rfl (by omega)) (by simp;omega) ?_
 refine(cE (h:=nI) (o:=λ(i:Nat)=>nI (xs.getD (((i:Int) -k) % xs.length).toNat 0)) (KW xs.length) λi hi=>⟨_,rfl,?_⟩).trans (by unfold dQ;rw[LA];rfl)
 have hm:=dh (i:=(i:Int) -k) (m:=xs.length) (by omega)
 refine(az (x:=aN xs) rfl ((az ((az (x:=nI i) (y:=.int k) rfl rfl).trans (lT _ _)) (y:=nI xs.length) rfl).trans (fc (by omega)))).trans ?_
 rw[JX hm.1];exact gI (by omega)
theorem uA(xs:List Nat)(k:Int)(h1:0<xs.length)(h2:xs.length<=100):iF [aN xs,.int k]=some (aN (lD xs k)):=by
 apply cg (kd:=.s) (n:=3) (t:=iI)
 unfold iI;refine(aC (ρ':=[.v (aN xs),.v (.int k),.v (nI xs.length)]) ((bv (eL xs _ _ rfl)).trans rfl)).trans ?_
 refine bc ((bU (ds:=[.lst ((lD xs k).map nI)]) (ao ?_ rfl)).trans rfl)
 refine bV (ds:=xs.map nI) rfl (by simp;omega) ?_
 refine(cE (h:=nI) (o:=λ(v:Nat)=>nI (((v:Int)+k) % xs.length).toNat) xs λi hi=>⟨_,rfl,?_⟩).trans (by unfold lD;rw[LA];rfl)
 have hm:=dh (i:=(i:Int)+k) (m:=xs.length) (by omega)
 refine(az ((az (x:=nI i) (y:=.int k) rfl rfl).trans (dY _ _)) (y:=nI xs.length) rfl).trans ((fc (by omega)).trans ?_)
 rw[JX hm.1]
theorem xT {n:Nat}{o:List Nat}(O:Ord n o)(hn:n<=100):iM [aN o]=some (aN (bX o)):=by
 apply cg (kd:=.s) (n:=1) (t:=iY)
 unfold iY;refine bc ((bU (ds:=[.lst ((bX o).map nI)]) (ao (bV (ds:=(KW n).map nI) (cz (n:=n) (ao (O.len▸eL o _ _ rfl) rfl) (by omega)) (by simp;omega) ?_) rfl)).trans rfl)
 unfold bX;rw[LA,O.len];refine cE (h:=nI) (o:=λv=>nI (o.idxOf v)) _ λv hv=>⟨_,rfl,?_⟩
 rw[La] at hv;refine(az (x:=aN o) (y:=nI v) rfl rfl).trans ?_
 obtain⟨j,h1,h2,h3⟩:=xS v o (O.has hv)
 show(if dB (o.map nI)<=32 then(rG (o.map nI) (nI v)).map (λj=>D.int j) else none)=_
 rw[if_pos (by rw[jX];omega)]
 unfold rG;rw[h1];have:j=o.idxOf v:=by
  have:=bZ O (c:=j) (by rw[<-O.len];exact h2)
  rw[h3] at this;exact this.symm
 rw[<-this];rfl
structure Gd(n:Nat)(r x:List Nat):Prop where
 R:Ord n r
 X:Ord n x
 lo:2<=n
 hi:n<=6
section
variable {n:Nat}{r x:List Nat}(G:Gd n r x)
include G
theorem Cd(k:Int):jR [aX r x,.int k]=some (aX (dQ r k) (dQ x k)):=by
 have h1:=G.R.len;have h2:=G.X.len;have h3:=G.lo;have h4:=G.hi
 apply cg (kd:=.s) (n:=4) (t:=gP)
 unfold gP;refine(aC (ρ':=[.v (aX r x),.v (.int k),.v (aN r),.v (aN x)]) (gc (gV rfl) rfl)).trans (bc (cD (ao ((bJ (ds:=[aN r,.int k]) rfl rfl).trans (uV r k (by omega) (by omega))) (ao ((bJ (ds:=[aN x,.int k]) rfl rfl).trans (uV x k (by omega) (by omega))) rfl)) (by simp)))
theorem Ac(k:Int):lG [aX r x,.int k]=some (aX (lD r k) (lD x k)):=by
 have h1:=G.R.len;have h2:=G.X.len;have h3:=G.lo;have h4:=G.hi
 apply cg (kd:=.s) (n:=4) (t:=jy)
 unfold jy;refine(aC (ρ':=[.v (aX r x),.v (.int k),.v (aN r),.v (aN x)]) (gc (gV rfl) rfl)).trans (bc (cD (ao ((bJ (ds:=[aN r,.int k]) rfl rfl).trans (uA r k (by omega) (by omega))) (ao ((bJ (ds:=[aN x,.int k]) rfl rfl).trans (uA x k (by omega) (by omega))) rfl)) (by simp)))
theorem qV:kG [aX r x]=some (aX (bX r) (bX x)):=by
 have h4:=G.hi
 apply cg (kd:=.s) (n:=3) (t:=ou)
 unfold ou;exact(aC (ρ':=[.v (aX r x),.v (aN r),.v (aN x)]) (gc (gV rfl) rfl)).trans (bc (cD (ao ((bJ (ds:=[aN r]) rfl rfl).trans (xT G.R (by omega))) (ao ((bJ (ds:=[aN x]) rfl rfl).trans (xT G.X (by omega))) rfl)) (by simp)))
theorem Gd.rot(k:Int):Gd n (dQ r k) (dQ x k):=⟨G.R.rot (by have:=G.lo;omega) k,G.X.rot (by have:=G.lo;omega) k,G.lo,G.hi⟩
theorem Gd.rai(k:Int):Gd n (lD r k) (lD x k):=⟨G.R.rai (by have:=G.lo;omega) k,G.X.rai (by have:=G.lo;omega) k,G.lo,G.hi⟩
theorem Gd.tip:Gd n (bX r) (bX x):=⟨G.R.tip,G.X.tip,G.lo,G.hi⟩
end
def vW(v a b:Nat):Bool:=decide (min a b<v)&&decide (v<max a b)
theorem tK(v a b:Nat):iT [nI v,nI a,nI b]=some (.bl (vW v a b)):=by
 apply cg (kd:=.s) (n:=3) (t:=iR)
 unfold iR;refine bc (oU (x:=nI (min a b)) (y:=nI v) (z:=nI (max a b)) ?_ rfl ?_ ?_ ?_)
 ·refine(bU (ds:=[nI a,nI b]) rfl).trans ?_
  show some (D.int _)=some (D.int _);congr 2
  split<;>omega
 ·show some (D.bl (decide (((min a b:Nat):Int)<v)))=_
  congr 2
  rw[LI,decide_eq_true_eq,decide_eq_true_eq];omega
 ·refine(bU (ds:=[nI a,nI b]) rfl).trans ?_
  show some (D.int _)=some (D.int _);congr 2
  split<;>omega
 ·show some (D.bl (decide ((v:Int)<((max a b:Nat):Int))))=_
  congr 2
  rw[LI,decide_eq_true_eq,decide_eq_true_eq];omega
def w8(r x:List Nat)(c:Nat):Bool:= !((decide (r.getD c 0=r.getD (c+1) 0)||decide (r.getD c 0=x.getD (c+1) 0))||(decide (x.getD c 0=r.getD (c+1) 0)||decide (x.getD c 0=x.getD (c+1) 0)))&&(vW (r.getD (c+1) 0) (r.getD c 0) (x.getD c 0)==vW (x.getD (c+1) 0) (r.getD c 0) (x.getD c 0))
def mD(r x:List Nat)(c:Int):Bool:=(decide (0<=c)&&decide (c<=(r.length:Int) -2))&&w8 r x c.toNat
section
variable {n:Nat}{r x:List Nat}(G:Gd n r x)
include G
theorem Db(c:Int):j0 [aX r x,.int c]=some (.bl (mD r x c)):=by
 have h1:=G.R.len;have h2:=G.X.len;have h3:=G.lo;have h4:=G.hi
 apply iQ (kd:=.s) (n:=7) (t:=kg)
 unfold kg mD;have s1:dc (gT 2 (cA (gN 2) (cA (gN 3) (iC)))) (pu (ai 0)) (fO 7 [aX r x,.int c])=.nx [.v (aX r x),.v (.int c),.v (aN r),.v (aN x),.no,.no,.no]:=gc (gV rfl) rfl
 rw[aC s1];have p1:fJ (bL (rh qK qK (aA (.int 0)) (ai 1) (av km (ak bu (ae (ai 2) (aj))) (aA (.int 2))))) [.v (aX r x),.v (.int c),.v (aN r),.v (aN x),.no,.no,.no]=some (!(decide (0<=c)&&decide (c<=(r.length:Int) -2))):=
  jB (bN (oU (x:=.int 0) (y:=.int c) (z:=.int ((r.length:Int) -2)) rfl rfl rfl ((az (eL r _ _ rfl) (y:=.int 2) rfl).trans (lT _ _)) rfl))
 by_cases hc:0<=c/\c<=(r.length:Int) -2
 ·have e:(decide (0<=c)&&decide (c<=(r.length:Int) -2))=true:=by rw[Lk,decide_eq_true_eq,decide_eq_true_eq];exact hc
  rw[e] at p1⊢;rw[O7];rw[aC (cL p1)];obtain⟨c,rfl⟩: ∃m:Nat,c=m:=⟨c.toNat,by omega⟩
  rw[Mb];have i1:r.getD c 0<n:=G.R.get (by omega)
  have ad: ∀ρ:aJ,ai 1 ρ=some (nI c)->av bC (ai 1) (aA (.int 1)) ρ=some (nI (c+1)):=λρ h=>(az h (y:=.int 1) rfl).trans (yX c)
  rw[aC (ρ':=[.v (aX r x),.v (.int c),.v (aN r),.v (aN x),.v (.tup [nI (r.getD c 0),nI (x.getD c 0)]),.no,.no]) ((bv (cD (ao ((az (x:=aN r) (y:=nI c) rfl rfl).trans (gI (by omega))) (ao ((az (x:=aN x) (y:=nI c) rfl rfl).trans (gI (by omega))) rfl)) (by simp))).trans rfl)]
  rw[aC (ρ':=[.v (aX r x),.v (.int c),.v (aN r),.v (aN x),.v (.tup [nI (r.getD c 0),nI (x.getD c 0)]),.v (.tup [nI (r.getD (c+1) 0),nI (x.getD (c+1) 0)]),.no]) ((bv (cD (ao ((az (x:=aN r) rfl (ad _ rfl)).trans (gI (by omega))) (ao ((az (x:=aN x) rfl (ad _ rfl)).trans (gI (by omega))) rfl)) (by simp))).trans rfl)]
  have p2:rj (bL (av (mC false) (av aW (ai 4) (aA (.int 0))) (ai 5))) (bL (av (mC false) (av aW (ai 4) (aA (.int 1))) (ai 5))) [.v (aX r x),.v (.int c),.v (aN r),.v (aN x),.v (.tup [nI (r.getD c 0),nI (x.getD c 0)]),.v (.tup [nI (r.getD (c+1) 0),nI (x.getD (c+1) 0)]),.no]=some ((decide (r.getD c 0=r.getD (c+1) 0)||decide (r.getD c 0=x.getD (c+1) 0))||(decide (x.getD c 0=r.getD (c+1) 0)||decide (x.getD c 0=x.getD (c+1) 0))):=
   xl (bN ((az (x:=nI (r.getD c 0)) (y:=.tup [nI (r.getD (c+1) 0),nI (x.getD (c+1) 0)]) rfl rfl).trans (Ik _ _ _))) (bN ((az (x:=nI (x.getD c 0)) (y:=.tup [nI (r.getD (c+1) 0),nI (x.getD (c+1) 0)]) rfl rfl).trans (Ik _ _ _)))
  unfold w8;revert p2
  generalize ((decide (r.getD c 0=r.getD (c+1) 0)||decide (r.getD c 0=x.getD (c+1) 0))||(decide (x.getD c 0=r.getD (c+1) 0)||decide (x.getD c 0=x.getD (c+1) 0)))=pb
  intro p2;cases pb with
  |true=>
   exact⟨_,mR ((i0 p2).trans rfl)⟩
  |false=>
   rw[aC (cL p2)]
   generalize hA:r.getD (c+1) 0=A
   generalize hB:x.getD (c+1) 0=B
   generalize hU:r.getD c 0=U
   generalize hV:x.getD c 0=V
   have cp:aR 1 (dz (ai 5)) (gN 7) (fZ (ak (nF 3 iT) (ae (ai 7) (ae (av aW (ai 4) (aA (.int 0))) (ae (av aW (ai 4) (aA (.int 1))) (aj)))))) (ai 7) [.v (aX r x),.v (.int c),.v (aN r),.v (aN x),.v (.tup [nI U,nI V]),.v (.tup [nI A,nI B]),.no]=some (.lst ((([A,B]:List Nat).filter λv=>vW v U V).map nI)):=
    bV (ds:=([A,B]:List Nat).map nI) (wM rfl) (by simp) (gu (h:=nI) (o:=nI) (q:=λv=>vW v U V) ([A,B]:List Nat) λv _=>⟨_,rfl,kR ((bJ (ds:=[nI v,nI U,nI V]) rfl rfl).trans (tK v U V)),λ_=>rfl⟩)
   refine⟨_,(aC ((bv cp).trans rfl)).trans (bc ?_)⟩
   refine(az (uF _ _ _ rfl) (y:=.int 1) rfl).trans ?_
   rw[lJ (by rw[fE];omega),kP]
   congr 2
   cases e1:vW A U V<;>cases e2:vW B U V<;>simp[List.filter,e1,e2]
 ·have e:(decide (0<=c)&&decide (c<=(r.length:Int) -2))=false:=by rw[Bool.eq_false_iff,Ne,Lk,decide_eq_true_eq,decide_eq_true_eq];exact hc
  rw[e] at p1⊢;exact⟨_,mR ((i0 p1).trans rfl)⟩
abbrev CV:Ex:=⟨"NoMove",0⟩
abbrev EG:Ex:=⟨"TooMany",0⟩
theorem xt(c:Int):cr [aX r x,.int c]=some (if mD r x c=true then .ok (aX (lF r c.toNat (c.toNat+1)) (lF x c.toNat (c.toNat+1))) else .error CV):=by
 have h1:=G.R.len;have h2:=G.X.len;have h3:=G.lo;have h4:=G.hi
 have p1:fJ (fZ (ak (nF 2 j0) (ae (ai 0) (ae (ai 1) (aj))))) (fO 4 [aX r x,.int c])=some (!mD r x c):=jB (kR ((bJ (ds:=[aX r x,.int c]) rfl rfl).trans (Db G c)))
 by_cases hm:mD r x c=true
 ·rw[if_pos hm]
  rw[hm] at p1;apply jZ (kd:=.s) (n:=4) (t:=dm) (ρ:=[.v (aX r x),.v (.int c),.v (aN r),.v (aN x)])
  unfold dm;rw[bi (jI p1)];have hc:0<=c/\c<=(r.length:Int) -2:=by
   unfold mD at hm;rw[Lk,Lk,decide_eq_true_eq,decide_eq_true_eq] at hm;exact hm.1
  obtain⟨c,rfl⟩: ∃m:Nat,c=m:=⟨c.toNat,by omega⟩
  rw[Mb];have ad: ∀ρ:aJ,ai 1 ρ=some (nI c)->av bC (ai 1) (aA (.int 1)) ρ=some (nI (c+1)):=λρ h=>(az h (y:=.int 1) rfl).trans (yX c)
  refine cP ((aC (ρ':=[.v (aX r x),.v (.int c),.v (aN r),.v (aN x)]) (gc (gV rfl) rfl)).trans (bc (cD (ao ((bJ (ds:=[aN r,nI c,nI (c+1)]) (ao rfl (ao rfl (ao (ad _ rfl) rfl))) rfl).trans (xC h1 (by omega) (by omega))) (ao ((bJ (ds:=[aN x,nI c,nI (c+1)]) (ao rfl (ao rfl (ao (ad _ rfl) rfl))) rfl).trans (xC h2 (by omega) (by omega))) rfl)) (by simp))))
 ·rw[if_neg hm]
  rw[Rk] at hm;rw[hm] at p1;refine om (kd:=.s) (n:=4) (t:=dm) (z:=(CV,fO 4 [aX r x,.int c])) ?_
  unfold dm;exact fC ((mG p1).trans rfl)
theorem Gd.chg {c:Int}(h:mD r x c=true):Gd n (lF r c.toNat (c.toNat+1)) (lF x c.toNat (c.toNat+1)):=by
 have h1:=G.R.len
 have hc:0<=c/\c<=(r.length:Int) -2:=by
  unfold mD at h;rw[Lk,Lk,decide_eq_true_eq,decide_eq_true_eq] at h;exact h.1
 exact⟨G.R.exM (by omega) (by omega),G.X.exM (by omega) (by omega),G.lo,G.hi⟩
theorem CB(c:Int):fV [aX r x,.int c]=some (if mD (bX r) (bX x) c=true then .ok (aX (bX (lF (bX r) c.toNat (c.toNat+1))) (bX (lF (bX x) c.toNat (c.toNat+1)))) else .error CV):=by
 refine Fb (kd:=.s) (n:=2) (t:=lA) rfl ?_
 have e1:eg 2 cr (iU (ae (ak (nF 1 kG) (ae (ai 0) (aj))) (ae (ai 1) (aj)))) (fO 2 [aX r x,.int c])=_:=(iz (ds:=[aX (bX r) (bX x),.int c]) (jL (ao ((bJ (ds:=[aX r x]) rfl rfl).trans (qV G)) rfl)) rfl).trans (xt G.tip c)
 by_cases hm:mD (bX r) (bX x) c=true
 ·rw[if_pos hm] at e1⊢
  refine(iz (Ak e1 (jL (f:=aj) (ds:=[]) rfl)) rfl).trans ?_
  rw[qV (G.tip.chg hm)];rfl
 ·rw[if_neg hm] at e1⊢
  exact Bh (AK e1)
end
theorem G9(w:Int):oG [.int w]=some (.bl (decide (0<=w)&&decide (w<4))):=by
 apply cg (kd:=.s) (n:=1) (t:=so)
 exact bc (oU (x:=.int 0) (y:=.int w) (z:=.int 4) rfl rfl rfl rfl rfl)
def oh(c w:Nat):Nat:=c+w % 2
def jf(r w:Nat):Nat:=r+w / 2
def fH(c w:Nat):Nat:=c+1-w % 2
def i4(r w:Nat):Nat:=r+1-w / 2
theorem wI(c r:Nat){w:Nat}(hw:w<4):dX [nI c,nI r,nI w]=some (.tup [nI (oh c w),nI (jf r w),nI (fH c w),nI (i4 r w)]):=by
 apply cg (kd:=.s) (n:=5) (t:=gZ)
 unfold gZ;have hd:iZ (nI w) (.int 2)=some (nI (w / 2)):=by
  rw[kD (by decide) (by decide)];rfl
 have hm:cH (nI w) (.int 2)=some (nI (w % 2)):=EN (n:=2) (by decide)
 have sb: ∀(f:FE) (ρ:aJ) (a b:Nat),f ρ=some (nI b)->b<=a-> ∀g:FE,g ρ=some (nI a)->av km g f ρ=some (nI (a-b)):=λf ρ a b hf hb g hg=>(az hg hf).trans (by rw[J8];show some (D.int _)=some (D.int _);congr 2;omega)
 have m2:w % 2<2:=R4 _ (by decide)
 have d2:w / 2<2:=by omega
 refine(aC (ρ':=[.v (nI c),.v (nI r),.v (nI w),.v (nI (w % 2)),.v (nI (w / 2))]) ?_).trans (bc (cD (ao ((az (x:=nI c) (y:=nI (w % 2)) rfl rfl).trans (GM _ _)) (ao ((az (x:=nI r) (y:=nI (w / 2)) rfl rfl).trans (GM _ _)) (ao (sb _ _ (c+1) (w % 2) rfl (by omega) _ ((az (x:=nI c) (y:=.int 1) rfl rfl).trans (yX c))) (ao (sb _ _ (r+1) (w / 2) rfl (by omega) _ ((az (x:=nI r) (y:=.int 1) rfl rfl).trans (yX r))) rfl)))) (by simp)))
 unfold Cs;rw[ao ((az (x:=nI w) (y:=.int 2) rfl rfl).trans hm) (ao ((az (x:=nI w) (y:=.int 2) rfl rfl).trans hd) (rfl:aj _=some []))];rfl
def ki(row to m:Nat):Nat:=if m=row then to else if row<m then m+1 else m
theorem El(m row to:Nat):ik [nI m,nI row,nI to]=some (nI (ki row to m)):=by
 apply iQ (kd:=.s) (n:=3) (t:=jY)
 unfold jY ki;have p1:bL (av iD (ai 0) (ai 1)) (fO 3 [nI m,nI row,nI to])=some (decide (m=row)):=bN ((az (x:=nI m) (y:=nI row) rfl rfl).trans (by rw[jE (by rw[fE];omega),iJ]))
 have p2:bL (av Hx (ai 0) (ai 1)) (fO 3 [nI m,nI row,nI to])=some (decide (row<m)):=bN ((az (x:=nI m) (y:=nI row) rfl rfl).trans (by show some (D.bl (decide ((row:Int)<m)))=_;congr 2;rw[LI,decide_eq_true_eq,decide_eq_true_eq];omega))
 by_cases h1:m=row
 ·rw[if_pos h1]
  rw[decide_eq_true h1] at p1;exact⟨_,mR ((i0 p1).trans (bc rfl))⟩
 ·rw[if_neg h1]
  rw[decide_eq_false h1] at p1;refine⟨_,(aC (cL p1)).trans (bc ?_)⟩
  by_cases h2:row<m
  ·rw[if_pos h2]
   rw[decide_eq_true h2] at p2;exact(BS p2).trans ((az (x:=nI m) (y:=.int 1) rfl rfl).trans (yX m))
  ·rw[if_neg h2]
   rw[decide_eq_false h2] at p2;exact(Bz p2).trans rfl
def uc(l:List Nat)(i v:Nat):List Nat:=l.take i++v::l.drop i
theorem BN(l:List Nat)(i v:Nat):(uc l i v).map nI=(l.map nI).take i++nI v::(l.map nI).drop i:=by unfold uc;rw[L5,Lf,SI,SJ]
theorem CS(l:List Nat)(i v:Nat):(uc l i v).length=l.length+1:=by unfold uc;rw[LJ,LM,Nt,Pd];omega
theorem xF {l:List Nat}{i v:Nat}(h:i<=l.length)(hl:l.length<=900):vO (l.map nI) [nI i,nI v]=some (.non,(uc l i v).map nI):=by
 unfold vO;dsimp only;have e:((l.map nI).length<Lm):=by rw[K5];exact N3 hl (by decide)
 rw[if_pos ⟨by omega,by rw[K5];omega,e⟩,BN]
 rfl
def jt(l:List Nat)(row to col v:Nat):List Nat:=uc (l.map (ki row to)) col v
theorem Ord.put {n:Nat}{l:List Nat}(O:Ord n l){row to col v:Nat}(hr:row<n)(h:(to=row/\v=row+1)\/(to=row+1/\v=row)):Ord (n+1) (jt l row to col v):=by
 refine⟨?_⟩
 unfold jt uc;refine(Pl.trans ?_)
 rw[PR];refine((O.perm.map (ki row to)).cons v).trans ?_
 refine(Ms ?_ ME).mpr λk=>?_
 ·rw[Ma]
  constructor
  ·intro hm
   obtain⟨i,_,e⟩:=LX.mp hm
   unfold ki at e;split at e<;>(try split at e)<;>omega
  ·show Qw (·≠ ·) _
   rw[O4];refine W8 (λ{i j} hij e=>?_) (Oj (n:=n))
   unfold ki at e;split at e<;>(try split at e)<;>(try split at e)<;>(try split at e)<;>omega
 ·rw[Ll,LX,La]
  constructor
  ·rintro(rfl|⟨i,hi,rfl⟩)
   ·omega
   ·rw[La] at hi
    unfold ki;split<;>(try split)<;>omega
  ·intro hk
   by_cases h1:k=v
   ·exact .inl h1
   ·refine .inr ⟨if k<=row then k else k-1,La.mpr (by split<;>omega),?_⟩
    unfold ki;split<;>(try split)<;>(try split)<;>omega
section
variable {n:Nat}{r x:List Nat}(G:Gd n r x)
include G
theorem DC(c w:Int):ii [aX r x,.int c,.int w]=some (if(decide (0<=c)&&decide (c<n))=true/\(decide (0<=w)&&decide (w<4))=true then(if n<6 then .ok (aX (jt r (x.getD c.toNat 0) (jf (x.getD c.toNat 0) w.toNat) (fH c.toNat w.toNat) (i4 (x.getD c.toNat 0) w.toNat)) (jt x (x.getD c.toNat 0) (i4 (x.getD c.toNat 0) w.toNat) (fH c.toNat w.toNat) (jf (x.getD c.toNat 0) w.toNat))) else .error EG) else .error CV):=by
 have h1:=G.R.len;have h2:=G.X.len;have h3:=G.lo;have h4:=G.hi
 have s1:kA (dc (gT 2 (cA (gN 3) (cA (gN 4) (iC)))) (pu (ai 0))) (fO 12 [aX r x,.int c,.int w])=.ok (.nx [.v (aX r x),.v (.int c),.v (.int w),.v (aN r),.v (aN x),.no,.no,.no,.no,.no,.no,.no]):=cP (gc (gV rfl) rfl)
 have p1:rj (fJ (bL (rh qK uv (aA (.int 0)) (ai 1) (ak bu (ae (ai 3) (aj)))))) (fJ (fZ (ak (nF 1 oG) (ae (ai 2) (aj))))) [.v (aX r x),.v (.int c),.v (.int w),.v (aN r),.v (aN x),.no,.no,.no,.no,.no,.no,.no]=some (!(decide (0<=c)&&decide (c<n))|| !(decide (0<=w)&&decide (w<4))):=
  xl (jB (bN (oU (x:=.int 0) (y:=.int c) (z:=nI n) rfl rfl rfl (h1▸eL r _ _ rfl) rfl))) (jB (kR ((bJ (ds:=[.int w]) rfl rfl).trans (G9 w))))
 by_cases hg:(decide (0<=c)&&decide (c<n))=true/\(decide (0<=w)&&decide (w<4))=true
 ·rw[if_pos hg]
  rw[hg.1,hg.2] at p1;rw[Lk,Lk,decide_eq_true_eq,decide_eq_true_eq,decide_eq_true_eq,decide_eq_true_eq] at hg;have p2:bL (av GZ (ak bu (ae (ai 3) (aj))) (aA (.int 6))) [.v (aX r x),.v (.int c),.v (.int w),.v (aN r),.v (aN x),.no,.no,.no,.no,.no,.no,.no]=some (decide (6<=n)):=bN ((az (h1▸eL r _ _ rfl) (y:=.int 6) rfl).trans (by show some (D.bl (decide ((6:Int)<=n)))=_;congr 2;rw[LI,decide_eq_true_eq,decide_eq_true_eq];omega))
  by_cases h6:n<6
  ·rw[if_pos h6]
   rw[decide_eq_false (by omega)] at p2
   obtain⟨c,rfl⟩: ∃m:Nat,c=m:=⟨c.toNat,by omega⟩
   obtain⟨w,rfl⟩: ∃m:Nat,w=m:=⟨w.toNat,by omega⟩
   rw[Mb,Mb];have hc:c<n:=by omega
   have hw:w<4:=by omega
   generalize hrow:x.getD c 0=row
   have hrow':row<n:=hrow▸G.X.get hc
   refine jZ (kd:=.s) (n:=12) (t:=dL) (ρ:=[.v (aX r x),.v (nI c),.v (nI w),.v (aN r),.v (aN x),.v (nI row),.v (nI (oh c w)),.v (nI (jf row w)),.v (nI (fH c w)),.v (nI (i4 row w)),.own ((jt r row (jf row w) (fH c w) (i4 row w)).map nI),.own ((jt x row (i4 row w) (fH c w) (jf row w)).map nI)]) ?_
   unfold dL;rw[bi s1,bi (jI p1),bi (jI p2)];refine cP ?_
   refine(aC (ρ':=[.v (aX r x),.v (nI c),.v (nI w),.v (aN r),.v (aN x),.v (nI row),.no,.no,.no,.no,.no,.no]) ((bv ((az (x:=aN x) (y:=nI c) rfl rfl).trans (hrow▸gI (by omega)))).trans rfl)).trans ?_
   refine(aC (ρ':=[.v (aX r x),.v (nI c),.v (nI w),.v (aN r),.v (aN x),.v (nI row),.v (nI (oh c w)),.v (nI (jf row w)),.v (nI (fH c w)),.v (nI (i4 row w)),.no,.no]) (gc (gV ((bJ (ds:=[nI c,nI row,nI w]) rfl rfl).trans (wI c row hw))) rfl)).trans ?_
   have cp: ∀(l:List Nat) (f g:FE) (to:Nat) (ρ:aJ),l.length=n->f ρ=some (aN l)->(∀v:D,ai 5 ((ρ++K1 1 Sl.no).set 12 (Sl.v v))=some (nI row))->(∀v:D,g ((ρ++K1 1 Sl.no).set 12 (Sl.v v))=some (nI to))->(∀v:D,gN 12 v (ρ++K1 1 Sl.no)=some ((ρ++K1 1 Sl.no).set 12 (Sl.v v)))->(∀v:D,ai 12 ((ρ++K1 1 Sl.no).set 12 (Sl.v v))=some v)->
    aR 1 (dz f) (gN 12) (cq) (ak (nF 3 ik) (ae (ai 12) (ae (ai 5) (ae g (aj))))) ρ=some (.lst ((l.map (ki row to)).map nI)):=λl f g to ρ hl hf h5 hg' hs hn'=>
    bV (ds:=l.map nI) (wM hf) (by rw[K5];omega) ((cE (h:=nI) (o:=λm=>nI (ki row to m)) l λm _=>⟨_,hs _,(bJ (ds:=[nI m,nI row,nI to]) (ao (hn' _) (ao (h5 _) (ao (hg' _) rfl))) rfl).trans (El m row to)⟩).trans (by rw[LA];rfl))
   refine(aC (ρ':=[.v (aX r x),.v (nI c),.v (nI w),.v (aN r),.v (aN x),.v (nI row),.v (nI (oh c w)),.v (nI (jf row w)),.v (nI (fH c w)),.v (nI (i4 row w)),.own ((r.map (ki row (jf row w))).map nI),.no]) ((i9 (cp r _ _ (jf row w) _ h1 rfl (λ_=>rfl) (λ_=>rfl) (λ_=>rfl) λ_=>rfl)).trans rfl)).trans ?_
   refine(aC (ρ':=[.v (aX r x),.v (nI c),.v (nI w),.v (aN r),.v (aN x),.v (nI row),.v (nI (oh c w)),.v (nI (jf row w)),.v (nI (fH c w)),.v (nI (i4 row w)),.own ((r.map (ki row (jf row w))).map nI),.own ((x.map (ki row (i4 row w))).map nI)]) ((i9 (cp x _ _ (i4 row w) _ h2 rfl (λ_=>rfl) (λ_=>rfl) (λ_=>rfl) λ_=>rfl)).trans rfl)).trans ?_
   have hfc:fH c w<=n:=by unfold fH;omega
   refine(aC (ρ':=[.v (aX r x),.v (nI c),.v (nI w),.v (aN r),.v (aN x),.v (nI row),.v (nI (oh c w)),.v (nI (jf row w)),.v (nI (fH c w)),.v (nI (i4 row w)),.own ((jt r row (jf row w) (fH c w) (i4 row w)).map nI),.own ((x.map (ki row (i4 row w))).map nI)]) ((qh (cN (b0:=(r.map (ki row (jf row w))).map nI) (bs:=(r.map (ki row (jf row w))).map nI) (ds:=[nI (fH c w),nI (i4 row w)]) rfl (ck rfl) rfl rfl (xF (by rw[K5];omega) (by rw[K5];omega)))).trans rfl)).trans ?_
   refine(aC (ρ':=[.v (aX r x),.v (nI c),.v (nI w),.v (aN r),.v (aN x),.v (nI row),.v (nI (oh c w)),.v (nI (jf row w)),.v (nI (fH c w)),.v (nI (i4 row w)),.own ((jt r row (jf row w) (fH c w) (i4 row w)).map nI),.own ((jt x row (i4 row w) (fH c w) (jf row w)).map nI)]) ((qh (cN (b0:=(x.map (ki row (i4 row w))).map nI) (bs:=(x.map (ki row (i4 row w))).map nI) (ds:=[nI (fH c w),nI (jf row w)]) rfl (ck rfl) rfl rfl (xF (by rw[K5];omega) (by rw[K5];omega)))).trans rfl)).trans ?_
   exact bc (cD (ao ((bU (ds:=[.lst ((jt r row (jf row w) (fH c w) (i4 row w)).map nI)]) (ao rfl rfl)).trans rfl) (ao ((bU (ds:=[.lst ((jt x row (i4 row w) (fH c w) (jf row w)).map nI)]) (ao rfl rfl)).trans rfl) rfl)) (by simp))
  ·rw[if_neg h6]
   rw[decide_eq_true (by omega)] at p2
   refine v0 (kd:=.s) (n:=12) (t:=dL) ?_
   unfold dL;rw[bi s1,bi (jI p1)];exact⟨_,fC ((mG p2).trans rfl)⟩
 ·rw[if_neg hg]
  have:(!(decide (0<=c)&&decide (c<n))|| !(decide (0<=w)&&decide (w<4)))=true:=by
   cases e1:(decide (0<=c)&&decide (c<(n:Int)))<;>cases e2:(decide (0<=w)&&decide (w<4))<;>first|rfl|exact absurd ⟨e1,e2⟩ hg
  rw[this] at p1;refine v0 (kd:=.s) (n:=12) (t:=dL) ?_
  unfold dL;rw[bi s1];exact⟨_,fC ((mG p1).trans rfl)⟩
theorem Gd.put {c w:Nat}(hc:c<n)(hw:w<4)(h6:n<6):Gd (n+1) (jt r (x.getD c 0) (jf (x.getD c 0) w) (fH c w) (i4 (x.getD c 0) w)) (jt x (x.getD c 0) (i4 (x.getD c 0) w) (fH c w) (jf (x.getD c 0) w)):=by
 have h:=G.X.get hc
 have d:w / 2=0\/w / 2=1:=by omega
 refine⟨G.R.put h ?_,G.X.put h ?_,by have:=G.lo;omega,by omega⟩
 ·unfold jf i4;rcases d with d|d<;>rw[d]<;>omega
 ·unfold jf i4;rcases d with d|d<;>rw[d]<;>omega
end
def iE(r x:List Nat)(c q w:Nat):Bool:=(decide (r.getD (fH c w) 0=i4 q w)&&decide (x.getD (fH c w) 0=jf q w))&&(decide (x.getD (oh c w) 0=i4 q w)&& !decide (r.getD (oh c w) 0=jf q w))
theorem JZ(a b c d:Nat):eN (.tup [nI a,nI b]) (.tup [nI c,nI d])=(decide (a=c)&&decide (b=d)):=by
 have:=yP [(a:Int),(b:Int)] [(c:Int),(d:Int)]
 refine this.trans ?_
 rw[LI];simp only[decide_eq_true_eq,Lk,List.cons.injEq,and_true];omega
theorem Hg(a b:Nat):fq (.tup [nI a,nI b])<=32:=Bq [a,b]
def gX(l:List Nat)(row col:Nat):List Nat:=((KW l.length).filter λi=> !decide (i=col)).map λi=>if row<l.getD i 0 then l.getD i 0-1 else l.getD i 0
theorem Jo(q:List Nat):mZ (q.map nI)=(KW q.length).map λ(i:Nat)=>D.tup [nI i,nI (q.getD i 0)]:=by
 unfold mZ;rw[K5];refine Md λi hi=>?_
 rw[La] at hi;congr 3
 rw[K2,Ln,K0 hi,K2,K0 hi];rfl
theorem sI(l:List Nat)(row col:Nat)(hl:l.length<=900):jm [aN l,nI row,nI col]=some (aN (gX l row col)):=by
 apply cg (kd:=.s) (n:=3) (t:=jk)
 unfold jk;refine bc ((bU (ds:=[.lst ((gX l row col).map nI)]) (ao (bV (ds:=(KW l.length).map λ(i:Nat)=>D.tup [nI i,nI (l.getD i 0)]) ?_ (by rw[K5,Mh];omega) ?_) rfl)).trans rfl)
 ·rw[<-Jo];rfl
 ·unfold gX
  rw[LA];refine gu (h:=λ(i:Nat)=>D.tup [nI i,nI (l.getD i 0)]) (q:=λi=> !decide (i=col)) _ λi hi=>⟨_,rfl,?_,λ_=>?_⟩
  ·exact bN ((az (x:=nI i) (y:=nI col) rfl rfl).trans (by rw[lJ (by rw[fE];omega),iJ]))
  ·have p:bL (av Hx (ai 4) (ai 1)) [.v (aN l),.v (nI row),.v (nI col),.v (nI i),.v (nI (l.getD i 0))]=some (decide (row<l.getD i 0)):=bN ((az (x:=nI (l.getD i 0)) (y:=nI row) rfl rfl).trans (by show some (D.bl (decide ((row:Int)<(l.getD i 0:Nat))))=_;congr 2;rw[LI,decide_eq_true_eq,decide_eq_true_eq];omega))
   show _=some (nI (if row<l.getD i 0 then l.getD i 0-1 else l.getD i 0))
   by_cases h:row<l.getD i 0
   ·rw[if_pos h]
    rw[decide_eq_true h] at p;refine(BS p).trans ((az (x:=nI (l.getD i 0)) (y:=.int 1) rfl rfl).trans ((lT _ _).trans ?_))
    show some (D.int _)=some (D.int _);congr 2
    omega
   ·rw[if_neg h]
    rw[decide_eq_false h] at p;exact(Bz p).trans rfl
theorem Ord.join {n:Nat}{l:List Nat}(O:Ord n l){row col:Nat}(hr:row+1<n)(hc:col<n)(h:l.getD col 0=row\/l.getD col 0=row+1):Ord (n-1) (gX l row col):=by
 have hl:=O.len
 refine⟨(Ms ?_ ME).mpr λk=>?_⟩
 ·unfold gX
  show Qw (·≠ ·) _
  rw[O4,hl];refine Pa (λ{i j} hi hj hij e=>?_) (P6 _ (Oj (n:=n)))
  rw[L8,La] at hi hj;have i1:i≠col:=by simpa using hi.2
  have j1:j≠col:=by simpa using hj.2
  have n1:l.getD i 0≠l.getD j 0:=λz=>by have:=O.inj hi.1 hj.1 z;omega
  have n2:l.getD i 0≠l.getD col 0:=λz=>i1 (O.inj hi.1 hc z)
  have n3:l.getD j 0≠l.getD col 0:=λz=>j1 (O.inj hj.1 hc z)
  split at e<;>split at e<;>omega
 ·unfold gX
  rw[LX,La,hl];constructor
  ·rintro⟨i,hi,rfl⟩
   rw[L8,La] at hi;have i1:i≠col:=by simpa using hi.2
   have:=O.get hi.1
   have n2:l.getD i 0≠l.getD col 0:=λz=>i1 (O.inj hi.1 hc z)
   split<;>omega
  ·intro hk
   have key: ∀v,v<n->v≠l.getD col 0-> ∃i,i∈(KW n).filter (λi=> !decide (i=col))/\l.getD i 0=v:=λv hv hv2=>by
    obtain⟨i1,i2⟩:=bf O hv
    refine⟨l.idxOf v,?_,i2⟩
    rw[L8,La];refine⟨i1,?_⟩
    simp only[M0,decide_eq_false_iff_not];intro z;rw[z] at i2;exact hv2 i2.symm
   by_cases h1:k<row
   ·obtain⟨i,hi,e⟩:=key k (by omega) (by omega)
    exact⟨i,hi,by rw[e,if_neg (by omega)]⟩
   ·by_cases h2:k=row
    ·by_cases h3:l.getD col 0=row
     ·obtain⟨i,hi,e⟩:=key (row+1) (by omega) (by omega)
      exact⟨i,hi,by rw[e,if_pos (by omega)];omega⟩
     ·obtain⟨i,hi,e⟩:=key row (by omega) (by omega)
      exact⟨i,hi,by rw[e,if_neg (by omega)];omega⟩
    ·obtain⟨i,hi,e⟩:=key (k+1) (by omega) (by omega)
     exact⟨i,hi,by rw[e,if_pos (by omega)];omega⟩
theorem Ei {g:FG}{b:FS}{d e:D}{r:List D}{ρ ρ1 ρ2:aJ}(h1:g d ρ=some ρ1)(h2:b ρ1=.rt e ρ2):fh g b (d::r) ρ=.rt e ρ2:=by
 show(match g d ρ with
  |none=>Out.no
  |some ρ1=>match b ρ1 with
   | .nx ρ2=>fh g b r ρ2
   | .ct ρ2=>fh g b r ρ2
   | .bk ρ2=>.nx ρ2
   | .rt d ρ2=>.rt d ρ2
   | .no=>.no)=_
 rw[h1];dsimp only;rw[h2]
def Gu(r x:List Nat)(c q:Nat):Option Nat:=(KW 4).find? (iE r x c q)
def vM(r x:List Nat)(c q:Int):Option Nat:=if(decide (0<=c)&&decide (c<=(r.length:Int) -2))=true/\(decide (0<=q)&&decide (q<=(r.length:Int) -2))=true then Gu r x c.toNat q.toNat else none
def wD:Option Nat->D
 |none=>.non
 |some w=>nI w
theorem Fz {a b d e:D}{bd:FS}{q:Nat->Bool}: ∀(l:List Nat) (s:Sl),(∀w∈l,bd [.v a,.v b,.v d,.v e,.v (nI w)]=if q w=true then .rt (nI w) [.v a,.v b,.v d,.v e,.v (nI w)] else .nx [.v a,.v b,.v d,.v e,.v (nI w)])->
 (match l.find? q with
 |some w=> ∃ρ,fh (gN 4) bd (l.map nI) [.v a,.v b,.v d,.v e,s]=.rt (nI w) ρ
 |none=> ∃s',fh (gN 4) bd (l.map nI) [.v a,.v b,.v d,.v e,s]=.nx [.v a,.v b,.v d,.v e,s'])
 | [],s,_=>⟨s,rfl⟩
 |w::l,s,h=>by
  have h0:=h w (Lu ..)
  rw[Lf,Mz];cases e1:q w with
  |true=>
   rw[e1,if_pos rfl] at h0;exact⟨_,Ei (ρ1:=[.v a,.v b,.v d,.v e,.v (nI w)]) rfl h0⟩
  |false=>
   rw[e1,if_neg (by simp)] at h0
   have:=Fz l (.v (nI w)) λv hv=>h v (Lb _ hv)
   rw[fG (ρ1:=[.v a,.v b,.v d,.v e,.v (nI w)]) rfl h0];exact this
section
variable {n:Nat}{r x:List Nat}(G:Gd n r x)
include G
theorem B9 {c q w:Nat}(hc:c+1<n)(hw:w<4):kE [aX r x,nI c,nI q,nI w]=some (.bl (iE r x c q w)):=by
 have h1:=G.R.len;have h2:=G.X.len;have h3:=G.lo;have h4:=G.hi
 have f1:oh c w<n:=by unfold oh;omega
 have f2:fH c w<n:=by unfold fH;omega
 apply iQ (kd:=.s) (n:=10) (t:=oI)
 unfold oI;rw[aC (ρ':=[.v (aX r x),.v (nI c),.v (nI q),.v (nI w),.v (aN r),.v (aN x),.no,.no,.no,.no]) (gc (gV rfl) rfl)];have s2:dc (gT 4 (cA (gN 6) (cA (gN 7) (cA (gN 8) (cA (gN 9) (iC)))))) (pu (ak (nF 3 dX) (ae (ai 1) (ae (ai 2) (ae (ai 3) (aj)))))) [.v (aX r x),.v (nI c),.v (nI q),.v (nI w),.v (aN r),.v (aN x),.no,.no,.no,.no]=.nx [.v (aX r x),.v (nI c),.v (nI q),.v (nI w),.v (aN r),.v (aN x),.v (nI (oh c w)),.v (nI (jf q w)),.v (nI (fH c w)),.v (nI (i4 q w))]:=gc (gV ((bJ (ds:=[nI c,nI q,nI w]) rfl rfl).trans (wI c q hw))) rfl
 rw[aC s2];have p1:bL (av nM (bF (ae (av aW (ai 4) (ai 8)) (ae (av aW (ai 5) (ai 8)) (aj)))) (bF (ae (ai 9) (ae (ai 7) (aj))))) [.v (aX r x),.v (nI c),.v (nI q),.v (nI w),.v (aN r),.v (aN x),.v (nI (oh c w)),.v (nI (jf q w)),.v (nI (fH c w)),.v (nI (i4 q w))]=some (!(decide (r.getD (fH c w) 0=i4 q w)&&decide (x.getD (fH c w) 0=jf q w))):=
  bN ((az (cD (ao ((az (x:=aN r) (y:=nI (fH c w)) rfl rfl).trans (gI (by omega))) (ao ((az (x:=aN x) (y:=nI (fH c w)) rfl rfl).trans (gI (by omega))) rfl)) (by simp)) (y:=.tup [nI (i4 q w),nI (jf q w)]) (cD rfl (by simp))).trans (by rw[lJ (Hg _ _),JZ]))
 have p2:Fw (qt (bL (av iD (av aW (ai 5) (ai 6)) (ai 9))) (bL (av nM (av aW (ai 4) (ai 6)) (ai 7)))) [.v (aX r x),.v (nI c),.v (nI q),.v (nI w),.v (aN r),.v (aN x),.v (nI (oh c w)),.v (nI (jf q w)),.v (nI (fH c w)),.v (nI (i4 q w))]=some (.bl (decide (x.getD (oh c w) 0=i4 q w)&& !decide (r.getD (oh c w) 0=jf q w))):=by
  refine A1 (C4 (a:=decide (x.getD (oh c w) 0=i4 q w)) (bN ((az ((az (x:=aN x) (y:=nI (oh c w)) rfl rfl).trans (gI (by omega))) (y:=nI (i4 q w)) rfl).trans (by rw[jE (by rw[fE];omega),iJ]))) (λz=>?_) λz=>by rw[z];rfl)
  rw[z,O7];exact bN ((az ((az (x:=aN r) (y:=nI (oh c w)) rfl rfl).trans (gI (by omega))) (y:=nI (jf q w)) rfl).trans (by rw[lJ (by rw[fE];omega),iJ]))
 unfold iE;revert p1
 generalize (decide (r.getD (fH c w) 0=i4 q w)&&decide (x.getD (fH c w) 0=jf q w))=pb
 intro p1;cases pb with
 |true=>exact⟨_,(aC (cL p1)).trans (bc p2)⟩
 |false=>exact⟨_,mR ((i0 p1).trans (bc rfl))⟩
theorem Du(c q:Int):mU [aX r x,.int c,.int q]=some (wD (vM r x c q)):=by
 have h1:=G.R.len;have h2:=G.X.len;have h3:=G.lo;have h4:=G.hi
 apply iQ (kd:=.s) (n:=5) (t:=mQ)
 unfold mQ;rw[aC (ρ':=[.v (aX r x),.v (.int c),.v (.int q),.v (.int ((r.length:Int) -2)),.no]) ((bv ((az (eL r _ _ rfl) (y:=.int 2) rfl).trans (lT _ _))).trans rfl)];have p1:rj (fJ (bL (rh qK qK (aA (.int 0)) (ai 1) (ai 3)))) (fJ (bL (rh qK qK (aA (.int 0)) (ai 2) (ai 3)))) [.v (aX r x),.v (.int c),.v (.int q),.v (.int ((r.length:Int) -2)),.no]=some (!(decide (0<=c)&&decide (c<=(r.length:Int) -2))|| !(decide (0<=q)&&decide (q<=(r.length:Int) -2))):=
  xl (jB (bN (oU (x:=.int 0) (y:=.int c) (z:=.int ((r.length:Int) -2)) rfl rfl rfl rfl rfl))) (jB (bN (oU (x:=.int 0) (y:=.int q) (z:=.int ((r.length:Int) -2)) rfl rfl rfl rfl rfl)))
 unfold vM
 by_cases hg:(decide (0<=c)&&decide (c<=(r.length:Int) -2))=true/\(decide (0<=q)&&decide (q<=(r.length:Int) -2))=true
 ·rw[if_pos hg]
  rw[hg.1,hg.2] at p1;rw[Lk,Lk,decide_eq_true_eq,decide_eq_true_eq,decide_eq_true_eq,decide_eq_true_eq] at hg;rw[aC (cL p1)];obtain⟨c,rfl⟩: ∃m:Nat,c=m:=⟨c.toNat,by omega⟩
  obtain⟨q,rfl⟩: ∃m:Nat,q=m:=⟨q.toNat,by omega⟩
  rw[Mb,Mb];have fw:=Fz (a:=aX r x) (b:=nI c) (d:=nI q) (e:=.int ((r.length:Int) -2)) (bd:=fS (fZ (ak (nF 4 kE) (ae (ai 0) (ae (ai 1) (ae (ai 2) (ae (ai 4) (aj))))))) (aZ (ai 4)) (skip)) (q:=iE r x c q) (KW 4) .no λw hw=>by
   rw[La] at hw;have:=kR ((bJ (ds:=[aX r x,nI c,nI q,nI w]) (fs:=ae (ai 0) (ae (ai 1) (ae (ai 2) (ae (ai 4) (aj))))) (ρ:=[.v (aX r x),.v (nI c),.v (nI q),.v (.int ((r.length:Int) -2)),.v (nI w)]) rfl rfl).trans (B9 G (c:=c) (q:=q) (w:=w) (by omega) hw))
   cases e:iE r x c q w with
   |true=>rw[e] at this;rw[if_pos rfl];exact(i0 this).trans (bc rfl)
   |false=>rw[e] at this;rw[if_neg (by simp)];exact cL this
  unfold Gu;have fs:gW (dU (bz (ae (aA (.int 4)) (aj)))) (gN 4) (fS (fZ (ak (nF 4 kE) (ae (ai 0) (ae (ai 1) (ae (ai 2) (ae (ai 4) (aj))))))) (aZ (ai 4)) (skip)) [.v (aX r x),.v (nI c),.v (nI q),.v (.int ((r.length:Int) -2)),.no]=fh (gN 4) (fS (fZ (ak (nF 4 kE) (ae (ai 0) (ae (ai 1) (ae (ai 2) (ae (ai 4) (aj))))))) (aZ (ai 4)) (skip)) ((KW 4).map nI) [.v (aX r x),.v (nI c),.v (nI q),.v (.int ((r.length:Int) -2)),.no]:=ir (ck (cz (n:=4) rfl (by omega)))
  cases e:(KW 4).find? (iE r x c q) with
  |some w=>
   rw[e] at fw;obtain⟨ρ,h⟩:=fw
   exact⟨_,mR (fs.trans h)⟩
  |none=>
   rw[e] at fw;obtain⟨s,h⟩:=fw
   exact⟨_,(aC (fs.trans h)).trans (bc rfl)⟩
 ·rw[if_neg hg]
  have:(!(decide (0<=c)&&decide (c<=(r.length:Int) -2))|| !(decide (0<=q)&&decide (q<=(r.length:Int) -2)))=true:=by
   cases e1:(decide (0<=c)&&decide (c<=(r.length:Int) -2))<;>cases e2:(decide (0<=q)&&decide (q<=(r.length:Int) -2))<;>first|rfl|exact absurd ⟨e1,e2⟩ hg
  rw[this] at p1;exact⟨_,mR ((i0 p1).trans (bc rfl))⟩
theorem su {c q:Int}{w:Nat}(h:vM r x c q=some w): ∃c' q':Nat,c=c'/\q=q'/\c'+1<n/\q'+1<n/\w<4/\iE r x c' q' w=true:=by
 have h1:=G.R.len
 unfold vM at h;split at h
 ·rename_i hg
  rw[Lk,Lk,decide_eq_true_eq,decide_eq_true_eq,decide_eq_true_eq,decide_eq_true_eq] at hg;unfold Gu at h;have m:=List.mem_of_find?_eq_some h
  rw[La] at m;exact⟨c.toNat,q.toNat,by omega,by omega,by omega,by omega,m,List.find?_some h⟩
 ·cases h
def wo(r x:List Nat)(c q:Int):Except Ex D:=match vM r x c q with
 |none=>.error CV
 |some w=>.ok (aX (gX r q.toNat (fH c.toNat w)) (gX x q.toNat (fH c.toNat w)))
theorem DU(c q:Int):iH [aX r x,.int c,.int q]=some (wo r x c q):=by
 have h1:=G.R.len;have h2:=G.X.len;have h3:=G.lo;have h4:=G.hi
 have s1:kA (bj 3 (ak (nF 3 mU) (ae (ai 0) (ae (ai 1) (ae (ai 2) (aj)))))) (fO 7 [aX r x,.int c,.int q])=.ok (.nx [.v (aX r x),.v (.int c),.v (.int q),.v (wD (vM r x c q)),.no,.no,.no]):=cP ((bv ((bJ (ds:=[aX r x,.int c,.int q]) rfl rfl).trans (Du G c q))).trans rfl)
 unfold wo;cases e:vM r x c q with
 |none=>
  rw[e] at s1;refine v0 (kd:=.s) (n:=7) (t:=eM) ?_
  unfold eM;rw[bi s1];exact⟨_,fC ((mG (bN (b:=true) ((az (x:=.non) (y:=.non) rfl rfl).trans rfl))).trans rfl)⟩
 |some w=>
  rw[e] at s1;obtain⟨c,q,rfl,rfl,hc,hq,hw,_⟩:=su G e
  rw[Mb,Mb];refine jZ (kd:=.s) (n:=7) (t:=eM) (ρ:=[.v (aX r x),.v (nI c),.v (nI q),.v (nI w),.v (aN r),.v (aN x),.v (nI (fH c w))]) ?_
  unfold eM;rw[bi s1,bi (jI (bN (b:=false) ((az (x:=nI w) (y:=.non) rfl rfl).trans rfl)))];refine cP ?_
  refine(aC (ρ':=[.v (aX r x),.v (nI c),.v (nI q),.v (nI w),.v (aN r),.v (aN x),.no]) (gc (gV rfl) rfl)).trans ?_
  refine(aC (ρ':=[.v (aX r x),.v (nI c),.v (nI q),.v (nI w),.v (aN r),.v (aN x),.v (nI (fH c w))]) ((bv ((az ((bJ (ds:=[nI c,nI q,nI w]) rfl rfl).trans (wI c q hw)) (y:=.int 2) rfl).trans rfl)).trans rfl)).trans ?_
  exact bc (cD (ao ((bJ (ds:=[aN r,nI q,nI (fH c w)]) rfl rfl).trans (sI r q _ (by omega))) (ao ((bJ (ds:=[aN x,nI q,nI (fH c w)]) rfl rfl).trans (sI x q _ (by omega))) rfl)) (by simp))
theorem Gd.tkn {c q w:Nat}(hc:c+1<n)(hq:q+1<n)(hw:w<4)(h:iE r x c q w=true):Gd (n-1) (gX r q (fH c w)) (gX x q (fH c w)):=by
 unfold iE at h;simp only[Lk,decide_eq_true_eq,M0,decide_eq_false_iff_not] at h;obtain⟨⟨a1,a2⟩,a3,a4⟩:=h
 have d:w / 2=0\/w / 2=1:=by omega
 have hf:fH c w<n:=by unfold fH;omega
 have hf2:oh c w<n:=by unfold oh;omega
 have hne:fH c w≠oh c w:=by unfold fH oh;omega
 refine⟨G.R.join hq hf ?_,G.X.join hq hf ?_,?_,by have:=G.hi;omega⟩
 ·rw[a1];unfold i4;rcases d with d|d<;>rw[d]<;>omega
 ·rw[a2];unfold jf;rcases d with d|d<;>rw[d]<;>omega
 ·have h3:=G.lo
  refine Nat.le_sub_of_add_le ?_
  by_cases e:n=2
  ·exfalso
   subst e;have g1:=G.R.get hf2
   have g2:r.getD (oh c w) 0≠r.getD (fH c w) 0:=λz=>hne (G.R.inj hf2 hf z).symm
   apply a4
   rw[a1] at g2;unfold i4 at g2;unfold jf;rcases d with d|d<;>rw[d] at g2⊢ <;>omega
  ·omega
end
structure Fl(n:Nat)(S S' f:Nat->Nat):Prop where
 H:Sh n S
 H':Sh n S'
 lt: ∀y,y<n->f y<n
 inj: ∀y z,y<n->z<n->f y=f z->y=z
 sur: ∀v,v<n-> ∃y,y<n/\f y=v
 back: ∀y,y<n->S' (f (S y))=f y
theorem qg {S:Nat->Nat}{a b c:Nat}(h1:oj S a b)(h2:oj S b c):oj S a c:=by
 obtain⟨i,rfl⟩:=h1
 obtain⟨j,rfl⟩:=h2
 exact⟨j+i,(nl S a i j).symm⟩
theorem qI {n:Nat}{S:Nat->Nat}(H:Sh n S){s:Nat}(hs:s<n): ∀k,mO S k s<n
 |0=>hs
 |k+1=>H.lt _ (qI H hs k)
section
variable {n:Nat}{S S' f:Nat->Nat}(F:Fl n S S' f)
include F
theorem Fl.step {s:Nat}(hs:s<n): ∀j i,mO S' j (f (mO S (j+i) s))=f (mO S i s)
 |0,i=>by rw[No];rfl
 |j+1,i=>by
  show S' (mO S' j (f (mO S (j+1+i) s)))=_;rw[show j+1+i=j+(i+1) by omega,Fl.step hs j (i+1)]
  exact F.back _ (qI F.H hs i)
end
def ci(r x:List Nat)(y:Nat):Nat:=x.idxOf (r.getD y 0)
theorem rd {n:Nat}{r x:List Nat}(R:Ord n r)(X:Ord n x){y:Nat}(hy:y<n):ci r x y<n/\x.getD (ci r x y) 0=r.getD y 0:=bf X (R.get hy)
theorem jF {n:Nat}{r x:List Nat}(R:Ord n r)(X:Ord n x):Sh n (ci r x):=⟨λy hy=>(rd R X hy).1,λy z hy hz e=>by
 have h1:=(rd R X hy).2
 have h2:=(rd R X hz).2
 rw[e] at h1;exact R.inj hy hz (h1.symm.trans h2)⟩
theorem Id {n:Nat}{r x:List Nat}(R:Ord n r)(X:Ord n x):Fl n (ci r x) (ci (bX r) (bX x)) (λy=>r.getD y 0) where
 H:=jF R X
 H':=jF R.tip X.tip
 lt:=λy hy=>R.get hy
 inj:=λy z hy hz e=>R.inj hy hz e
 sur:=λv hv=>⟨r.idxOf v,(bf R hv).1,(bf R hv).2⟩
 back:=λy hy=>by
  obtain⟨h1,h2⟩:=rd R X hy
  have hr:=R.get h1
  obtain⟨k1,k2⟩:=rd R.tip X.tip (y:=r.getD (ci r x y) 0) hr
  rw[ud R h1] at k2;rw[gF X k1] at k2;have:=(bf X k1).2
  rw[k2,h2] at this;exact this.symm
set_option maxHeartbeats 1000000
def rW:FS:=
 aD (jD 2 (bn 0 1 fU (dU (ae (aA (.int 4)) (aj)))))
 (aD (jD 3 (p7 bC (pu (aA (.int 1))) (bn 0 1 fU (dU (ae (av km (ai 1) (aA (.int 1))) (aj))))))
 (aD (jD 4 (bn 0 1 ky (dU (ae (ai 1) (aj)))))
 (aD (wt 5 (bn 0 1 ky (dU (ae (ai 1) (aj)))))
 (aD (fS (bL (av iD (ai 2) (aA (.int 1)))) (aD (bj 4 (C1 (ai 1)))
 (fK 5 (aR 1 (dz (ai 4)) (gN 8) (cq) (av cH (av bC (ai 8) (ai 3)) (ai 1))))) (skip))
 (aD (gW (dU (bz (ae (ai 1) (aj)))) (gN 6) (aD (bj 7 (av cH (av bC (ai 6) (aA (.int 1))) (ai 1)))
 (fS (bL (av iD (av aW (fI 5) (ai 6)) (av aW (ai 4) (ai 6)))) (dc (gT 2 (cA (ft 5 (ai 6)) (cA (ft 5 (ai 7)) (iC)))) (pu (bF (ae (av aW (fI 5) (ai 7)) (ae (av aW (fI 5) (ai 6)) (aj)))))) (skip))))
 (aZ (bF (ae (ak dC (ae (ai 4) (aj))) (ae (ak dC (ae (fI 5) (aj))) (aj))))))))))
def sx:List D->List D->Option (D×List D):=vY .s 8 rW
theorem xi {N:Nat}{a b:Int}(B:Bag N a b){n:Nat}(h2:2<=n)(h6:n<=6)(hN:N<=800000000): ∃(r x:List Nat) (a' b':Int),sx (bq a b) [nI n]=some (aX r x,bq a' b')/\Sq n r x/\Bag (N+2*n+2) a' b':=by
 obtain⟨p,a1,b1,e1,B1,p0,p1⟩:=jN (m:=4) B (by omega) (by decide) (by decide)
 obtain⟨q,a2,b2,e2,B2,q0,q1⟩:=jN (m:=(n:Int) -1) B1 (by omega) (by omega) (Li (show((n:Int) -1).natAbs<10^10 by omega) (by decide))
 obtain⟨r,a3,b3,e3,or,B3⟩:=uU B2 (n:=n) (by omega) (by omega)
 obtain⟨x,a4,b4,e4,ox,B4⟩:=uU B3 (n:=n) (by omega) (by omega)
 obtain⟨q',rfl⟩: ∃j:Nat,q=(j:Int):=⟨q.toNat,by omega⟩
 have r0:rB 8 (bq a b) [nI n]=[.arg (bq a b),.v (nI n),.no,.no,.no,.no,.no,.no]:=rfl
 have s1:jD 2 (bn 0 1 fU (dU (ae (aA (.int 4)) (aj)))) [.arg (bq a b),.v (nI n),.no,.no,.no,.no,.no,.no]=.nx [.arg (bq a1 b1),.v (nI n),.v (.int p),.no,.no,.no,.no,.no]:=
  (jb (cN (i:=0) (n:=1) (b0:=bq a b) (ds:=[.int 4]) rfl (ck rfl) rfl rfl e1)).trans rfl
 have s2:jD 3 (p7 bC (pu (aA (.int 1))) (bn 0 1 fU (dU (ae (av km (ai 1) (aA (.int 1))) (aj))))) [.arg (bq a1 b1),.v (nI n),.v (.int p),.no,.no,.no,.no,.no]=.nx [.arg (bq a2 b2),.v (nI n),.v (.int p),.v (nI (q'+1)),.no,.no,.no,.no]:=
  (jb (xV (gV rfl) (cN (i:=0) (n:=1) (b0:=bq a1 b1) (ds:=[.int ((n:Int) -1)]) rfl (ck rfl) rfl rfl e2) (show bC (.int 1) (nI q')=some (nI (q'+1)) by rw[dY];simp;omega))).trans rfl
 have s3:jD 4 (bn 0 1 ky (dU (ae (ai 1) (aj)))) [.arg (bq a2 b2),.v (nI n),.v (.int p),.v (nI (q'+1)),.no,.no,.no,.no]=.nx [.arg (bq a3 b3),.v (nI n),.v (.int p),.v (nI (q'+1)),.v (.lst (r.map nI)),.no,.no,.no]:=
  (jb (cN (i:=0) (n:=1) (b0:=bq a2 b2) (ds:=[nI n]) rfl (ck rfl) rfl rfl e3)).trans rfl
 have s4:wt 5 (bn 0 1 ky (dU (ae (ai 1) (aj)))) [.arg (bq a3 b3),.v (nI n),.v (.int p),.v (nI (q'+1)),.v (.lst (r.map nI)),.no,.no,.no]=.nx [.arg (bq a4 b4),.v (nI n),.v (.int p),.v (nI (q'+1)),.v (.lst (r.map nI)),.own (x.map nI),.no,.no]:=
  (Dh (cN (i:=0) (n:=1) (b0:=bq a3 b3) (ds:=[nI n]) rfl (ck rfl) rfl rfl e4)).trans rfl
 have s5: ∃(r' x':List Nat),fS (bL (av iD (ai 2) (aA (.int 1)))) (aD (bj 4 (C1 (ai 1)))
  (fK 5 (aR 1 (dz (ai 4)) (gN 8) (cq) (av cH (av bC (ai 8) (ai 3)) (ai 1))))) (skip) [.arg (bq a4 b4),.v (nI n),.v (.int p),.v (nI (q'+1)),.v (.lst (r.map nI)),.own (x.map nI),.no,.no]=.nx [.arg (bq a4 b4),.v (nI n),.v (.int p),.v (nI (q'+1)),.v (.lst (r'.map nI)),.own (x'.map nI),.no,.no]/\Ord n r'/\Ord n x':=by
  unfold fS bL;rw[az (x:=.int p) (y:=.int 1) rfl rfl,jE (by rw[fE];omega),kP]
  by_cases hp:p=1
  ·refine⟨KW n,(KW n).map λi=>(i+(q'+1)) % n,?_,⟨.refl _⟩,DD n h2 h6 (q'+1) (by omega) (by omega)⟩
   rw[decide_eq_true hp];simp only[vo];rw[aC ((bv (E6 (n:=n) (by omega) (ai 1) _ rfl)).trans rfl)]
   refine(i9 (bV (ds:=(KW n).map nI) (ys:=(KW n).map λi=>nI ((i+(q'+1)) % n)) rfl (by simp;omega) (cE _ λi hi=>⟨_,rfl,?_⟩))).trans ?_
   ·exact(az ((az (x:=nI i) (y:=nI (q'+1)) rfl rfl).trans (GM _ _)) (y:=nI n) rfl).trans (EN (by omega))
   ·rw[LA];rfl
  ·refine⟨r,x,?_,or,ox⟩
   rw[decide_eq_false hp];simp only[vo,skip]
 obtain⟨r',x',s5,or',ox'⟩:=s5
 obtain⟨x2,t6,t7,lp,ox2,hne⟩:=Ff (bq a4 b4) (.int p) (nI (q'+1)) or' h2 n 0 x' .no .no (by omega) ox' (λi h=>absurd h (OG _))
 have s6:gW (dU (bz (ae (ai 1) (aj)))) (gN 6) yL [.arg (bq a4 b4),.v (nI n),.v (.int p),.v (nI (q'+1)),.v (.lst (r'.map nI)),.own (x'.map nI),.no,.no]=.nx [.arg (bq a4 b4),.v (nI n),.v (.int p),.v (nI (q'+1)),.v (.lst (r'.map nI)),.own (x2.map nI),t6,t7]:=by
  unfold gW;rw[ck (cz (n:=n) rfl (by omega))]
  dsimp only;rw[MX];exact lp
 refine⟨r',x2,a4,b4,?_,⟨or',ox2,hne⟩,by rw[show N+2*n+2=N+1+1+n+n by omega];exact B4⟩
 unfold sx vY rW;rw[r0,aC s1,aC s2,aC s3,aC s4,aC s5];rw[aC s6];have s7:aZ (bF (ae (ak dC (ae (ai 4) (aj))) (ae (ak dC (ae (fI 5) (aj))) (aj)))) [.arg (bq a4 b4),.v (nI n),.v (.int p),.v (nI (q'+1)),.v (.lst (r'.map nI)),.own (x2.map nI),t6,t7]=.rt (aX r' x2) [.arg (bq a4 b4),.v (nI n),.v (.int p),.v (nI (q'+1)),.v (.lst (r'.map nI)),.own (x2.map nI),t6,t7]:=by
  unfold aZ;rw[cD (ds:=[aN r',aN x2]) rfl (by simp)]
 rw[s7];rfl
theorem Hh {kd:Kd}{n:Nat}{t:FS}{bs ds b':List D}{d:D}{ρ:aJ}(h:t (rB n bs ds)=.rt d ρ)(h2:qw ρ=some b'):vY kd n t bs ds=some (d,b'):=by unfold vY;rw[h];dsimp only;rw[h2];rfl
theorem uB {g:FG}{b:FS}{P:Nat->aJ->Prop}: ∀(l:List D) (j:Nat),(∀d∈l,∀i ρ,i<j+l.length->P i ρ-> ∃ρ1 ρ2,g d ρ=some ρ1/\b ρ1=.nx ρ2/\P (i+1) ρ2)-> ∀ρ,P j ρ-> ∃ρ',fh g b l ρ=.nx ρ'/\P (j+l.length) ρ'
 | [],j,_,ρ,p=>⟨ρ,rfl,p⟩
 |d::l,j,h,ρ,p=>by
  obtain⟨ρ1,ρ2,h1,h2,p2⟩:=h d (Lu ..) j ρ (by rw[LM];omega) p
  obtain⟨ρ',e,p'⟩:=uB l (j+1) (λd' hd i ρ hi=>h d' (Lb _ hd) i ρ (by rw[LM];omega)) ρ2 p2
  exact⟨ρ',(fG h1 h2).trans e,by rw[LM,Nat.add_comm l.length 1,<-Nat.add_assoc];exact p'⟩
set_option maxHeartbeats 4000000
inductive Mo
 |cols (k:Int)|rows (k:Int)|tip|swap (c:Int)|cross (c:Int)|put (c w:Int)|take (c q:Int)
def Mo.d:Mo->D
 | .cols k=>.tup [.str "columns",.int k]
 | .rows k=>.tup [.str "rows",.int k]
 | .tip=>.tup [.str "tip"]
 | .swap c=>.tup [.str "swap",.int c]
 | .cross c=>.tup [.str "cross",.int c]
 | .put c w=>.tup [.str "put",.int c,.int w]
 | .take c q=>.tup [.str "take",.int c,.int q]
def xg(n:Nat)(r x:List Nat)(c w:Int):Except Ex D:=if(decide (0<=c)&&decide (c<n))=true/\(decide (0<=w)&&decide (w<4))=true then(if n<6 then .ok (aX (jt r (x.getD c.toNat 0) (jf (x.getD c.toNat 0) w.toNat) (fH c.toNat w.toNat) (i4 (x.getD c.toNat 0) w.toNat)) (jt x (x.getD c.toNat 0) (i4 (x.getD c.toNat 0) w.toNat) (fH c.toNat w.toNat) (jf (x.getD c.toNat 0) w.toNat))) else .error EG) else .error CV
def wT(r x:List Nat)(c:Int):Except Ex D:=if mD r x c=true then .ok (aX (lF r c.toNat (c.toNat+1)) (lF x c.toNat (c.toNat+1))) else .error CV
def wz(r x:List Nat)(c:Int):Except Ex D:=if mD (bX r) (bX x) c=true then .ok (aX (bX (lF (bX r) c.toNat (c.toNat+1))) (bX (lF (bX x) c.toNat (c.toNat+1)))) else .error CV
def Mo.e(n:Nat)(r x:List Nat):Mo->Except Ex D
 | .cols k=>.ok (aX (dQ r k) (dQ x k))
 | .rows k=>.ok (aX (lD r k) (lD x k))
 | .tip=>.ok (aX (bX r) (bX x))
 | .swap c=>wT r x c
 | .cross c=>wz r x c
 | .put c w=>xg n r x c w
 | .take c q=>wo r x c q
theorem Ib(s t:Str):iD (.str s) (.str t)=some (.bl (eN (.str s) (.str t))):=jE (show fq (.str s)<=32 by unfold fq;omega)
theorem Br {n:Nat}{r x:List Nat}(G:Gd n r x)(m:Mo):vG [aX r x,m.d]=some (m.e n r x):=by
 have no: ∀(ρ:aJ) (s t:Str) (b:Bool),ai 2 ρ=some (.str s)->eN (.str s) (.str t)=b->bL (av iD (ai 2) (aA (.str t))) ρ=some b:=λρ s t b h e=>bN ((az h (y:=.str t) rfl).trans ((Ib s t).trans (by rw[e])))
 have s1: ∀(s:Str) (d:D),aW d (.int 0)=some (.str s)->kA (bj 2 (av aW (ai 1) (aA (.int 0)))) (fO 3 [aX r x,d])=.ok (.nx [.v (aX r x),.v d,.v (.str s)]):=λs d h=>cP ((bv ((az (x:=d) (y:=.int 0) rfl rfl).trans h)).trans rfl)
 cases m with
 |cols k=>
  refine jZ (kd:=.s) (n:=3) (t:=bP) (ρ:=[.v (aX r x),.v (Mo.cols k).d,.v (.str "columns")]) ?_
  unfold bP;rw[bi (s1 "columns" _ rfl)];exact fT (cP ((i0 (no _ "columns" _ true rfl rfl)).trans (bc ((bJ (ds:=[aX r x,.int k]) rfl rfl).trans (Cd G k)))))
 |rows k=>
  refine jZ (kd:=.s) (n:=3) (t:=bP) (ρ:=[.v (aX r x),.v (Mo.rows k).d,.v (.str "rows")]) ?_
  unfold bP;rw[bi (s1 "rows" _ rfl),bi (cP (cL (no _ "rows" _ false rfl rfl)))];exact fT (cP ((i0 (no _ "rows" _ true rfl rfl)).trans (bc ((bJ (ds:=[aX r x,.int k]) rfl rfl).trans (Ac G k)))))
 |tip=>
  refine jZ (kd:=.s) (n:=3) (t:=bP) (ρ:=[.v (aX r x),.v (Mo.tip).d,.v (.str "tip")]) ?_
  unfold bP;rw[bi (s1 "tip" _ rfl),bi (cP (cL (no _ "tip" _ false rfl rfl))),bi (cP (cL (no _ "tip" _ false rfl rfl)))];exact fT (cP ((i0 (no _ "tip" _ true rfl rfl)).trans (bc ((bJ (ds:=[aX r x]) rfl rfl).trans (qV G)))))
 |swap c=>
  have e1:eg 2 cr (iU (ae (ai 0) (ae (av aW (ai 1) (aA (.int 1))) (aj)))) [.v (aX r x),.v (Mo.swap c).d,.v (.str "swap")]=some (wT r x c):=(iz (ds:=[aX r x,.int c]) (jL rfl) rfl).trans (xt G c)
  have e2:bP (fO 3 [aX r x,(Mo.swap c).d])=eJ (j4 (eg 2 cr (iU (ae (ai 0) (ae (av aW (ai 1) (aA (.int 1))) (aj)))))) (λ_=>.ok .no) [.v (aX r x),.v (Mo.swap c).d,.v (.str "swap")]:=by
   unfold bP;rw[bi (s1 "swap" _ rfl),bi (cP (cL (no _ "swap" _ false rfl rfl))),bi (cP (cL (no _ "swap" _ false rfl rfl))),bi (cP (cL (no _ "swap" _ false rfl rfl)))];show eJ _ _ _=_;cases e:wT r x c with
   |ok d=>rw[e] at e1;rw[fT ((mG (no _ "swap" _ true rfl rfl)).trans (gA e1)),fT (gA e1)]
   |error z=>rw[e] at e1;rw[fC ((mG (no _ "swap" _ true rfl rfl)).trans (gG e1)),fC (gG e1)]
  show _=some (wT r x c);cases e:wT r x c with
  |ok d=>rw[e] at e1;exact jZ (kd:=.s) (n:=3) (t:=bP) (e2.trans (fT (gA e1)))
  |error z=>rw[e] at e1;exact om (kd:=.s) (n:=3) (t:=bP) (e2.trans (fC (gG e1)))
 |cross c=>
  have e1:eg 2 fV (iU (ae (ai 0) (ae (av aW (ai 1) (aA (.int 1))) (aj)))) [.v (aX r x),.v (Mo.cross c).d,.v (.str "cross")]=some (wz r x c):=(iz (ds:=[aX r x,.int c]) (jL rfl) rfl).trans (CB G c)
  have e2:bP (fO 3 [aX r x,(Mo.cross c).d])=eJ (j4 (eg 2 fV (iU (ae (ai 0) (ae (av aW (ai 1) (aA (.int 1))) (aj)))))) (λ_=>.ok .no) [.v (aX r x),.v (Mo.cross c).d,.v (.str "cross")]:=by
   unfold bP;rw[bi (s1 "cross" _ rfl),bi (cP (cL (no _ "cross" _ false rfl rfl))),bi (cP (cL (no _ "cross" _ false rfl rfl))),bi (cP (cL (no _ "cross" _ false rfl rfl))),bi (jI (no _ "cross" _ false rfl rfl))];cases e:wz r x c with
   |ok d=>rw[e] at e1;rw[fT ((mG (no _ "cross" _ true rfl rfl)).trans (gA e1)),fT (gA e1)]
   |error z=>rw[e] at e1;rw[fC ((mG (no _ "cross" _ true rfl rfl)).trans (gG e1)),fC (gG e1)]
  show _=some (wz r x c);cases e:wz r x c with
  |ok d=>rw[e] at e1;exact jZ (kd:=.s) (n:=3) (t:=bP) (e2.trans (fT (gA e1)))
  |error z=>rw[e] at e1;exact om (kd:=.s) (n:=3) (t:=bP) (e2.trans (fC (gG e1)))
 |put c w=>
  have e1:eg 3 ii (iU (ae (ai 0) (ae (av aW (ai 1) (aA (.int 1))) (ae (av aW (ai 1) (aA (.int 2))) (aj))))) [.v (aX r x),.v (Mo.put c w).d,.v (.str "put")]=some (xg n r x c w):=(iz (ds:=[aX r x,.int c,.int w]) (jL rfl) rfl).trans (DC G c w)
  have e2:bP (fO 3 [aX r x,(Mo.put c w).d])=eJ (j4 (eg 3 ii (iU (ae (ai 0) (ae (av aW (ai 1) (aA (.int 1))) (ae (av aW (ai 1) (aA (.int 2))) (aj))))))) (λ_=>.ok .no) [.v (aX r x),.v (Mo.put c w).d,.v (.str "put")]:=by
   unfold bP;rw[bi (s1 "put" _ rfl),bi (cP (cL (no _ "put" _ false rfl rfl))),bi (cP (cL (no _ "put" _ false rfl rfl))),bi (cP (cL (no _ "put" _ false rfl rfl))),bi (jI (no _ "put" _ false rfl rfl)),bi (jI (no _ "put" _ false rfl rfl))];cases e:xg n r x c w with
   |ok d=>rw[e] at e1;rw[fT ((mG (no _ "put" _ true rfl rfl)).trans (gA e1)),fT (gA e1)]
   |error z=>rw[e] at e1;rw[fC ((mG (no _ "put" _ true rfl rfl)).trans (gG e1)),fC (gG e1)]
  show _=some (xg n r x c w);cases e:xg n r x c w with
  |ok d=>rw[e] at e1;exact jZ (kd:=.s) (n:=3) (t:=bP) (e2.trans (fT (gA e1)))
  |error z=>rw[e] at e1;exact om (kd:=.s) (n:=3) (t:=bP) (e2.trans (fC (gG e1)))
 |take c q=>
  have e1:eg 3 iH (iU (ae (ai 0) (ae (av aW (ai 1) (aA (.int 1))) (ae (av aW (ai 1) (aA (.int 2))) (aj))))) [.v (aX r x),.v (Mo.take c q).d,.v (.str "take")]=some (wo r x c q):=(iz (ds:=[aX r x,.int c,.int q]) (jL rfl) rfl).trans (DU G c q)
  refine Fb (kd:=.s) (n:=3) (t:=bP) ?_ e1
  unfold bP;rw[bi (s1 "take" _ rfl),bi (cP (cL (no _ "take" _ false rfl rfl))),bi (cP (cL (no _ "take" _ false rfl rfl))),bi (cP (cL (no _ "take" _ false rfl rfl))),bi (jI (no _ "take" _ false rfl rfl)),bi (jI (no _ "take" _ false rfl rfl)),bi (jI (no _ "take" _ false rfl rfl))]
theorem D5 {i:Nat}{ns ys:List Str}{t:FX}{u:FS}{ρ:aJ}{o:Out}(h:t ρ=.ok o):wS i ns ys t u ρ=o:=by unfold wS;rw[h]
theorem EW {i:Nat}{ns ys:List Str}{t:FX}{u:FS}{ρ ρ' ρ2:aJ}{z:Ex}{d:D}(h:t ρ=.error (z,ρ'))(h1:ns.contains z.x=true)(h2:(ys.any λy=>pH z.x y)=true)(h3:u (ρ'.set i (.ob (.exc z.x z.n)))=.rt d ρ2):wS i ns ys t u ρ=.rt d ρ2:=by
 unfold wS;rw[h];dsimp only;rw[if_pos ⟨h1,h2⟩,h3]
set_option maxHeartbeats 1000000
theorem my {n:Nat}{o:List Nat}(O:Ord n o){v:Nat}(hv:v<n):lB (aN o) (nI v)=some (nI (o.idxOf v)):=by
 obtain⟨j,h1,h2,h3⟩:=xS v o (O.has hv)
 show(if dB (o.map nI)<=32 then(rG (o.map nI) (nI v)).map (λj=>D.int j) else none)=_
 rw[if_pos (by rw[jX];omega)]
 unfold rG;rw[h1];have:j=o.idxOf v:=by
  have:=bZ O (c:=j) (by rw[<-O.len];exact h2)
  rw[h3] at this;exact this.symm
 rw[<-this];rfl
theorem jH {p:Nat->Bool}{j:Nat}: ∀ {n:Nat},j<n->(∀i,i<n->(p i=true↔i=j))->(KW n).filter p=[j]
 |0,h,_=>absurd h (OG _)
 |n+1,hj,h=>by
  rw[Nl,OV]
  by_cases e:j=n
  ·subst e
   have e1:(KW j).filter p=[]:=List.filter_eq_nil_iff.mpr λa ha q=>by
    rw[La] at ha;have:=(h a (by omega)).mp q
    omega
   rw[e1,MG ((h j (by omega)).mpr rfl)];rfl
  ·rw[jH (n:=n) (by omega) λi hi=>h i (by omega),MF λq=>e ((h n (by omega)).mp q).symm];rfl
theorem wR(a b:Nat):iD (nI a) (nI b)=some (.bl (decide (a=b))):=by rw[jE (by rw[fE];omega),iJ]
theorem pT {g:FG}{b:FS}{P:Nat->aJ->Prop}: ∀(k j:Nat),(∀i ρ,j<=i->i<j+k->P i ρ-> ∃ρ1 ρ2,g (nI i) ρ=some ρ1/\b ρ1=.nx ρ2/\P (i+1) ρ2)-> ∀ρ,P j ρ-> ∃ρ',fh g b ((Mj j k).map nI) ρ=.nx ρ'/\P (j+k) ρ'
 |0,j,_,ρ,p=>⟨ρ,rfl,p⟩
 |k+1,j,h,ρ,p=>by
  obtain⟨ρ1,ρ2,h1,h2,p2⟩:=h j ρ (Ld _) (by omega) p
  obtain⟨ρ',e,p'⟩:=pT k (j+1) (λi ρ a b=>h i ρ (by omega) (by omega)) ρ2 p2
  refine⟨ρ',?_,by rw[show j+(k+1)=j+1+k by omega];exact p'⟩
  rw[Ph,Lf];exact(fG h1 h2).trans e
theorem GB(a b:Nat):vp (a:Int) ((b:Int) -a).toNat=(Mj a (b-a)).map nI:=by
 unfold vp;rw[show((b:Int) -a).toNat=b-a by omega,MX,Pc,Pc,LA,LA]
 refine Md λi _=>?_
 show D.int _=D.int _;congr 1
 simp
theorem vc {f:FA}{ρ:aJ}{a b:Nat}(h:f ρ=some [nI a,nI b])(ha:a<=1000)(hb:b<=1000):po f ρ=some ((Mj a (b-a)).map nI):=by
 unfold po;rw[h];show(if(a:Int).natAbs<4000000000/\(b:Int).natAbs<4000000000 then some (vp (a:Int) ((b:Int) -a).toNat) else none)=_
 rw[if_pos ⟨by omega,by omega⟩,GB]
theorem G5(ns:List Int)(k:Nat)(hk:1<=k)(ρ:aJ)(h:ai 0 ρ=some (lE ns)): ∃m:Nat,m<=k/\ak rX (ae (aA (.int 1)) (ae (ak lQ (ae (aA (.int k)) (ae (ak bu (ae (ai 0) (aj))) (aj)))) (aj))) ρ=some (nI m):=by
 have e1:ak bu (ae (ai 0) aj) ρ=some (nI ns.length):=by
  rw[bU (ao h rfl)];show some (D.int ((ns.map D.int).length:Int))=_;rw[K5]
 refine⟨max 1 (min k ns.length),by omega,?_⟩
 refine(bU (ao rfl (ao ((bU (ao rfl (ao e1 rfl))).trans rfl) rfl))).trans ?_
 show some (D.int _)=some (D.int _);congr 2
 split<;>split<;>omega
def sQ(r x:List Nat)(c y:Nat):Bool:=vW y (r.getD c 0) (x.getD c 0)&&vW c (r.idxOf y) (x.idxOf y)
def z6(r x:List Nat)(c y:Nat):Int:=if decide (x.getD c 0<r.getD c 0)=decide (r.idxOf y<x.idxOf y) then -1 else 1
def Hu(n:Nat)(r x:List Nat):List (List Int):=(KW n).flatMap λc=>((KW n).filter (sQ r x c)).map λ(y:Nat)=>[(c:Int),(y:Int),z6 r x c y]
theorem yg(n:Nat)(r x:List Nat)(hn:n<=6):(Hu n r x).length<=36:=by
 have: ∀(l:List Nat),(l.flatMap λc=>((KW n).filter (sQ r x c)).map λ(y:Nat)=>[(c:Int),(y:Int),z6 r x c y]).length<=l.length*6:=by
  intro l
  induction l with
  |nil=>simp
  |cons c l ih=>
   rw[NL,LJ,LM,K5];have:=NH (sQ r x c) (KW n)
   rw[Mh] at this;omega
 have h:=this (KW n)
 rw[Mh] at h;unfold Hu;omega
def sm(n:Nat)(f:Nat->Int):Int:=((KW n).map f).sum
theorem aU {n:Nat}{f g:Nat->Int}(h: ∀i,i<n->f i=g i):sm n f=sm n g:=by
 unfold sm;rw[Md λi hi=>h i (La.mp hi)]
theorem eR(n:Nat)(f:Nat->Int):sm (n+1) f=sm n f+f n:=by
 unfold sm;rw[Nl,L5,PD];simp
theorem kW {f g:Nat->Int}: ∀n,sm n (λi=>f i+g i)=sm n f+sm n g
 |0=>rfl
 |n+1=>by rw[eR,eR,eR,kW n];omega
theorem tR {f:Nat->Int}: ∀n,sm n (λi=> -f i)= -sm n f
 |0=>rfl
 |n+1=>by rw[eR,eR,tR n];omega
theorem oF {f g:Nat->Int}(n:Nat):sm n (λi=>f i-g i)=sm n f-sm n g:=by
 have:=kW (f:=f) (g:=λi=> -g i) n
 rw[tR] at this;rw[QI,<-this];exact aU λi _=>QI
theorem mk: ∀n,sm n (λ_=>0)=0
 |0=>rfl
 |n+1=>by rw[eR,mk n];rfl
theorem wg {f:Nat->Int}(a:Int): ∀n,sm n (λi=>a*f i)=a*sm n f
 |0=>by show(0:Int)=a*0;omega
 |n+1=>by rw[eR,eR,wg a n,Int.mul_add]
theorem pS {f:Nat->Nat->Int}(m:Nat): ∀n,sm n (λi=>sm m λj=>f i j)=sm m (λj=>sm n λi=>f i j)
 |0=>by show(0:Int)=sm m λ_=>0;rw[mk]
 |n+1=>by
  rw[eR,pS m n,<-kW];exact aU λj _=>(eR n λi=>f i j).symm
theorem sH {l m:List Int}(h:l.Perm m):l.sum=m.sum:=by
 induction h with
 |nil=>rfl
 |cons a _ ih=>rw[MW,MW,ih]
 |swap a b l=>rw[MW,MW,MW,MW];omega
 |trans _ _ h1 h2=>exact h1.trans h2
theorem lR {n:Nat}{o:List Nat}(O:Ord n o)(F:Nat->Nat->Int):sm n (λy=>F y (o.idxOf y))=sm n (λc=>F (o.getD c 0) c):=by
 unfold sm;have p:=sH (O.perm.map λy=>F y (o.idxOf y)).symm
 rw[p];congr 1
 apply Q5
 intro i;rw[Ln,Ln]
 by_cases h:i<n
 ·rw[K0 (by rw[O.len];exact h),LU h]
  have e1:o.getD i 0=o[i]'(by rw[O.len];exact h):=by rw[K2,K0 (by rw[O.len];exact h)];rfl
  have e2:=bZ O h
  rw[e1] at e2;show some (F _ _)=some (F _ _);rw[e2,e1]
 ·rw[LP (by rw[O.len];omega),LP (by simp;omega)];rfl
def bx(p:Prop) [Decidable p]:Int:=if p then 1 else 0
def CW(r x:List Nat)(c y:Nat):Int:=if sQ r x c y=true then z6 r x c y else 0
def gQ(n:Nat)(r x:List Nat)(ln:Nat->Nat)(a b:Nat):Int:=sm n λc=>sm n λy=>bx (ln c=a)*(bx (ln (r.idxOf y)=b)*CW r x c y)
def uI(r x:List Nat)(c y:Nat):Int:=bx (y<r.getD c 0) -bx (y<x.getD c 0)
def vI(r x:List Nat)(c y:Nat):Int:=bx (c<x.idxOf y) -bx (c<r.idxOf y)
theorem GO {r x:List Nat}{c y:Nat}(h1:y≠r.getD c 0)(h2:y≠x.getD c 0)(h3:c≠r.idxOf y)(h4:c≠x.idxOf y):CW r x c y= -(uI r x c y*vI r x c y):=by
 unfold CW uI vI
 generalize hr:r.getD c 0=p at*
 generalize hx:x.getD c 0=q at*
 generalize hi:r.idxOf y=i at*
 generalize hj:x.idxOf y=j at*
 have e1:sQ r x c y=(vW y p q&&vW c i j):=by unfold sQ;rw[hr,hx,hi,hj]
 have e2:z6 r x c y=if decide (q<p)=decide (i<j) then -1 else 1:=by unfold z6;rw[hr,hx,hi,hj]
 rw[e1,e2];unfold bx vW
 by_cases a1:y<p<;>by_cases a2:y<q<;>by_cases a3:c<i<;>by_cases a4:c<j<;>simp[a1,a2,a3,a4]<;>(try omega)<;>(split<;>omega)
def kI(r x:List Nat)(c d:Nat):Int:=uI r x c (x.getD d 0) -uI r x c (r.getD d 0)
section
variable {n:Nat}{r x:List Nat}{ln:Nat->Nat}(R:Ord n r)(X:Ord n x)(hl: ∀c,c<n->ln (ci r x c)=ln c)
include R hl
theorem lM {y:Nat}(hy:y<n):ln (x.idxOf y)=ln (r.idxOf y):=by
 obtain⟨h1,h2⟩:=bf R hy
 have:=hl _ h1
 unfold ci at this;rw[h2] at this;exact this
include X
theorem yC {c d:Nat}(hc:c<n)(hd:d<n)(ne:ln c≠ln d):c≠d/\r.getD c 0≠r.getD d 0/\x.getD c 0≠x.getD d 0/\x.getD c 0≠r.getD d 0/\r.getD c 0≠x.getD d 0:=by
 have n1:c≠d:=λe=>ne (by rw[e])
 refine⟨n1,λe=>n1 (R.inj hc hd e),λe=>n1 (X.inj hc hd e),λe=>?_,λe=>?_⟩
 ·have h1:=bZ X hc
  have h2:=bZ R hd
  have h3:=lM R hl (y:=x.getD c 0) (X.get hc)
  rw[h1,e,h2] at h3;exact ne h3
 ·have h1:=bZ R hc
  have h2:=bZ X hd
  have h3:=lM R hl (y:=r.getD c 0) (R.get hc)
  rw[h1,e,h2] at h3;exact ne h3.symm
theorem jK {a b:Nat}(ne:a≠b):gQ n r x ln a b= -sm n (λc=>sm n λd=>bx (ln c=a)*(bx (ln d=b)*(bx (c<d)*kI r x c d))):=by
 rw[<-tR];unfold gQ;refine aU λc hc=>?_
 have e1:sm n (λy=>bx (ln c=a)*(bx (ln (r.idxOf y)=b)*CW r x c y))=sm n (λy=>bx (ln c=a)*(bx (ln (r.idxOf y)=b)*(uI r x c y*bx (c<r.idxOf y))) -bx (ln c=a)*(bx (ln (x.idxOf y)=b)*(uI r x c y*bx (c<x.idxOf y)))):=by
  refine aU λy hy=>?_
  rw[lM R hl hy]
  by_cases h1:ln c=a
  ·by_cases h2:ln (r.idxOf y)=b
   ·have hi:=(bf R hy).1
    have z:ln c≠ln (r.idxOf y):=by rw[h1,h2];exact ne
    have hx2:=(bf X hy)
    have hr2:=(bf R hy)
    have:=GO (r:=r) (x:=x) (c:=c) (y:=y) (λe=>z (by rw[e,bZ R hc])) (λe=>z (by
     have h3:=lM R hl hy
     have h4:=bZ X hc
     rw[<-e] at h4;rw[h4] at h3;exact h3)) (λe=>z (by rw[<-e])) (λe=>z (by rw[<-lM R hl hy,<-e]))
    rw[this];unfold vI bx;rw[if_pos h1,if_pos h2]
    by_cases a1:c<x.idxOf y<;>by_cases a2:c<r.idxOf y<;>simp[a1,a2]<;>omega
   ·have:bx (ln (r.idxOf y)=b)=0:=if_neg h2
    rw[this];simp
  ·have:bx (ln c=a)=0:=if_neg h1
   rw[this];simp
 rw[e1,oF,lR R (λy d=>bx (ln c=a)*(bx (ln d=b)*(uI r x c y*bx (c<d)))),lR X (λy d=>bx (ln c=a)*(bx (ln d=b)*(uI r x c y*bx (c<d)))),<-oF,<-tR]
 refine aU λd hd=>?_
 unfold kI
 generalize bx (ln c=a)=A
 generalize bx (ln d=b)=B
 generalize bx (c<d)=J
 rw[<-OF,<-OF,<-Ve,<-P7,<-P7,TQ _ J,<-P7];congr 3
 omega
theorem tZ {c d:Nat}(hc:c<n)(hd:d<n)(ne:ln c≠ln d):kI r x d c= -kI r x c d:=by
 obtain⟨_,h1,h2,h3,h4⟩:=yC R X hl hc hd ne
 unfold kI uI bx
 generalize r.getD c 0=p at*
 generalize r.getD d 0=q at*
 generalize x.getD c 0=u at*
 generalize x.getD d 0=v at*
 by_cases a1:u<q<;>by_cases a2:u<v<;>by_cases a3:p<q<;>by_cases a4:p<v<;>by_cases b1:v<p<;>by_cases b2:v<u<;>by_cases b3:q<p<;>by_cases b4:q<u<;>simp[a1,a2,a3,a4,b1,b2,b3,b4]<;>omega
theorem Ed {a b:Nat}:sm n (λc=>sm n λd=>bx (ln c=a)*(bx (ln d=b)*kI r x c d))=0:=by
 rw[<-mk n];refine aU λc hc=>?_
 have e:sm n (λd=>bx (ln c=a)*(bx (ln d=b)*kI r x c d))=sm n (λd=>bx (ln c=a)*(bx (ln d=b)*uI r x c (x.getD d 0))) -sm n (λd=>bx (ln c=a)*(bx (ln d=b)*uI r x c (r.getD d 0))):=by
  rw[<-oF];refine aU λd _=>?_
  unfold kI;rw[OF,OF]
 rw[e,<-lR X (λy d=>bx (ln c=a)*(bx (ln d=b)*uI r x c y)),<-lR R (λy d=>bx (ln c=a)*(bx (ln d=b)*uI r x c y))]
 rw[RD];exact aU λy hy=>by rw[lM R hl hy]
theorem qR(a b:Nat):gQ n r x ln a b=gQ n r x ln b a:=by
 by_cases ne:a=b
 ·rw[ne]
 ·rw[jK R X hl ne,jK R X hl (Lw ne)]
  congr 1
  rw[pS (f:=λc d=>bx (ln c=b)*(bx (ln d=a)*(bx (c<d)*kI r x c d)))]
  have z:=Ed R X hl (a:=a) (b:=b)
  have e:sm n (λc=>sm n λd=>bx (ln d=b)*(bx (ln c=a)*(bx (d<c)*kI r x d c)))=sm n (λc=>sm n λd=>bx (ln c=a)*(bx (ln d=b)*(bx (c<d)*kI r x c d))) -sm n (λc=>sm n λd=>bx (ln c=a)*(bx (ln d=b)*kI r x c d)):=by
   rw[<-oF];refine aU λc hc=>?_
   rw[<-oF];refine aU λd hd=>?_
   by_cases h1:ln c=a
   ·by_cases h2:ln d=b
    ·have z:ln c≠ln d:=by rw[h1,h2];exact ne
     rw[tZ R X hl hc hd z];have n1:=(yC R X hl hc hd z).1
     generalize kI r x c d=K
     unfold bx;rw[if_pos h1,if_pos h2]
     by_cases a1:c<d
     ·rw[if_pos a1,if_neg (by omega)];omega
     ·rw[if_neg a1,if_pos (by omega)];omega
    ·have:bx (ln d=b)=0:=if_neg h2
     rw[this];simp
   ·have:bx (ln c=a)=0:=if_neg h1
    rw[this];simp
  rw[e,z];omega
end
set_option maxHeartbeats 4000000
theorem xR {n:Nat}{o:List Nat}(O:Ord n o)(h:0<n)(k:Int):lD o k=bX (dQ (bX o) k):=by
 have T:=Ba h k
 have Q:Ord n (dQ (bX o) k):=O.tip.mv T (Ck n) (by rw[uM,O.tip.len]) λc hc=>wQ O.tip.len h k hc
 refine vh (by rw[qD,O.len,yK,Q.len]) λc hc=>?_
 rw[qD,O.len] at hc;rw[BT O.len k hc,gF Q hc];refine Q.inj (T.lt _ (O.get hc)) (bf Q hc).1 ?_
 rw[(bf Q hc).2,wQ O.tip.len h k (O.get hc),ud O hc]
theorem BV {n:Nat}{r x:List Nat}{S:Nat->Nat}(H:Sg n r x S){y:Nat}(hy:y<n): ∃m,m<n/\led S m/\oj S y m:=by
 obtain⟨W,C⟩:=BH H hy
 have ex: ∀(l:List Nat),l≠[]-> ∃m∈l,∀z∈l,m<=z:=by
  intro l
  induction l with
  |nil=>intro h;exact absurd rfl h
  |cons a l ih=>
   intro _
   by_cases e:l=[]
   ·subst e;exact⟨a,by simp,λz hz=>by rw[L3] at hz;omega⟩
   ·obtain⟨m,hm,h⟩:=ih e
    by_cases am:a<=m
    ·exact⟨a,by simp,λz hz=>(Ll.mp hz).elim (λe=>by omega) λq=>by have:=h z q;omega⟩
    ·exact⟨m,by simp[hm],λz hz=>(Ll.mp hz).elim (λe=>by omega) λq=>h z q⟩
 obtain⟨m,hm,h⟩:=ex W (List.ne_nil_of_mem ((C.mem y).mpr (lL S y)))
 exact⟨m,C.lt m hm,λz hz=>h z ((C.mem z).mpr (mn ((C.mem m).mp hm) hz)),(C.mem m).mp hm⟩
set_option maxHeartbeats 1000000
section
variable {n:Nat}{r x:List Nat}(R:Ord n r)(X:Ord n x)(hn:n<=6)
include R X
theorem Gh {c:Nat}(hc:c<n):kB [aX r x,nI c]=some (.bl (decide (x.getD c 0<r.getD c 0))):=by
 apply cg (kd:=.s) (n:=4) (t:=oo)
 unfold oo;refine(aC (ρ':=[.v (aX r x),.v (nI c),.v (aN r),.v (aN x)]) (gc (gV rfl) rfl)).trans (bc ((az ((az (x:=aN x) (y:=nI c) rfl rfl).trans (gI (by rw[X.len];exact hc))) ((az (x:=aN r) (y:=nI c) rfl rfl).trans (gI (by rw[R.len];exact hc)))).trans ?_))
 show some (D.bl (decide (((x.getD c 0:Nat):Int)<((r.getD c 0:Nat):Int))))=_;congr 2
 simp
theorem Ch {y:Nat}(hy:y<n):gS [aX r x,nI y]=some (.bl (decide (r.idxOf y<x.idxOf y))):=by
 apply cg (kd:=.s) (n:=4) (t:=lg)
 unfold lg;refine(aC (ρ':=[.v (aX r x),.v (nI y),.v (aN r),.v (aN x)]) (gc (gV rfl) rfl)).trans (bc ((az ((az (x:=aN r) (y:=nI y) rfl rfl).trans (my R hy)) ((az (x:=aN x) (y:=nI y) rfl rfl).trans (my X hy))).trans ?_))
 show some (D.bl (decide (((r.idxOf y:Nat):Int)<((x.idxOf y:Nat):Int))))=_;congr 2
 simp
theorem C8 {c y:Nat}(hc:c<n)(hy:y<n):ip [aX r x,nI c,nI y]=some (.bl (sQ r x c y)):=by
 refine iQ (kd:=.s) (n:=5) (t:=kc) ?_
 unfold kc;have t1:fZ (ak (nF 3 cU) (ae (ai 2) (ae (av aW (ai 3) (ai 1)) (ae (av aW (ai 4) (ai 1)) (aj))))) [.v (aX r x),.v (nI c),.v (nI y),.v (aN r),.v (aN x)]=some (vW y (r.getD c 0) (x.getD c 0)):=
  kR ((bJ (ds:=[nI y,nI (r.getD c 0),nI (x.getD c 0)]) (ao rfl (ao ((az (x:=aN r) (y:=nI c) rfl rfl).trans (gI (by rw[R.len];exact hc))) (ao ((az (x:=aN x) (y:=nI c) rfl rfl).trans (gI (by rw[X.len];exact hc))) rfl))) rfl).trans (tK _ _ _))
 refine⟨[.v (aX r x),.v (nI c),.v (nI y),.v (aN r),.v (aN x)],(aC (ρ':=[.v (aX r x),.v (nI c),.v (nI y),.v (aN r),.v (aN x)]) (gc (gV rfl) rfl)).trans ?_⟩
 unfold sQ;cases e:vW y (r.getD c 0) (x.getD c 0) with
 |false=>
  rw[e] at t1;unfold aD;rw[i0 (jB t1)];rfl
 |true=>
  rw[e] at t1;refine(aC (ρ':=[.v (aX r x),.v (nI c),.v (nI y),.v (aN r),.v (aN x)]) (xG (jB t1))).trans ?_
  rw[O7];exact bc ((bJ (ds:=[nI c,nI (r.idxOf y),nI (x.idxOf y)]) (ao rfl (ao ((az (x:=aN r) (y:=nI y) rfl rfl).trans (my R hy)) (ao ((az (x:=aN x) (y:=nI y) rfl rfl).trans (my X hy)) rfl))) rfl).trans (tK _ _ _))
theorem Ev {c y:Nat}(hc:c<n)(hy:y<n):mw [aX r x,nI c,nI y]=some (.int (z6 r x c y)):=by
 apply cg (kd:=.s) (n:=3) (t:=oq)
 unfold oq;refine bc ?_
 have t1:bL (av nM (ak (nF 2 kB) (ae (ai 0) (ae (ai 1) (aj)))) (ak (nF 2 gS) (ae (ai 0) (ae (ai 2) (aj))))) (fO 3 [aX r x,nI c,nI y])=some (!(decide (x.getD c 0<r.getD c 0)==decide (r.idxOf y<x.idxOf y))):=by
  refine bN ((az ((bJ (ds:=[aX r x,nI c]) rfl rfl).trans (Gh R X hc)) ((bJ (ds:=[aX r x,nI y]) rfl rfl).trans (Ch R X hy))).trans ?_)
  rw[lJ (by unfold fq;omega)]
  unfold eN;rfl
 unfold z6
 by_cases e:decide (x.getD c 0<r.getD c 0)=decide (r.idxOf y<x.idxOf y)
 ·rw[if_pos e]
  rw[e,beq_self_eq_true] at t1;exact(Bz t1).trans rfl
 ·rw[if_neg e]
  rw[beq_eq_false_iff_ne.mpr e] at t1;exact(BS t1).trans rfl
include hn
theorem vt:cf [aX r x]=some (.lst ((Hu n r x).map tL)):=by
 apply cg (kd:=.n) (n:=2) (t:=jv)
 unfold jv;refine(aC (ρ':=[.v (aX r x),.v (nI n)]) ((bv (d:=nI n) ((eL r _ _ ((az (x:=aX r x) (y:=.int 0) rfl rfl).trans rfl)).trans (by rw[R.len]))).trans rfl)).trans ?_
 refine bc (x6 (ds:=(KW n).map nI) (cz (n:=n) (ao rfl rfl) (by omega)) ?_ (by rw[K5];have:=yg n r x hn;omega))
 refine(jU (h:=nI) (q:=λ_=>true) (o:=λ(c:Nat)=>((KW n).filter (sQ r x c)).map λ(y:Nat)=>tL [(c:Int),(y:Int),z6 r x c y]) (KW n) λc hc=>⟨_,rfl,rfl,λ_=>?_⟩).trans ?_
 ·have hc:=La.mp hc
  refine BD (ds:=(KW n).map nI) (cz (n:=n) (ao rfl rfl) (by omega)) ?_
  refine(jU (h:=nI) (q:=sQ r x c) (o:=λ(y:Nat)=>[tL [(c:Int),(y:Int),z6 r x c y]]) (KW n) λy hy=>⟨_,rfl,?_,λ_=>?_⟩).trans ?_
  ·exact kR ((bJ (ds:=[aX r x,nI c,nI y]) rfl rfl).trans (C8 R X hc (La.mp hy)))
  ·exact yr (cD (ao rfl (ao rfl (ao ((bJ (ds:=[aX r x,nI c,nI y]) rfl rfl).trans (Ev R X hc (La.mp hy))) rfl))) (by simp))
  ·rw[lI]
 ·rw[M7.mpr (λ_ _=>rfl)]
  unfold Hu;rw[Pm];congr 2
  funext c;rw[LA];rfl
end
theorem BY {n:Nat}{r x:List Nat}(R:Ord n r)(X:Ord n x)(hn:n<=8): ∃C:Nat->List Nat,(∀s,s<n->Cy n (ci r x) s (C s))/\
 eC [aX r x]=some (.lst (((KW n).filter (iy (ci r x))).map λs=>.lst ((C s).map nI))):=by
 obtain⟨C,hC,h⟩:=pE (jF R X) (by omega)
 refine⟨C,hC,?_⟩
 apply cg (kd:=.n) (n:=3) (t:=ng)
 unfold ng;refine(aC (ρ':=[.v (aX r x),.v (aN r),.v (aN x)]) (gc (gV rfl) rfl)).trans ?_
 refine bc ((bJ (ds:=[.lst (((KW n).map (ci r x)).map nI)]) (ao ?_ rfl) rfl).trans h)
 refine bV (ds:=r.map nI) (wM rfl) (by rw[K5,R.len];omega) ?_
 have er:r.map nI=(KW n).map λy=>nI (r.getD y 0):=by
  conv=>lhs;rw[zd r,R.len,LA]
  rfl
 rw[er,LA];refine cE (KW n) λy hy=>?_
 rw[La] at hy;exact⟨_,rfl,(az (x:=aN x) (y:=nI (r.getD y 0)) rfl rfl).trans (my X (R.get hy))⟩
theorem Ci(L:List Nat)(c:Nat):mC true (nI c) (.lst (L.map nI))=some (.bl (!decide (c∈L))):=by
 unfold mC p9;dsimp only;rw[jX,if_pos (by omega),Fi]
 rfl
section
variable {n:Nat}{r x:List Nat}(R:Ord n r)(X:Ord n x)(hn:n<=6)
abbrev vD(r x:List Nat)(s:Nat)(W:List Nat)(c:Nat)(s4:Sl):aJ:=[.v (aX r x),.v (nI s),.own (W.map nI),.v (nI c),s4]
def cW:FT:=bL (av (mC true) (ai 3) (fI 2))
def bW:FS:=aD (eX (bn 2 1 la (dU (ae (ai 3) (aj)))))
 (aD (bj 4 (av aW (aR 1 (bz (ae (ak bu (ae (av aW (ai 0) (aA (.int 0))) (aj))) (aj))) (gN 5) (bL (av iD (av aW (av aW (ai 0) (aA (.int 0))) (ai 3)) (ai 5))) (ai 5)) (aA (.int 0))))
 (bj 3 (av aW (aR 1 (bz (ae (ak bu (ae (av aW (ai 0) (aA (.int 0))) (aj))) (aj))) (gN 5) (bL (av iD (av aW (av aW (ai 0) (aA (.int 1))) (ai 5)) (ai 4))) (ai 5)) (aA (.int 0)))))
include R X hn
theorem E8 {s c:Nat}{W:List Nat}{s4:Sl}(hc:c<n)(hW:W.length<=60):bW (vD r x s W c s4)=.nx (vD r x s (W++[c]) (ci r x c) (.v (nI (r.getD c 0)))):=by
 have ln: ∀W c s4,bz (ae (ak bu (ae (av aW (ai 0) (aA (.int 0))) (aj))) (aj)) (vD r x s W c s4)=some ((KW n).map nI):=λW c s4=>cz (ao ((eL r _ _ ((az (x:=aX r x) (y:=.int 0) rfl rfl).trans rfl)).trans (by rw[R.len])) rfl) (by omega)
 have q1:eX (bn 2 1 la (dU (ae (ai 3) (aj)))) (vD r x s W c s4)=.nx (vD r x s (W++[c]) c s4):=by
  refine(uf (i:=2) (b0:=W.map nI) (bs:=W.map nI) (d:=nI c) rfl (ck (ao rfl rfl)) rfl (by simp;omega)).trans ?_
  show Out.nx [.v (aX r x),.v (nI s),.own (W.map nI++[nI c]),.v (nI c),s4]=_;rw[<-List.map_singleton,<-L5]
 have q2:bj 4 (av aW (aR 1 (bz (ae (ak bu (ae (av aW (ai 0) (aA (.int 0))) (aj))) (aj))) (gN 5) (bL (av iD (av aW (av aW (ai 0) (aA (.int 0))) (ai 3)) (ai 5))) (ai 5)) (aA (.int 0))) (vD r x s (W++[c]) c s4)=.nx (vD r x s (W++[c]) c (.v (nI (r.getD c 0)))):=by
  refine(bv ((az (x:=.lst [nI (r.getD c 0)]) (y:=.int 0) (bV (ln _ _ _) (by simp;omega) ?_) rfl).trans rfl)).trans rfl
  have:=gu (g:=gN 5) (p:=bL (av iD (av aW (av aW (ai 0) (aA (.int 0))) (ai 3)) (ai 5))) (f:=ai 5) (ρ0:=vD r x s (W++[c]) c s4++K1 1 .no) (h:=nI) (o:=nI) (q:=λv=>decide (r.getD c 0=v)) (KW n) λv hv=>⟨_,rfl,bN ((az ((az ((az (x:=aX r x) (y:=.int 0) rfl rfl).trans rfl) (y:=nI c) rfl).trans (gI (by rw[R.len];exact hc))) (y:=nI v) rfl).trans (wR _ _)),λ_=>rfl⟩
  rw[this,jH (R.get hc) λi hi=>by rw[decide_eq_true_eq];exact eq_comm]
  rfl
 have q3:bj 3 (av aW (aR 1 (bz (ae (ak bu (ae (av aW (ai 0) (aA (.int 0))) (aj))) (aj))) (gN 5) (bL (av iD (av aW (av aW (ai 0) (aA (.int 1))) (ai 5)) (ai 4))) (ai 5)) (aA (.int 0))) (vD r x s (W++[c]) c (.v (nI (r.getD c 0))))=.nx (vD r x s (W++[c]) (ci r x c) (.v (nI (r.getD c 0)))):=by
  refine(bv ((az (x:=.lst [nI (ci r x c)]) (y:=.int 0) (bV (ln _ _ _) (by simp;omega) ?_) rfl).trans rfl)).trans rfl
  have:=gu (g:=gN 5) (p:=bL (av iD (av aW (av aW (ai 0) (aA (.int 1))) (ai 5)) (ai 4))) (f:=ai 5) (ρ0:=vD r x s (W++[c]) c (.v (nI (r.getD c 0)))++K1 1 .no) (h:=nI) (o:=nI) (q:=λv=>decide (x.getD v 0=r.getD c 0)) (KW n) λv hv=>⟨_,rfl,bN ((az ((az ((az (x:=aX r x) (y:=.int 1) rfl rfl).trans rfl) (y:=nI v) rfl).trans (gI (by rw[X.len];exact La.mp hv))) (y:=nI (r.getD c 0)) rfl).trans (wR _ _)),λ_=>rfl⟩
  rw[this,jH (bf X (R.get hc)).1 λi hi=>by
   rw[decide_eq_true_eq];constructor
   ·intro e
    have:=bZ X (c:=i) hi
    rw[e] at this;exact this.symm
   ·rintro rfl;exact(bf X (R.get hc)).2]
  rfl
 exact(aC q1).trans ((aC q2).trans q3)
theorem y9(s:Nat): ∀(f:Nat) (W:List Nat) (t:Nat) (s4:Sl),n<f+W.length->Wl n (ci r x) s W t-> ∃L s3 s4',pV cW bW f (vD r x s W (ci r x t) s4)=.nx [.v (aX r x),.v (nI s),.own (L.map nI),s3,s4']/\Cy n (ci r x) s L:=by
 intro f
 induction f with
 |zero=>intro W t s4 h w;exact absurd (kl w.w.nd w.w.lt) (by omega)
 |succ f ih=>
  intro W t s4 h w;have wl:=kl w.w.nd w.w.lt
  have tst:cW (vD r x s W (ci r x t) s4)=some (!decide (ci r x t∈W)):=bN ((az (x:=nI (ci r x t)) (y:=.lst (W.map nI)) rfl rfl).trans (Ci _ _))
  by_cases e:ci r x t=s
  ·refine⟨W,.v (nI (ci r x t)),s4,?_,w.done e⟩
   unfold pV;rw[tst,e,decide_eq_true w.w.hs];rfl
  ·have ni:=w.w.notin (jF R X).sg e
   obtain⟨L,s3,s4',h1,h2⟩:=ih (W++[ci r x t]) (ci r x t) (.v (nI (r.getD (ci r x t) 0))) (by rw[LJ,Mn];omega) (w.next (jF R X) e)
   refine⟨L,s3,s4',?_,h2⟩
   have tst':cW (vD r x s W (ci r x t) s4)=some true:=by rw[tst,decide_eq_false ni];rfl
   unfold pV;rw[tst'];dsimp only;rw[E8 R X hn ((jF R X).lt t (w.w.lt _ w.w.ht)) (by omega)]
   exact h1
theorem DY {s:Nat}(hs:s<n): ∃L,ie [aX r x,nI s]=some (.lst (L.map nI))/\Cy n (ci r x) s L:=by
 obtain⟨L,s3,s4',h1,h2⟩:=y9 R X hn s 63 [s] s (.v (nI (r.getD s 0))) (by simp;omega) (Wl.start hs)
 refine⟨L,?_,h2⟩
 apply cg (kd:=.n) (n:=5) (t:=mW)
 unfold mW;refine(aC (ρ':=[.v (aX r x),.v (nI s),.own [],.no,.no]) ((i9 (li (ds:=[]) rfl (by simp))).trans rfl)).trans ?_
 refine(aC (ρ':=vD r x s [] s .no) ((bv (d:=nI s) rfl).trans rfl)).trans ?_
 have st:pV cW bW 64 (vD r x s [] s .no)=.nx [.v (aX r x),.v (nI s),.own (L.map nI),s3,s4']:=by
  have tst:cW (vD r x s [] s .no)=some true:=bN ((az (x:=nI s) (y:=.lst ([].map nI)) rfl rfl).trans (Ci [] s))
  unfold pV;rw[tst];dsimp only;rw[E8 R X hn hs (by simp)]
  exact h1
 refine(aC st).trans ?_
 rfl
theorem JL {C:Nat->List Nat}(hC: ∀s,s<n->Cy n (ci r x) s (C s)){c:Nat}(hc:c<n):((KW c).filter (iy (ci r x))).any (λs=>decide (c∈C s))= !iy (ci r x) c:=by
 have H:=(jF R X).sg
 rw[LI,Rl,M0];constructor
 ·rintro⟨s,hs,hm⟩
  rw[L8,La] at hs;rw[decide_eq_true_eq] at hm;have h1:=((hC s (by omega)).c.mem c).mp hm
  have h2:=(hC s (by omega)).c.back c hm
  cases e:iy (ci r x) c with
  |false=>rfl
  |true=>exact absurd (ledB_iff.mp e s h2) (by omega)
 ·intro e
  obtain⟨m,hm1,hm2,hm3⟩:=BV H hc
  have lc: ¬led (ci r x) c:=λh=>by rw[ledB_iff.mpr h] at e;cases e
  have hb:=nz H hc hm3
  have le:m<=c:=hm2 c hb
  have ne:m≠c:=λz=>lc (z▸hm2)
  exact⟨m,L8.mpr ⟨La.mpr (by omega),ledB_iff.mpr hm2⟩,decide_eq_true (((hC m hm1).c.mem c).mpr hb)⟩
theorem zh {C:Nat->List Nat}(hC: ∀s,s<n->Cy n (ci r x) s (C s)):cS [aX r x]=some (.lst (((KW n).filter (iy (ci r x))).map λs=>.lst ((C s).map nI))):=by
 let G:Nat->List D:=λk=>((KW k).filter (iy (ci r x))).map λs=>.lst ((C s).map nI)
 have gl: ∀k,(G k).length<=k:=λk=>by
  show(Sc _ _).length<=k;rw[K5];exact LW (NH _ _) (by simp)
 have step: ∀(k:Nat) (s2:Sl),k<n->fS (fJ (fZ (ak uT (ae (aR 1 (oY (fI 1)) (gN 3) (cq) (av (mC false) (ai 2) (ai 3))) (aj))))) (eX (bn 1 1 la (dU (ae (ak (nF 2 ie) (ae (ai 0) (ae (ai 2) (aj)))) (aj))))) (skip) [.v (aX r x),.own (G k),.v (nI k)]=.nx [.v (aX r x),.own (G (k+1)),.v (nI k)]:=by
  intro k s2 hk;have cp:aR 1 (oY (fI 1)) (gN 3) (cq) (av (mC false) (ai 2) (ai 3)) [.v (aX r x),.own (G k),.v (nI k)]=some (.lst ((((KW k).filter (iy (ci r x))).map λs=>decide (k∈C s)).map D.bl)):=by
   refine bV (C5 rfl) (by have:=gl k;omega) ?_
   rw[LA];exact cE (h:=λs=>D.lst ((C s).map nI)) (o:=λs=>D.bl (decide (k∈C s))) _ λs hs=>⟨_,rfl,(az (x:=nI k) (y:=.lst ((C s).map nI)) rfl rfl).trans (Ko _ _)⟩
  have tst:fJ (fZ (ak uT (ae (aR 1 (oY (fI 1)) (gN 3) (cq) (av (mC false) (ai 2) (ai 3))) (aj)))) [.v (aX r x),.own (G k),.v (nI k)]=some (iy (ci r x) k):=by
   have:ak uT (ae (aR 1 (oY (fI 1)) (gN 3) (cq) (av (mC false) (ai 2) (ai 3))) (aj)) [.v (aX r x),.own (G k),.v (nI k)]=some (.bl (!iy (ci r x) k)):=by
    rw[bU (ao cp rfl),Do,Pt,<-JL R X hn hC hk];rfl
   have:=jB (kR this)
   rw[Bool.not_not] at this;exact this
  have gs:G (k+1)=G k++(if iy (ci r x) k=true then [D.lst ((C k).map nI)] else []):=by
   show Sc _ _=Sc _ _++_;rw[Nl,OV,L5];congr 1
   cases e:iy (ci r x) k
   ·rw[MF (by rw[e];decide)];rfl
   ·rw[MG e];rfl
  cases e:iy (ci r x) k with
  |false=>
   rw[e] at tst gs;rw[gs,if_neg (by decide),Me]
   exact xG tst
  |true=>
   rw[e] at tst gs;rw[gs,if_pos rfl];obtain⟨L,hL,hL2⟩:=DY R X hn hk
   cases hL2.uniq (hC k hk)
   exact(i0 tst).trans ((uf (i:=1) (b0:=G k) (bs:=G k) (d:=.lst ((C k).map nI)) rfl (ck (ao ((bJ (ds:=[aX r x,nI k]) rfl rfl).trans hL) rfl)) rfl (by have:=gl k;omega)).trans rfl)
 obtain⟨ρ',h,s2',rfl⟩:=pT (g:=gN 2) (b:=fS (fJ (fZ (ak uT (ae (aR 1 (oY (fI 1)) (gN 3) (cq) (av (mC false) (ai 2) (ai 3))) (aj))))) (eX (bn 1 1 la (dU (ae (ak (nF 2 ie) (ae (ai 0) (ae (ai 2) (aj)))) (aj))))) (skip)) (P:=λi ρ=> ∃s2,ρ=[.v (aX r x),.own (G i),s2]) n 0 (λi ρ _ hi hq_=>by
  obtain⟨s2,e⟩:=hq_
  subst e;rw[No] at hi;exact⟨_,_,rfl,step i s2 hi,_,rfl⟩) [.v (aX r x),.own [],.no] ⟨.no,rfl⟩
 rw[No] at h;apply cg (kd:=.n) (n:=3) (t:=lH)
 unfold lH;refine(aC (ρ':=[.v (aX r x),.own [],.no]) ((i9 (li (ds:=[]) rfl (by simp))).trans rfl)).trans ?_
 refine(aC ((ir (ds:=(KW n).map nI) (ck (cz (n:=n) (ao ((eL r _ _ ((az (x:=aX r x) (y:=.int 0) rfl rfl).trans rfl)).trans (by rw[R.len])) rfl) (by omega)))).trans (by rw[MX];exact h))).trans ?_
 show rS 1 [.v (aX r x),.own (((KW n).filter (iy (ci r x))).map λs=>.lst ((C s).map nI)),s2']=_
 rfl
end
set_option maxHeartbeats 4000000
theorem va(l:List Nat)(f:Nat->Nat)(i:Nat)(h:i<l.length):(l.map f).getD i 0=f (l.getD i 0):=by
 rw[K2,K2,Ln,K0 h];rfl
theorem Bs(l:List Nat)(i v j:Nat)(hi:i<=l.length):(uc l i v).getD j 0=if j<i then l.getD j 0 else if j=i then v else l.getD (j-1) 0:=by
 unfold uc;rw[K2,List.getElem?_append,Nt,PF hi]
 by_cases h:j<i
 ·rw[if_pos h,if_pos h,NU h,<-K2]
 ·rw[if_neg h,if_neg h]
  by_cases e:j=i
  ·subst e;rw[if_pos rfl,TR];rfl
  ·rw[if_neg e,show j-i=(j-i-1)+1 by omega,MC,List.getElem?_drop,<-K2,show i+(j-i-1)=j-1 by omega]
theorem nG {n:Nat}{l:List Nat}(hl:l.length=n)(row to col v j:Nat)(hc:col<=n)(hj:j<=n):(jt l row to col v).getD j 0=if j=col then v else ki row to (l.getD (if j<col then j else j-1) 0):=by
 unfold jt;rw[Bs _ _ _ _ (by rw[K5];omega)]
 by_cases h:j<col
 ·rw[if_pos h,if_neg (by omega),if_pos h,va _ _ _ (by omega)]
 ·rw[if_neg h]
  by_cases e:j=col
  ·rw[if_pos e,if_pos e]
  ·rw[if_neg e,if_neg e,if_neg h,va _ _ _ (by omega)]
theorem uw(l:List Nat)(row to col v:Nat):(jt l row to col v).length=l.length+1:=by unfold jt;rw[CS,K5]
def dn(row v:Nat):Nat:=if row<v then v-1 else v
theorem Dq: ∀n,n<=7-> ∀col,col<n->((KW n).filter λi=> !decide (i=col))=(KW (n-1)).map λi=>if i<col then i else i+1:=by decide
theorem uK {n:Nat}{l:List Nat}(hl:l.length=n)(hn:n<=7){row col:Nat}(hc:col<n):gX l row col=(KW (n-1)).map λi=>dn row (l.getD (if i<col then i else i+1) 0):=by
 unfold gX;rw[hl,Dq n hn col hc,LA];rfl
theorem zW {n:Nat}{l:List Nat}(hl:l.length=n)(hn:n<=7){row col:Nat}(hc:col<n):(gX l row col).length=n-1:=by rw[uK hl hn hc,K5,Mh]
theorem r8 {n:Nat}{l:List Nat}(hl:l.length=n)(hn:n<=7){row col i:Nat}(hc:col<n)(hi:i<n-1):(gX l row col).getD i 0=dn row (l.getD (if i<col then i else i+1) 0):=by
 rw[uK hl hn hc,K2,Ln,LU hi];rfl
theorem vP {n:Nat}{l:List Nat}(O:Ord n l)(hn:n<=6){row to col v:Nat}(hc:col<n)(h:(to=row/\v=row+1)\/(to=row+1/\v=row))(hv:l.getD col 0=v):jt (gX l row col) row to col v=l:=by
 have hl:=O.len
 have hj:=zW hl (show n<=7 by omega) (row:=row) hc
 refine vh (by rw[uw,hj,hl];omega) λi hi=>?_
 rw[uw,hj] at hi;rw[nG hj _ _ _ _ _ (by omega) (by omega)]
 by_cases e:i=col
 ·rw[if_pos e,e,hv]
 ·rw[if_neg e]
  have hne:l.getD i 0≠v:=λz=>e (O.inj (by omega) hc (z.trans hv.symm))
  have key:l.getD (if(if i<col then i else i-1)<col then(if i<col then i else i-1) else(if i<col then i else i-1)+1) 0=l.getD i 0:=by
   by_cases e2:i<col
   ·rw[if_pos e2,if_pos e2]
   ·rw[if_neg e2,if_neg (by omega),show i-1+1=i by omega]
  rw[r8 hl (by omega) hc (by split<;>omega),key]
  unfold dn ki;split<;>split<;>(try split)<;>omega
theorem zu(r x:List Nat)(c q w:Nat):iE r x c q w=true↔(r.getD (fH c w) 0=i4 q w/\x.getD (fH c w) 0=jf q w)/\x.getD (oh c w) 0=i4 q w/\r.getD (oh c w) 0≠jf q w:=by
 unfold iE;simp only[Lk,decide_eq_true_eq,M0,decide_eq_false_iff_not]
theorem AM {n:Nat}{r x:List Nat}(hr:r.length=n){c:Int}(h:mD r x c=true): ∃c':Nat,c=c'/\c'+1<n/\w8 r x c'=true:=by
 unfold mD at h;rw[Lk,Lk,decide_eq_true_eq,decide_eq_true_eq] at h;exact⟨c.toNat,by omega,by omega,h.2⟩
set_option maxHeartbeats 1000000
def yd(n:Nat)(r x:List Nat)(ln:Nat->Nat):Prop:= ∀c,c<n->ln (ci r x c)=ln c
theorem mt {n:Nat}{o:List Nat}(O:Ord n o){c:Nat}(hc:c<n):(bX o).idxOf c=o.getD c 0:=by
 have h:=bZ O.tip (O.get hc)
 rw[ud O hc] at h;exact h
section
variable {n:Nat}{r x:List Nat}{ln:Nat->Nat}(R:Ord n r)(X:Ord n x)(hl:yd n r x ln)
include R X hl
theorem D4:yd n (bX r) (bX x) (λy=>ln (r.idxOf y)):=λy hy=>by
 obtain⟨h1,h2⟩:=bf R hy
 have e:ci (bX r) (bX x) y=x.getD (r.idxOf y) 0:=by
  unfold ci;rw[gF R hy,mt X h1]
 show ln (r.idxOf (ci (bX r) (bX x) y))=ln (r.idxOf y);rw[e,<-lM R hl (X.get h1),bZ X h1]
theorem Co(a b:Nat):gQ n (bX r) (bX x) (λy=>ln (r.idxOf y)) a b=gQ n r x ln a b:=by
 rw[qR R X hl a b];unfold gQ;rw[pS];refine aU λc hc=>aU λy hy=>?_
 show bx (ln (r.idxOf y)=a)*(bx (ln (r.idxOf ((bX r).idxOf c))=b)*CW (bX r) (bX x) y c)=_;rw[mt R hc,bZ R hc];have e:CW (bX r) (bX x) y c=CW r x c y:=by
  have e1:sQ (bX r) (bX x) y c=sQ r x c y:=by
   unfold sQ;rw[gF R hy,gF X hy,mt R hc,mt X hc,Bool.and_comm]
  unfold CW;rw[e1]
  by_cases h:sQ r x c y=true
  ·rw[if_pos h,if_pos h]
   unfold z6;rw[gF R hy,gF X hy,mt R hc,mt X hc];unfold sQ vW at h;simp only[Lk,decide_eq_true_eq] at h;have e2:(decide (x.idxOf y<r.idxOf y)=decide (r.getD c 0<x.getD c 0))↔(decide (x.getD c 0<r.getD c 0)=decide (r.idxOf y<x.idxOf y)):=by
    simp only[decide_eq_decide];omega
   by_cases z:decide (x.getD c 0<r.getD c 0)=decide (r.idxOf y<x.idxOf y)
   ·rw[if_pos z,if_pos (e2.mpr z)]
   ·rw[if_neg z,if_neg (λw=>z (e2.mp w))]
  ·rw[if_neg h,if_neg h]
 rw[e]
 generalize bx (ln c=b)=B
 generalize bx (ln (r.idxOf y)=a)=A
 generalize CW r x c y=S
 rw[<-SK,<-SK,TQ A B]
end
def jJ(c i:Nat):Nat:=if i=c then c+1 else if i=c+1 then c else i
theorem jP(c i:Nat):jJ c (jJ c i)=i:=by unfold jJ;split<;>split<;>(try split)<;>omega
theorem lO {n c i:Nat}(hc:c+1<n)(hi:i<n):jJ c i<n:=by unfold jJ;split<;>(try split)<;>omega
theorem lS {n:Nat}{o:List Nat}(ho:o.length=n){c:Nat}(hc:c+1<n)(i:Nat):(lF o c (c+1)).getD i 0=o.getD (jJ c i) 0:=by
 rw[Ds (by omega) (by omega)]
 unfold jJ
 by_cases h1:i=c+1
 ·rw[if_pos h1,if_neg (by omega),if_pos h1]
 ·rw[if_neg h1]
  by_cases h2:i=c
  ·rw[if_pos h2,if_pos h2]
  ·rw[if_neg h2,if_neg h2,if_neg h1]
theorem Aa {n:Nat}{o:List Nat}(O:Ord n o){c y:Nat}(hc:c+1<n)(hy:y<n):(lF o c (c+1)).idxOf y=jJ c (o.idxOf y):=by
 obtain⟨h1,h2⟩:=bf O hy
 have O':=O.exM (a:=c) (b:=c+1) (by omega) hc
 have e:=bZ O' (c:=jJ c (o.idxOf y)) (lO hc h1)
 rw[lS O.len hc,jP,h2] at e;exact e
theorem Cq {n c:Nat}(hc:c+1<n)(F:Nat->Int):sm n (λi=>F (jJ c i))=sm n F:=by
 have O:Ord n (KW n):=⟨Om _⟩
 have O':=O.exM (a:=c) (b:=c+1) (by omega) hc
 have p:=sH (O'.perm.map F)
 unfold sm;rw[<-p];congr 1
 have e:lF (KW n) c (c+1)=(KW n).map (jJ c):=by
  apply Q5
  intro i
  by_cases hi:i<n
  ·have h1:(lF (KW n) c (c+1))[i]? =some ((lF (KW n) c (c+1)).getD i 0):=by
    rw[K2,K0 (by rw[O'.len];exact hi)];rfl
   rw[h1,lS (n:=n) (by simp) hc,Ln,LU hi,K2,LU (lO hc hi)];rfl
  ·rw[LP (by rw[O'.len];omega),LP (by simp;omega)]
 rw[e,LA];rfl
section
variable {n:Nat}{r x:List Nat}{ln:Nat->Nat}(R:Ord n r)(X:Ord n x)(hl:yd n r x ln){c:Nat}(hc:c+1<n)
include R X hl hc
theorem CG:yd n (lF r c (c+1)) (lF x c (c+1)) (λi=>ln (jJ c i)):=λi hi=>by
 have h1:=lO hc hi
 show ln (jJ c (ci (lF r c (c+1)) (lF x c (c+1)) i))=ln (jJ c i);unfold ci;rw[lS R.len hc,Aa X hc (R.get h1),jP];exact hl _ h1
theorem EL(hm:w8 r x c=true){a b:Nat}(ne:a≠b):gQ n (lF r c (c+1)) (lF x c (c+1)) (λi=>ln (jJ c i)) a b=gQ n r x ln a b:=by
 ·have R':=R.exM (a:=c) (b:=c+1) (by omega) hc
  have X':=X.exM (a:=c) (b:=c+1) (by omega) hc
  rw[jK (ln:=λi=>ln (jJ c i)) R' X' (CG R X hl hc) ne,jK R X hl ne]
  congr 1
  have k: ∀i j,kI (lF r c (c+1)) (lF x c (c+1)) i j=kI r x (jJ c i) (jJ c j):=λi j=>by
   unfold kI uI;rw[lS R.len hc,lS X.len hc,lS R.len hc,lS X.len hc]
  have e1:sm n (λi=>sm n λj=>bx (ln (jJ c i)=a)*(bx (ln (jJ c j)=b)*(bx (i<j)*kI (lF r c (c+1)) (lF x c (c+1)) i j)))=sm n (λi=>sm n λj=>bx (ln i=a)*(bx (ln j=b)*(bx (jJ c i<jJ c j)*kI r x i j))):=by
   rw[<-Cq hc λi=>sm n λj=>bx (ln i=a)*(bx (ln j=b)*(bx (jJ c i<jJ c j)*kI r x i j))]
   refine aU λi _=>?_
   show _=sm n λj=>bx (ln (jJ c i)=a)*(bx (ln j=b)*(bx (jJ c (jJ c i)<jJ c j)*kI r x (jJ c i) j))
   rw[<-Cq hc λj=>bx (ln (jJ c i)=a)*(bx (ln j=b)*(bx (jJ c (jJ c i)<jJ c j)*kI r x (jJ c i) j))]
   refine aU λj _=>?_
   rw[k,jP,jP]
  refine e1.trans (aU λi hi=>aU λj hj=>?_)
  by_cases z:(i=c/\j=c+1)\/(i=c+1/\j=c)
  ·have k0:kI r x c (c+1)=0:=by
    unfold w8 at hm;unfold kI uI
    generalize r.getD c 0=p at*
    generalize x.getD c 0=q at*
    generalize r.getD (c+1) 0=u at*
    generalize x.getD (c+1) 0=v at*
    unfold vW at hm;simp only[Lk,M0,Bool.or_eq_false_iff,decide_eq_false_iff_not,beq_iff_eq] at hm;obtain⟨⟨⟨m1,m2⟩,m3,m4⟩,m5⟩:=hm
    rw[LI] at m5;simp only[Lk,decide_eq_true_eq] at m5;unfold bx
    by_cases a1:v<p<;>by_cases a2:v<q<;>by_cases a3:u<p<;>by_cases a4:u<q<;>simp only[a1,a2,a3,a4,if_true,if_false]<;>omega
   rcases z with⟨rfl,rfl⟩|⟨rfl,rfl⟩
   ·rw[k0];simp
   ·by_cases g1:ln (j+1)=a
    ·by_cases g2:ln j=b
     ·have g3:ln j≠ln (j+1):=by rw[g1,g2];exact Lw ne
      rw[tZ R X hl (c:=j) (d:=j+1) (by omega) (by omega) g3,k0];simp
     ·have:bx (ln j=b)=0:=if_neg g2
      rw[this];simp
    ·have:bx (ln (j+1)=a)=0:=if_neg g1
     rw[this];simp
  ·have:(jJ c i<jJ c j)↔(i<j):=by unfold jJ;split<;>split<;>(try split)<;>(try split)<;>omega
   have e:bx (jJ c i<jJ c j)=bx (i<j):=by unfold bx;simp[this]
   rw[e]
end
section
variable {n:Nat}{r x:List Nat}{ln:Nat->Nat}(R:Ord n r)(X:Ord n x)(hl:yd n r x ln)
include R X hl
theorem CF(y b:Nat):sm n (λd=>bx (ln d=b)*kI r x y d)=0:=by
 have e:sm n (λd=>bx (ln d=b)*kI r x y d)=sm n (λd=>bx (ln d=b)*uI r x y (x.getD d 0)) -sm n (λd=>bx (ln d=b)*uI r x y (r.getD d 0)):=by
  rw[<-oF];refine aU λd _=>?_
  unfold kI;rw[OF]
 rw[e,<-lR X (λv d=>bx (ln d=b)*uI r x y v),<-lR R (λv d=>bx (ln d=b)*uI r x y v),RD]
 exact aU λv hv=>by rw[lM R hl hv]
end
theorem DK {n:Nat}(h0:0<n)(z:Int): ∃(o:List Nat) (q:Nat->Int),Ord n o/\(∀(l:List Nat),l.length=n-> ∀i,i<n->(dQ l z).getD i 0=l.getD (o.getD i 0) 0)/\ ∀c,c<n->((o.idxOf c:Nat):Int)=c+z+n*q c:=by
 have O0:Ord n (KW n):=⟨Om _⟩
 have O:=O0.rot h0 z
 have get: ∀i,i<n->(dQ (KW n) z).getD i 0=(((i:Int) -z) % n).toNat:=λi hi=>by
  have hm:=dh (i:=(i:Int) -z) (m:=n) (by omega)
  rw[p8 _ _ (by simpa using hi),Mh,K2,LU (by omega)];rfl
 refine⟨dQ (KW n) z,λc=>(((dQ (KW n) z).idxOf c:Nat) -z:Int) / n,O,λl hl i hi=>?_,λc hc=>?_⟩
 ·rw[p8 _ _ (by omega),get i hi,hl]
 ·obtain⟨h1,h2⟩:=bf O hc
  rw[get _ h1] at h2;dsimp only
  generalize (dQ (KW n) z).idxOf c=i at*
  have hm:=dh (i:=(i:Int) -z) (m:=n) (by omega)
  have h3:((i:Int) -z) % n=c:=by omega
  have h4:=Int.mul_ediv_add_emod ((i:Int) -z) n
  show(i:Int)=c+z+n*(((i:Int) -z) / n);rw[h3] at h4;omega
section
variable {n:Nat}{r x:List Nat}{ln:Nat->Nat}(R:Ord n r)(X:Ord n x)(hl:yd n r x ln)(h0:0<n)(z:Int)
include R X hl h0
theorem Ca {o:List Nat}{q:Nat->Int}(O:Ord n o)(get: ∀(l:List Nat),l.length=n-> ∀i,i<n->(dQ l z).getD i 0=l.getD (o.getD i 0) 0)(psi: ∀c,c<n->((o.idxOf c:Nat):Int)=c+z+n*q c):(∀y,y<n->(dQ x z).idxOf y=o.idxOf (x.idxOf y))/\yd n (dQ r z) (dQ x z) (λi=>ln (o.getD i 0))/\ ∀a b,a≠b->gQ n (dQ r z) (dQ x z) (λi=>ln (o.getD i 0)) a b=gQ n r x ln a b:=by
 have R':=R.rot h0 z
 have X':=X.rot h0 z
 have idx: ∀y,y<n->(dQ x z).idxOf y=o.idxOf (x.idxOf y):=λy hy=>by
  obtain⟨h1,h2⟩:=bf X hy
  obtain⟨h3,h4⟩:=bf O h1
  have e:=bZ X' h3
  rw[get x X.len _ h3,h4,h2] at e;exact e
 have lab:yd n (dQ r z) (dQ x z) (λi=>ln (o.getD i 0)):=λi hi=>by
  have h1:=O.get hi
  show ln (o.getD (ci (dQ r z) (dQ x z) i) 0)=ln (o.getD i 0);unfold ci;rw[get r R.len i hi,idx _ (R.get h1)];have h2:=(bf X (R.get h1)).1
  rw[(bf O h2).2];exact hl _ h1
 refine⟨idx,lab,λa b ne=>?_⟩
 rw[jK (ln:=λi=>ln (o.getD i 0)) R' X' lab ne,jK R X hl ne]
 congr 1
 have k: ∀i j,i<n->j<n->kI (dQ r z) (dQ x z) i j=kI r x (o.getD i 0) (o.getD j 0):=λi j hi hj=>by
  unfold kI uI;rw[get r R.len i hi,get x X.len i hi,get r R.len j hj,get x X.len j hj]
 have e1:sm n (λi=>sm n λj=>bx (ln (o.getD i 0)=a)*(bx (ln (o.getD j 0)=b)*(bx (i<j)*kI (dQ r z) (dQ x z) i j)))=sm n (λc=>sm n λd=>bx (ln c=a)*(bx (ln d=b)*(bx (o.idxOf c<o.idxOf d)*kI r x c d))):=by
  rw[lR O (λc i=>sm n λd=>bx (ln c=a)*(bx (ln d=b)*(bx (i<o.idxOf d)*kI r x c d)))]
  refine aU λi hi=>?_
  rw[lR O (λd j=>bx (ln (o.getD i 0)=a)*(bx (ln d=b)*(bx (i<j)*kI r x (o.getD i 0) d)))]
  exact aU λj hj=>by rw[k i j hi hj]
 refine e1.trans ?_
 have e2:sm n (λc=>sm n λd=>bx (ln c=a)*(bx (ln d=b)*(bx (o.idxOf c<o.idxOf d)*kI r x c d)))=sm n (λc=>sm n λd=>bx (ln c=a)*(bx (ln d=b)*(bx (c<d)*kI r x c d)))+(sm n (λc=>sm n λd=>(bx (ln c=a)* -q c)*(bx (ln d=b)*kI r x c d))+sm n (λc=>sm n λd=>(bx (ln d=b)* -q d)*(bx (ln c=a)*kI r x d c))):=by
  rw[<-kW,<-kW];refine aU λc hc=>?_
  rw[<-kW,<-kW];refine aU λd hd=>?_
  by_cases g1:ln c=a
  ·by_cases g2:ln d=b
   ·have g3:ln c≠ln d:=by rw[g1,g2];exact ne
    have g4:=(yC R X hl hc hd g3).1
    rw[tZ R X hl hc hd g3]
    generalize kI r x c d=K
    have p1:=psi c hc
    have p2:=psi d hd
    have b1:=(bf O hc).1
    have b2:=(bf O hd).1
    generalize o.idxOf c=u at*
    generalize o.idxOf d=v at*
    have dd:(v:Int) -u=d-c+n*(q d-q c):=by rw[OF];omega
    have c1:q d-q c<2:=by
     refine WE.mp λw=>?_
     have:=MY w (show(0:Int)<=n by omega)
     omega
    have c2: -2<q d-q c:=by
     refine WE.mp λw=>?_
     have:=MY w (show(0:Int)<=n by omega)
     omega
    have key:bx (u<v)=bx (c<d) -q c+q d:=by
     unfold bx;rcases(by omega:q d-q c=0\/q d-q c=1\/q d-q c= -1) with w|w|w<;>rw[w] at dd<;>by_cases a1:u<v<;>by_cases a2:c<d<;>simp only[a1,a2,if_true,if_false]<;>omega
    rw[key];have h1:bx (ln c=a)=1:=if_pos g1
    have h2:bx (ln d=b)=1:=if_pos g2
    rw[h1,h2];simp only[Int.one_mul,Int.add_mul,Ve,Int.neg_mul,P7,Int.neg_neg];omega
   ·have:bx (ln d=b)=0:=if_neg g2
    rw[this];simp
  ·have:bx (ln c=a)=0:=if_neg g1
   rw[this];simp
 have z1:sm n (λc=>sm n λd=>(bx (ln c=a)* -q c)*(bx (ln d=b)*kI r x c d))=0:=by
  rw[<-mk n];refine aU λc _=>?_
  rw[wg,CF R X hl,TU]
 have z2:sm n (λc=>sm n λd=>(bx (ln d=b)* -q d)*(bx (ln c=a)*kI r x d c))=0:=by
  rw[pS,<-mk n];refine aU λd _=>?_
  rw[wg,CF R X hl,TU]
 rw[e2,z1,z2];omega
end
def gq(e i:Nat):Nat:=if i<e then i else i+1
theorem j3 {n e i:Nat}(hi:i<n):gq e i<n+1:=by unfold gq;split<;>omega
theorem wP(e i:Nat):gq e i≠e:=by unfold gq;split<;>omega
theorem Ag(e i j:Nat):gq e i<gq e j↔i<j:=by unfold gq;split<;>split<;>omega
theorem Dn {e i j:Nat}(h:gq e i=gq e j):i=j:=by unfold gq at h;split at h<;>split at h<;>omega
theorem kK {n e j:Nat}(hj:j<n+1)(he:e<=n)(ne:j≠e): ∃i,i<n/\gq e i=j:=by
 by_cases h:j<e
 ·exact⟨j,by omega,by unfold gq;rw[if_pos h]⟩
 ·exact⟨j-1,by omega,by unfold gq;rw[if_neg (by omega)];omega⟩
theorem wN {F:Nat->Int}{e:Nat}: ∀ {n:Nat},e<=n->sm (n+1) F=sm n (λi=>F (gq e i))+F e:=by
 intro n
 induction n with
 |zero=>intro he;have:e=0:=by omega
        subst this;rw[eR];rfl
 |succ n ih=>
  intro he
  by_cases h:e=n+1
  ·subst h
   rw[eR];congr 1
   exact aU λi hi=>by unfold gq;rw[if_pos (by omega)]
  ·rw[eR,ih (by omega),eR]
   have:gq e n=n+1:=by unfold gq;rw[if_neg (by omega)]
   rw[this];omega
structure Put(n:Nat)(r x r' x':List Nat)(c e p fr fu:Nat):Prop where
 hc:c<n
 he:e<=n
 hp:p=x.getD c 0
 hf:(fr=p/\fu=p+1)\/(fr=p+1/\fu=p)
 r1: ∀i,i<n->r'.getD (gq e i) 0=ki p fr (r.getD i 0)
 x1: ∀i,i<n->x'.getD (gq e i) 0=ki p fu (x.getD i 0)
 re:r'.getD e 0=fu
 xe:x'.getD e 0=fr
def inv(e j:Nat):Nat:=if j<e then j else j-1
theorem yB(e i:Nat):inv e (gq e i)=i:=by
 unfold inv gq
 by_cases h:i<e
 ·rw[if_pos h,if_pos h]
 ·rw[if_neg h,if_neg (by omega)];omega
def CZ(ln:Nat->Nat)(c e j:Nat):Nat:=if j=e then ln c else ln (inv e j)
theorem ph(ln:Nat->Nat)(c e:Nat):CZ ln c e e=ln c:=if_pos rfl
theorem kF(ln:Nat->Nat)(c e i:Nat):CZ ln c e (gq e i)=ln i:=by unfold CZ;rw[if_neg (wP e i),yB]
section
variable {n:Nat}{r x r' x':List Nat}{ln:Nat->Nat}{c e p fr fu:Nat}(R:Ord n r)(X:Ord n x)(R':Ord (n+1) r')(X':Ord (n+1) x')(hl:yd n r x ln)(P:Put n r x r' x' c e p fr fu)
include R X R' X' hl P
theorem x4:yd (n+1) r' x' (CZ ln c e):=λj hj=>by
 have he:=P.he
 by_cases h:j=e
 ·subst h
  have e1:ci r' x' j=gq j c:=by
   unfold ci;rw[P.re];have:=bZ X' (j3 (e:=j) P.hc)
   rw[P.x1 c P.hc,<-P.hp] at this;have e2:ki p fu p=fu:=by unfold ki;rw[if_pos rfl]
   rw[e2] at this;exact this
  rw[e1,kF,ph]
 ·obtain⟨i,hi,rfl⟩:=kK hj he h
  rw[kF]
  by_cases h2:r.getD i 0=p
  ·have e1:ci r' x' (gq e i)=e:=by
    unfold ci;rw[P.r1 i hi,h2];have e2:ki p fr p=fr:=by unfold ki;rw[if_pos rfl]
    have:=bZ X' (c:=e) (by omega)
    rw[P.xe] at this;rw[e2,this]
   rw[e1,ph];have:=hl i hi
   unfold ci at this;rw[h2,P.hp,bZ X P.hc] at this;exact this
  ·obtain⟨h3,h4⟩:=bf X (R.get hi)
   have e1:ci r' x' (gq e i)=gq e (ci r x i):=by
    unfold ci;rw[P.r1 i hi];have:=bZ X' (j3 (e:=e) h3)
    rw[P.x1 _ h3,h4] at this;have e2:ki p fr (r.getD i 0)=ki p fu (r.getD i 0):=by unfold ki;rw[if_neg h2,if_neg h2]
    rw[e2];exact this
   rw[e1,kF];exact hl i hi
theorem Fa {j:Nat}(hj:j<n)(h:ln j≠ln c):r.getD j 0≠p/\x.getD j 0≠p:=by
 refine⟨λe1=>h ?_,λe1=>h ?_⟩
 ·have:=hl j hj
  unfold ci at this;rw[e1,P.hp,bZ X P.hc] at this;exact this.symm
 ·rw[P.hp] at e1
  rw[X.inj hj P.hc e1]
theorem uS {a b:Nat}(ne:a≠b):gQ (n+1) r' x' (CZ ln c e) a b=gQ n r x ln a b:=by
 have he:=P.he
 have hf:=P.hf
 rw[jK (ln:=CZ ln c e) R' X' (x4 R X R' X' hl P) ne,jK R X hl ne];congr 1
 rw[wN he];have z1:sm (n+1) (λd=>bx (CZ ln c e e=a)*(bx (CZ ln c e d=b)*(bx (e<d)*kI r' x' e d)))=0:=by
  rw[wN he,ph];have:bx (ln c=a)*(bx (ln c=b)*(bx (e<e)*kI r' x' e e))=0:=by
   have:bx (e<e)=0:=if_neg (by omega)
   rw[this];simp
  rw[this];have:sm n (λi=>bx (ln c=a)*(bx (CZ ln c e (gq e i)=b)*(bx (e<gq e i)*kI r' x' e (gq e i))))=0:=by
   rw[<-mk n];refine aU λj hj=>?_
   rw[kF]
   by_cases g1:ln c=a
   ·by_cases g2:ln j=b
    ·obtain⟨h1,h2⟩:=Fa R X R' X' hl P hj (by rw[g1,g2];exact Lw ne)
     have:kI r' x' e (gq e j)=0:=by
      unfold kI uI;rw[P.re,P.xe,P.r1 j hj,P.x1 j hj]
      generalize r.getD j 0=u at*
      generalize x.getD j 0=v at*
      unfold ki bx;rw[if_neg h1,if_neg h2]
      by_cases a1:p<u<;>by_cases a2:p<v<;>simp only[a1,a2,if_true,if_false]<;>rcases hf with⟨rfl,rfl⟩|⟨rfl,rfl⟩<;>(repeat' split)<;>omega
     rw[this];simp
    ·have:bx (ln j=b)=0:=if_neg g2
     rw[this];simp
   ·have:bx (ln c=a)=0:=if_neg g1
    rw[this];simp
  rw[this];rfl
 rw[z1,TV];refine aU λi hi=>?_
 rw[wN he,kF,ph];have z2:bx (ln i=a)*(bx (ln c=b)*(bx (gq e i<e)*kI r' x' (gq e i) e))=0:=by
  by_cases g1:ln i=a
  ·by_cases g2:ln c=b
   ·obtain⟨h1,h2⟩:=Fa R X R' X' hl P hi (by rw[g1,g2];exact ne)
    have:kI r' x' (gq e i) e=0:=by
     unfold kI uI;rw[P.re,P.xe,P.r1 i hi,P.x1 i hi]
     generalize r.getD i 0=u at*
     generalize x.getD i 0=v at*
     unfold ki bx;rw[if_neg h1,if_neg h2]
     by_cases a1:p<u<;>by_cases a2:p<v<;>simp only[a1,a2,if_true,if_false]<;>rcases hf with⟨rfl,rfl⟩|⟨rfl,rfl⟩<;>(repeat' split)<;>omega
    rw[this];simp
   ·have:bx (ln c=b)=0:=if_neg g2
    rw[this];simp
  ·have:bx (ln i=a)=0:=if_neg g1
   rw[this];simp
 rw[z2,TV];refine aU λj hj=>?_
 rw[kF]
 by_cases g1:ln i=a
 ·by_cases g2:ln j=b
  ·have g3:ln i≠ln j:=by rw[g1,g2];exact ne
   obtain⟨_,n1,n2,n3,n4⟩:=yC R X hl hi hj g3
   have e1:bx (gq e i<gq e j)=bx (i<j):=by unfold bx;simp[Ag]
   have e2:kI r' x' (gq e i) (gq e j)=kI r x i j:=by
    unfold kI uI;rw[P.r1 i hi,P.x1 i hi,P.r1 j hj,P.x1 j hj]
    generalize r.getD i 0=s at*
    generalize x.getD i 0=t at*
    generalize r.getD j 0=u at*
    generalize x.getD j 0=v at*
    have cmp: ∀(y w f g:Nat),y≠w->((f=p/\g=p+1)\/(f=p+1/\g=p)\/f=g)->(f=p\/f=p+1)->bx (ki p f y<ki p g w)=bx (y<w):=λy w f g h1 h2 h3=>by
     unfold ki bx
     by_cases b1:y=p<;>by_cases b2:w=p<;>by_cases b3:p<y<;>by_cases b4:p<w<;>by_cases b5:y<w<;>simp only[b1,b2,b3,b4,b5,if_true,if_false]<;>(repeat' split)<;>omega
    rw[cmp v s fu fr (Lw n4) (by omega) (by omega),cmp v t fu fu (Lw n2) (by omega) (by omega),cmp u s fr fr (Lw n1) (by omega) (by omega),cmp u t fr fu (Lw n3) (by omega) (by omega)]
   rw[e1,e2]
  ·have:bx (ln j=b)=0:=if_neg g2
   rw[this];simp
 ·have:bx (ln i=a)=0:=if_neg g1
  rw[this];simp
end
theorem BF {n:Nat}{r x:List Nat}(R:Ord n r)(X:Ord n x){c w:Nat}(hc:c<n)(hw:w<4):Put n r x (jt r (x.getD c 0) (jf (x.getD c 0) w) (fH c w) (i4 (x.getD c 0) w)) (jt x (x.getD c 0) (i4 (x.getD c 0) w) (fH c w) (jf (x.getD c 0) w)) c (fH c w) (x.getD c 0) (jf (x.getD c 0) w) (i4 (x.getD c 0) w):=by
 have he:fH c w<=n:=by unfold fH;omega
 have g: ∀(l:List Nat),l.length=n-> ∀(to v i:Nat),i<n->(jt l (x.getD c 0) to (fH c w) v).getD (gq (fH c w) i) 0=ki (x.getD c 0) to (l.getD i 0):=λl hl to v i hi=>by
  rw[nG hl _ _ _ _ _ he (by have:=j3 (e:=fH c w) hi;omega),if_neg (wP _ _)]
  have:=yB (fH c w) i
  unfold inv at this;rw[this]
 refine⟨hc,he,rfl,?_,λi hi=>g r R.len _ _ i hi,λi hi=>g x X.len _ _ i hi,?_,?_⟩
 ·unfold jf i4
  rcases(by omega:w / 2=0\/w / 2=1) with h|h<;>rw[h]<;>omega
 ·rw[nG R.len _ _ _ _ _ he he,if_pos rfl]
 ·rw[nG X.len _ _ _ _ _ he he,if_pos rfl]
def Ku(n:Nat)(r x:List Nat)(ln:Nat->Nat):Prop:= ∀c d,c<n->d<n->ln c=ln d->oj (ci r x) c d
def Car(n:Nat)(r x:List Nat)(n':Nat)(r' x':List Nat):Prop:= ∀ln,yd n r x ln->Ku n r x ln-> ∃ln',yd n' r' x' ln'/\Ku n' r' x' ln'/\(∀v,(∃c,c<n/\ln c=v)↔ ∃c,c<n'/\ln' c=v)/\ ∀a b,a≠b->gQ n' r' x' ln' a b=gQ n r x ln a b
theorem Car.refl(n:Nat)(r x:List Nat):Car n r x n r x:=λln h1 h2=>⟨ln,h1,h2,λ_=>Iff.rfl,λ_ _ _=>rfl⟩
theorem Car.trans {n n' n'':Nat}{r x r' x' r'' x'':List Nat}(h1:Car n r x n' r' x')(h2:Car n' r' x' n'' r'' x''):Car n r x n'' r'' x'':=λln l s=>by
 obtain⟨ln',l',s',v',t'⟩:=h1 ln l s
 obtain⟨ln'',l'',s'',v'',t''⟩:=h2 ln' l' s'
 exact⟨ln'',l'',s'',λv=>(v' v).trans (v'' v),λa b ne=>(t'' a b ne).trans (t' a b ne)⟩
theorem yM {n:Nat}{S S' g:Nat->Nat}(H:Sh n S)(h: ∀i,i<n->S' (g i)=g (S i)){c d:Nat}(hc:c<n)(w:oj S c d):oj S' (g c) (g d):=by
 obtain⟨k,rfl⟩:=w
 refine⟨k,?_⟩
 induction k with
 |zero=>rfl
 |succ k ih=>
  show S' (mO S' k (g c))=g (S (mO S k c));rw[ih,h _ (qI H hc k)]
section
variable {n:Nat}{r x:List Nat}(R:Ord n r)(X:Ord n x)
include R X
theorem nH:Car n r x n (bX r) (bX x):=λln l s=>by
 have F:=Id R X
 refine⟨λy=>ln (r.idxOf y),D4 R X l,λy y' hy hy' e=>?_,λv=>⟨?_,?_⟩,λa b _=>Co R X l a b⟩
 ·obtain⟨h1,h2⟩:=bf R hy
  obtain⟨h3,h4⟩:=bf R hy'
  obtain⟨k,hk⟩:=s _ _ h3 h1 e.symm
  have:=F.step h3 k 0
  rw[Nat.add_zero,hk] at this;rw[<-h2,<-h4];exact⟨k,this⟩
 ·rintro⟨c,hc,e⟩
  exact⟨r.getD c 0,R.get hc,by show ln (r.idxOf (r.getD c 0))=v;rw[bZ R hc];exact e⟩
 ·rintro⟨y,hy,e⟩
  exact⟨r.idxOf y,(bf R hy).1,e⟩
theorem BX {c:Nat}(hc:c+1<n)(hm:w8 r x c=true):Car n r x n (lF r c (c+1)) (lF x c (c+1)):=λln l s=>by
 refine⟨λi=>ln (jJ c i),CG R X l hc,λi j hi hj e=>?_,λv=>⟨?_,?_⟩,λa b ne=>EL R X l hc hm ne⟩
 ·have h:=s _ _ (lO hc hi) (lO hc hj) e
  have:=yM (S':=ci (lF r c (c+1)) (lF x c (c+1))) (g:=jJ c) (jF R X) (λi hi=>by
   unfold ci;rw[lS R.len hc,jP,Aa X hc (R.get hi)]) (lO hc hi) h
  rw[jP,jP] at this;exact this
 ·rintro⟨i,hi,e⟩
  exact⟨jJ c i,lO hc hi,by show ln (jJ c (jJ c i))=v;rw[jP];exact e⟩
 ·rintro⟨i,hi,e⟩
  exact⟨jJ c i,lO hc hi,e⟩
theorem yv(h0:0<n)(z:Int):Car n r x n (dQ r z) (dQ x z):=λln l s=>by
 obtain⟨o,q,O,get,psi⟩:=DK h0 z
 obtain⟨idx,lab,sums⟩:=Ca R X l h0 z O get psi
 refine⟨λi=>ln (o.getD i 0),lab,λi j hi hj e=>?_,λv=>⟨?_,?_⟩,sums⟩
 ·have h:=s _ _ (O.get hi) (O.get hj) e
  have:=yM (S':=ci (dQ r z) (dQ x z)) (g:=λc=>o.idxOf c) (jF R X) (λc hc=>by
   obtain⟨h1,h2⟩:=bf O hc
   unfold ci;rw[get r R.len _ h1,h2,idx _ (R.get hc)]) (O.get hi) h
  have e1:=bZ O hi
  have e2:=bZ O hj
  have this:oj (ci (dQ r z) (dQ x z)) (o.idxOf (o.getD i 0)) (o.idxOf (o.getD j 0)):=this
  rw[e1,e2] at this;exact this
 ·rintro⟨c,hc,e⟩
  obtain⟨h1,h2⟩:=bf O hc
  exact⟨o.idxOf c,h1,by show ln (o.getD (o.idxOf c) 0)=v;rw[h2];exact e⟩
 ·rintro⟨i,hi,e⟩
  exact⟨o.getD i 0,O.get hi,e⟩
theorem Ep(h0:0<n)(z:Int):Car n r x n (lD r z) (lD x z):=by
 rw[xR R h0 z,xR X h0 z];exact(nH R X).trans ((yv R.tip X.tip h0 z).trans (nH (R.tip.rot h0 z) (X.tip.rot h0 z)))
theorem ES {c:Nat}(hc:c+1<n)(hm:w8 (bX r) (bX x) c=true):Car n r x n (bX (lF (bX r) c (c+1))) (bX (lF (bX x) c (c+1))):=
 (nH R X).trans ((BX R.tip X.tip hc hm).trans (nH (R.tip.exM (by omega) hc) (X.tip.exM (by omega) hc)))
end
section
variable {n:Nat}{r x r' x':List Nat}{c e p fr fu:Nat}(R:Ord n r)(X:Ord n x)(R':Ord (n+1) r')(X':Ord (n+1) x')(P:Put n r x r' x' c e p fr fu)
include R X R' X' P
theorem yk:ci r' x' e=gq e c:=by
 unfold ci;rw[P.re];have:=bZ X' (j3 (e:=e) P.hc)
 rw[P.x1 c P.hc,<-P.hp] at this;have e2:ki p fu p=fu:=by unfold ki;rw[if_pos rfl]
 rw[e2] at this;exact this
theorem Aw {i:Nat}(hi:i<n):ci r' x' (gq e i)=gq e (ci r x i)\/(ci r' x' (gq e i)=e/\ci r x i=c):=by
 have he:=P.he
 by_cases h2:r.getD i 0=p
 ·right
  refine⟨?_,by unfold ci;rw[h2,P.hp,bZ X P.hc]⟩
  unfold ci;rw[P.r1 i hi,h2];have e2:ki p fr p=fr:=by unfold ki;rw[if_pos rfl]
  have:=bZ X' (c:=e) (by omega)
  rw[P.xe] at this;rw[e2,this]
 ·left
  obtain⟨h3,h4⟩:=bf X (R.get hi)
  unfold ci;rw[P.r1 i hi];have:=bZ X' (j3 (e:=e) h3)
  rw[P.x1 _ h3,h4] at this;have e2:ki p fr (r.getD i 0)=ki p fu (r.getD i 0):=by unfold ki;rw[if_neg h2,if_neg h2]
  rw[e2];exact this
theorem yq {i j:Nat}(hi:i<n)(w:oj (ci r x) i j):oj (ci r' x') (gq e i) (gq e j):=by
 obtain⟨k,rfl⟩:=w
 induction k with
 |zero=>exact⟨0,rfl⟩
 |succ k ih=>
  have lt:=qI (jF R X) hi k
  refine qg ih ?_
  show oj (ci r' x') (gq e (mO (ci r x) k i)) (gq e (ci r x (mO (ci r x) k i)));rcases Aw R X R' X' P lt with h|⟨h1,h2⟩
  ·exact⟨1,h⟩
  ·refine⟨2,?_⟩
   show ci r' x' (ci r' x' (gq e (mO (ci r x) k i)))=_;rw[h1,yk R X R' X' P,h2]
theorem DZ:Car n r x (n+1) r' x':=λln l s=>by
 have he:=P.he
 have H':=(jF R' X').sg
 refine⟨CZ ln c e,x4 R X R' X' l P,λi j hi hj h=>?_,λv=>⟨?_,?_⟩,λa b ne=>uS R X R' X' l P ne⟩
 ·have toE: ∀k,k<n->ln k=ln c->oj (ci r' x') e (gq e k):=λk hk q=>qg ⟨1,yk R X R' X' P⟩ (yq R X R' X' P P.hc (s _ _ P.hc hk q.symm))
  by_cases h1:i=e
  ·by_cases h2:j=e
   ·rw[h1,h2];exact⟨0,rfl⟩
   ·obtain⟨k,hk,rfl⟩:=kK hj he h2
    rw[h1,ph,kF] at h;rw[h1];exact toE k hk h.symm
  ·obtain⟨k,hk,rfl⟩:=kK hi he h1
   by_cases h2:j=e
   ·rw[h2,ph,kF] at h
    rw[h2];exact nz H' (by omega) (toE k hk h)
   ·obtain⟨m,hm,rfl⟩:=kK hj he h2
    rw[kF,kF] at h;exact yq R X R' X' P hk (s _ _ hk hm h)
 ·rintro⟨k,hk,q⟩
  exact⟨gq e k,j3 hk,by rw[kF];exact q⟩
 ·rintro⟨j,hj,q⟩
  by_cases h2:j=e
  ·rw[h2,ph] at q
   exact⟨c,P.hc,q⟩
  ·obtain⟨k,hk,rfl⟩:=kK hj he h2
   rw[kF] at q;exact⟨k,hk,q⟩
end
theorem Bc {n:Nat}{r x:List Nat}{ln ln':Nat->Nat}(R:Ord n r)(h: ∀i,i<n->ln i=ln' i)(a b:Nat):gQ n r x ln a b=gQ n r x ln' a b:=by
 unfold gQ;refine aU λc hc=>aU λy hy=>?_
 rw[h c hc,h _ (bf R hy).1]
section
variable {n:Nat}{r x r' x':List Nat}{c e p fr fu:Nat}(R:Ord n r)(X:Ord n x)(R':Ord (n+1) r')(X':Ord (n+1) x')(P:Put n r x r' x' c e p fr fu)
include R X R' X' P
theorem Au {j:Nat}: ∀(k:Nat) (i:Nat),i<n->mO (ci r' x') k (gq e i)=gq e j->oj (ci r x) i j:=by
 intro k
 induction k using Nat.strongRecOn with
 |_ k ih=>
  intro i hi w
  match k,ih,w with
  |0,_,w=>exact⟨0,Dn w⟩
  |k+1,ih,w=>
   have lt:=(jF R X).lt i hi
   rw[<-nl (ci r' x') (gq e i) 1 k] at w;have w:mO (ci r' x') k (ci r' x' (gq e i))=gq e j:=w
   rcases Aw R X R' X' P hi with h|⟨h1,h2⟩
   ·rw[h] at w
    exact qg ⟨1,rfl⟩ (ih k (by omega) _ lt w)
   ·rw[h1] at w
    match k,ih,w with
    |0,_,w=>exact absurd w.symm (wP e j)
    |k+1,ih,w=>
     rw[<-nl (ci r' x') e 1 k] at w;have w:mO (ci r' x') k (ci r' x' e)=gq e j:=w
     rw[yk R X R' X' P,<-h2] at w;exact qg ⟨1,rfl⟩ (ih k (by omega) _ lt w)
theorem z8:Car (n+1) r' x' n r x:=λln l s=>by
 have he:=P.he
 have le:ln e=ln (gq e c):=by
  have:=l e (by omega)
  rw[yk R X R' X' P] at this;exact this.symm
 have lab:yd n r x (λi=>ln (gq e i)):=λi hi=>by
  show ln (gq e (ci r x i))=ln (gq e i);have h0:=l (gq e i) (j3 hi)
  rcases Aw R X R' X' P hi with h|⟨h1,h2⟩
  ·rw[h] at h0;exact h0
  ·rw[h1,le] at h0
   rw[h2];exact h0
 refine⟨λi=>ln (gq e i),lab,λi j hi hj q=>?_,λv=>⟨?_,?_⟩,λa b ne=>?_⟩
 ·obtain⟨k,hk⟩:=s _ _ (j3 hi) (j3 hj) q
  exact Au R X R' X' P k i hi hk
 ·rintro⟨j,hj,q⟩
  by_cases h2:j=e
  ·rw[h2,le] at q
   exact⟨c,P.hc,q⟩
  ·obtain⟨k,hk,rfl⟩:=kK hj he h2
   exact⟨k,hk,q⟩
 ·rintro⟨k,hk,q⟩
  exact⟨gq e k,j3 hk,q⟩
 ·rw[<-uS R X R' X' lab P ne]
  refine(Bc R' (λj hj=>?_) a b)
  by_cases h2:j=e
  ·rw[h2,ph];exact le.symm
  ·obtain⟨k,hk,rfl⟩:=kK hj he h2
   rw[kF]
end
set_option maxHeartbeats 4000000
theorem Cp(l:List (cv×D))(k:cv)(d:D)(k':cv):iA (l++[(k,d)]) k'=(iA l k').or (if k=k' then some d else none):=by
 unfold iA;rw[List.find?_append];cases e:l.find? λkv=>decide (kv.1=k') with
 |some z=>simp
 |none=>
  by_cases h:k=k'
  ·simp[h]
  ·simp[h]
theorem Dd {l:List (cv×D)}{k:cv}(h: ¬(l.any λkv=>decide (kv.1=k))=true):iA l k=none:=by
 unfold iA;have:l.find? (λkv=>decide (kv.1=k))=none:=by
  rw[List.find?_eq_none];intro z hz e;exact h (Rl.mpr ⟨z,hz,e⟩)
 rw[this];rfl
theorem vj(k:cv)(d:D)(k':cv): ∀l:List (cv×D),iA (l.map λkv=>if kv.1=k then(kv.1,d) else kv) k'=if k'=k then(if(l.any λkv=>decide (kv.1=k))=true then some d else none) else iA l k'
 | []=>by simp[iA]
 |(k1,d1)::l=>by
  have ih:=vj k d k' l
  have step: ∀(a:cv) (b:D) (t:List (cv×D)),iA ((a,b)::t) k'=if a=k' then some b else iA t k':=λa b t=>by
   unfold iA;rw[Mz]
   by_cases h:a=k'
   ·simp[h]
   ·simp[h]
  rw[Lf,Ml,step k1 d1 l]
  by_cases h1:k1=k
  ·rw[if_pos h1,step,ih]
   subst h1
   by_cases h2:k'=k1
   ·simp[h2]
   ·simp[h2,Lw h2]
  ·rw[if_neg h1,step,ih]
   by_cases h2:k'=k
   ·subst h2;rw[if_neg h1,if_pos rfl,if_pos rfl,decide_eq_false h1,Qv]
   ·simp[h1,h2]
theorem AU(l:List (cv×D))(k:cv)(d:D)(k':cv):iA (rF l k d) k'=if k'=k then some d else iA l k':=by
 unfold rF;split
 ·rename_i h
  rw[vj,if_pos h]
 ·rename_i h
  rw[Cp]
  by_cases e:k'=k
  ·subst e;rw[if_pos rfl,if_pos rfl,Dd h];rfl
  ·rw[if_neg e,if_neg (Lw e),Option.or_none]
theorem xj {f g:FE}{ρ:aJ}{a b:Nat}(h1:f ρ=some (nI a))(h2:g ρ=some (nI b)):bL (av nM f g) ρ=some (!decide (a=b)):=bN ((az h1 h2).trans (by rw[lJ (by rw[fE];omega),iJ]))
set_option maxHeartbeats 1000000
structure Lns(n:Nat)(S:Nat->Nat)(LL:List (List Nat)):Prop where
 cov: ∀c,c<n-> ∃k,k<LL.length/\c∈LL.getD k []
 uni: ∀k l c,k<LL.length->l<LL.length->c∈LL.getD k []->c∈LL.getD l []->k=l
 lt: ∀k,k<LL.length-> ∀c∈LL.getD k [],c<n
 cl: ∀k,k<LL.length-> ∀c∈LL.getD k [],S c∈LL.getD k []
 len:LL.length<=n
 ll: ∀L∈LL,L.length<=n
def eV(LL:List (List Nat))(c:Nat):Nat:=LL.findIdx λL=>decide (c∈L)
section
variable {n:Nat}{S:Nat->Nat}{LL:List (List Nat)}(h:Lns n S LL)
include h
theorem eK {c:Nat}(hc:c<n):eV LL c<LL.length/\c∈LL.getD (eV LL c) []:=by
 obtain⟨k,hk,hm⟩:=h.cov c hc
 have e:LL.getD k []=LL[k]:=by rw[K2,K0 hk];rfl
 have lt:eV LL c<LL.length:=List.findIdx_lt_length_of_exists ⟨LL[k],Nw hk,decide_eq_true (e▸hm)⟩
 refine⟨lt,?_⟩
 have:=List.findIdx_getElem (w:=lt) (p:=λL=>decide (c∈L)) (xs:=LL)
 rw[K2,K0 lt];exact of_decide_eq_true this
theorem nA {c k:Nat}(hc:c<n)(hk:k<LL.length):c∈LL.getD k []↔k=eV LL c:=by
 obtain⟨h1,h2⟩:=eK h hc
 constructor
 ·intro hm;exact h.uni _ _ c hk h1 hm h2
 ·rintro rfl;exact h2
theorem tS {c:Nat}(hc:c<n):eV LL (S c)=eV LL c:=by
 obtain⟨h1,h2⟩:=eK h hc
 have h3:=h.cl _ h1 c h2
 exact((nA h (h.lt _ h1 _ h3) h1).mp h3).symm
end
theorem He {n:Nat}{r x:List Nat}(R:Ord n r)(X:Ord n x){C:Nat->List Nat}(hC: ∀s,s<n->Cy n (ci r x) s (C s)):Lns n (ci r x) (((KW n).filter (iy (ci r x))).map C):=by
 have H:=(jF R X).sg
 generalize hLs:(KW n).filter (iy (ci r x))=Ls
 have mem: ∀s,s∈Ls↔s<n/\led (ci r x) s:=λs=>by rw[<-hLs,L8,La,ledB_iff]
 have nd:Ls.Nodup:=by rw[<-hLs];exact ME.sublist List.filter_sublist
 have get: ∀k,k<Ls.length->(Ls.map C).getD k []=C (Ls.getD k 0)/\Ls.getD k 0∈Ls:=λk hk=>by
  rw[K2,Ln,K0 hk,K2,K0 hk];exact⟨rfl,Nw hk⟩
 refine⟨λc hc=>?_,λk l c hk hl m1 m2=>?_,λk hk c hm=>?_,λk hk c hm=>?_,?_,λL hL=>?_⟩
 ·obtain⟨m,hm1,hm2,hm3⟩:=BV H hc
  have hb:=nz H hc hm3
  obtain⟨k,hk,e⟩:=P2.mp ((mem m).mpr ⟨hm1,hm2⟩)
  refine⟨k,by rw[K5];exact hk,?_⟩
  rw[(get k hk).1];have:Ls.getD k 0=m:=by rw[K2,K0 hk];exact e
  rw[this];exact((hC m hm1).c.mem c).mpr hb
 ·rw[K5] at hk hl
  obtain⟨g1,g2⟩:=get k hk
  obtain⟨g3,g4⟩:=get l hl
  rw[g1] at m1;rw[g3] at m2;obtain⟨a1,a2⟩:=(mem _).mp g2
  obtain⟨b1,b2⟩:=(mem _).mp g4
  have p1:=((hC _ a1).c.mem c).mp m1
  have p2:=(hC _ a1).c.back c m1
  have q1:=((hC _ b1).c.mem c).mp m2
  have q2:=(hC _ b1).c.back c m2
  have e1:=a2 _ (mn p1 q2)
  have e2:=b2 _ (mn q1 p2)
  exact tB nd hk hl (by omega)
 ·rw[K5] at hk
  obtain⟨g1,g2⟩:=get k hk
  rw[g1] at hm;exact(hC _ ((mem _).mp g2).1).c.lt c hm
 ·rw[K5] at hk
  obtain⟨g1,g2⟩:=get k hk
  rw[g1] at hm⊢;have hs:=((mem _).mp g2).1
  exact((hC _ hs).c.mem _).mpr (mn (((hC _ hs).c.mem c).mp hm) ⟨1,rfl⟩)
 ·rw[K5,<-hLs]
  exact LW (NH _ _) (by simp)
 ·obtain⟨s,hs,rfl⟩:=LX.mp hL
  have hs:=((mem _).mp hs).1
  have:=kl (hC s hs).nd (hC s hs).c.lt
  exact this
def ol(n:Nat)(r x:List Nat):List (Nat×Nat):=(KW n).flatMap λc=>((KW n).filter (sQ r x c)).map λy=>(c,y)
theorem BA(n:Nat)(r x:List Nat):Hu n r x=(ol n r x).map λp=>[(p.1:Int),(p.2:Int),z6 r x p.1 p.2]:=by
 unfold Hu ol;rw[Pm];congr 1
 funext c;rw[LA];rfl
theorem xv {n:Nat}{r x:List Nat}{p:Nat×Nat}(h:p∈ol n r x):p.1<n/\p.2<n:=by
 unfold ol at h;obtain⟨c,hc,h⟩:=Ny.mp h
 obtain⟨y,hy,rfl⟩:=LX.mp h
 exact⟨La.mp hc,La.mp (L8.mp hy).1⟩
theorem Ao {α:Type}{b:Nat->Bool}{h:Nat->α}{q:α->Bool}{F:α->Int}: ∀l:List Nat,((((l.filter b).map h).filter q).map F).sum=(l.map λy=>if(b y&&q (h y))=true then F (h y) else 0).sum
 | []=>rfl
 |y::l=>by
  rw[Lf,MW,<-Ao l];cases e1:b y with
  |false=>rw[MF (by rw[e1];decide)];simp
  |true=>
   rw[MG e1,Lf];cases e2:q (h y) with
   |false=>rw[MF (by rw[e2];decide)];simp
   |true=>rw[MG e2,Lf,MW];simp
theorem xQ {α:Type}{g:Nat->List α}{q:α->Bool}{F:α->Int}: ∀l:List Nat,(((l.flatMap g).filter q).map F).sum=(l.map λc=>(((g c).filter q).map F).sum).sum
 | []=>rfl
 |c::l=>by rw[NL,OV,L5,PD,xQ l,Lf,MW]
theorem pZ {n:Nat}{r x:List Nat}{q:Nat×Nat->Bool}{F:Nat×Nat->Int}:(((ol n r x).filter q).map F).sum=sm n λc=>sm n λy=>if(sQ r x c y&&q (c,y))=true then F (c,y) else 0:=by
 unfold ol;rw[xQ];unfold sm;congr 1
 refine Md λc _=>?_
 exact Ao (KW n)
def mx(r x:List Nat)(p:Nat×Nat):Int:=z6 r x p.1 p.2
def qP(r:List Nat)(ln:Nat->Nat)(a b:Nat)(p:Nat×Nat):Bool:=decide (ln p.1=a)&&decide (ln (r.idxOf p.2)=b)
theorem xx {n:Nat}{r x:List Nat}{ln:Nat->Nat}(a b:Nat):(((ol n r x).filter (qP r ln a b)).map (mx r x)).sum=gQ n r x ln a b:=by
 rw[pZ];unfold gQ;refine aU λc _=>aU λy _=>?_
 unfold qP mx CW bx
 by_cases h1:ln c=a<;>by_cases h2:ln (r.idxOf y)=b<;>by_cases h3:sQ r x c y=true<;>simp[h1,h2,h3]
theorem EV {n:Nat}{r x:List Nat}{ln:Nat->Nat}{a b:Nat}(ne:a≠b):(((ol n r x).filter λp=>qP r ln a b p||qP r ln b a p).map (mx r x)).sum=gQ n r x ln a b+gQ n r x ln b a:=by
 rw[<-xx,<-xx,pZ,pZ,pZ,<-kW];refine aU λc _=>?_
 rw[<-kW];refine aU λy _=>?_
 unfold qP mx
 by_cases h1:ln c=a
 ·have h1':ln c≠b:=λe=>ne (h1.symm.trans e)
  by_cases h2:ln (r.idxOf y)=b<;>by_cases h3:sQ r x c y=true<;>simp[h1,h1',h2,h3,ne]
 ·by_cases h1':ln c=b
  ·by_cases h2:ln (r.idxOf y)=a<;>by_cases h3:sQ r x c y=true<;>simp[h1,h1',h2,h3,ne,Lw ne]
  ·simp[h1,h1']
def GX(p:Nat×Nat):D:=.tup [nI p.1,nI p.2]
theorem yw {c v:Nat}: ∀(ps:List (Nat×Nat)) (kvs:List (cv×D)),(∀p∈ps,p.1=c->p.2=v)->iA ((ps.map GX).foldl wk kvs) (.inl c)=if c∈ps.map (·.1) then some (nI v) else iA kvs (.inl c)
 | [],kvs,_=>rfl
 |p::ps,kvs,h=>by
  rw[Lf,PC,yw ps _ λq hq=>h q (Lb _ hq)]
  have e:iA (wk kvs (GX p)) (.inl (c:Int))=if(c:Int)=p.1 then some (nI p.2) else iA kvs (.inl c):=by
   show iA (rF kvs (.inl (p.1:Int)) (nI p.2)) _=_;rw[AU]
   by_cases e:c=p.1
   ·subst e;simp
   ·have:(c:Int)≠p.1:=by omega
    rw[if_neg this,if_neg (λz=>this (by injection z))]
  rw[e]
  by_cases m:c∈ps.map (·.1)
  ·rw[if_pos m,if_pos (by rw[Lf];exact Lb _ m)]
  ·rw[if_neg m]
   by_cases e:c=p.1
   ·rw[if_pos (by rw[e]),if_pos (by rw[Lf,e];exact Lu),h p Lu e.symm]
   ·rw[if_neg (by omega),if_neg (by rw[Lf,Ll,not_or];exact⟨e,m⟩)]
theorem Al {n:Nat}{r x:List Nat}(G:Gd n r x){c q w:Nat}(hc:c+1<n)(hq:q+1<n)(hw:w<4)(h:iE r x c q w=true):Car n r x (n-1) (gX r q (fH c w)) (gX x q (fH c w)):=by
 have G':=G.tkn hc hq hw h
 have hx:=G.X.len
 have hlo:=G.lo
 have hhi:=G.hi
 rw[zu] at h;obtain⟨⟨a1,a2⟩,a3,a4⟩:=h
 have hf:fH c w<n:=by unfold fH;omega
 have d:(jf q w=q/\i4 q w=q+1)\/(jf q w=q+1/\i4 q w=q):=by
  unfold jf i4;have:w / 2=0\/w / 2=1:=by omega
  omega
 have xc:(gX x q (fH c w)).getD c 0=q:=by
  rw[r8 hx (by omega) hf (by omega),show(if c<fH c w then c else c+1)=oh c w by unfold fH oh;split<;>omega,a3]
  unfold dn;split<;>omega
 have P:=BF G'.R G'.X (c:=c) (w:=w) (by omega) hw
 rw[xc,vP G.R (by omega) hf (by omega) a1,vP G.X (by omega) hf (by omega) a2] at P
 have R:=G.R
 have X:=G.X
 obtain⟨m,rfl⟩: ∃m,n=m+1:=⟨n-1,by omega⟩
 exact z8 (n:=m) G'.R G'.X R X P
inductive LedC (n:Nat) (r x:List Nat) (o:Except Ex D):Prop
 |ok {n':Nat} {r' x':List Nat} (G:Gd n' r' x') (C:Car n r x n' r' x') (e:o=.ok (aX r' x'))
 |no (e:o=.error CV)
 |too (e:o=.error EG)
theorem J3 {n:Nat}{r x:List Nat}(G:Gd n r x)(m:Mo):LedC n r x (m.e n r x):=by
 have hlo:=G.lo
 cases m with
 |cols k=>exact .ok (G.rot k) (yv G.R G.X (by omega) k) rfl
 |rows k=>exact .ok (G.rai k) (Ep G.R G.X (by omega) k) rfl
 |tip=>exact .ok G.tip (nH G.R G.X) rfl
 |swap c=>
  show LedC n r x (wT r x c);unfold wT
  by_cases h:mD r x c=true
  ·obtain⟨c',rfl,h1,h2⟩:=AM G.R.len h
   exact .ok (G.chg h) (BX G.R G.X h1 h2) (if_pos h)
  ·exact .no (if_neg h)
 |cross c=>
  show LedC n r x (wz r x c);unfold wz
  by_cases h:mD (bX r) (bX x) c=true
  ·obtain⟨c',rfl,h1,h2⟩:=AM G.tip.R.len h
   exact .ok (G.tip.chg h).tip (ES G.R G.X h1 h2) (if_pos h)
  ·exact .no (if_neg h)
 |put c w=>
  show LedC n r x (xg n r x c w);unfold xg
  by_cases hg:(decide (0<=c)&&decide (c<n))=true/\(decide (0<=w)&&decide (w<4))=true
  ·rw[if_pos hg]
   rw[Lk,Lk,decide_eq_true_eq,decide_eq_true_eq,decide_eq_true_eq,decide_eq_true_eq] at hg
   by_cases h6:n<6
   ·have G':=G.put (c:=c.toNat) (w:=w.toNat) (by omega) (by omega) h6
    exact .ok G' (DZ G.R G.X G'.R G'.X (BF G.R G.X (by omega) (by omega))) (if_pos h6)
   ·exact .too (if_neg h6)
  ·exact .no (if_neg hg)
 |take c q=>
  show LedC n r x (wo r x c q);cases e:vM r x c q with
  |none=>exact .no (by unfold wo;rw[e])
  |some w=>
   obtain⟨c,q,rfl,rfl,hc,hq,hw,h⟩:=su G e
   exact .ok (G.tkn hc hq hw h) (Al G hc hq hw h) (by unfold wo;rw[e];rfl)
structure Lnr(S:Nat->Nat)(LL:List (List Nat)):Prop where
 ne: ∀k,k<LL.length-> ∃c,c∈LL.getD k []
 re: ∀k,k<LL.length-> ∀c d,c∈LL.getD k []->d∈LL.getD k []->oj S c d
theorem G2 {n:Nat}{r x:List Nat}(R:Ord n r)(X:Ord n x){C:Nat->List Nat}(hC: ∀s,s<n->Cy n (ci r x) s (C s)):Lnr (ci r x) (((KW n).filter (iy (ci r x))).map C):=by
 have H:=(jF R X).sg
 generalize hLs:(KW n).filter (iy (ci r x))=Ls
 have mem: ∀s,s∈Ls->s<n:=λs h=>by rw[<-hLs,L8,La] at h;exact h.1
 have get: ∀k,k<Ls.length->(Ls.map C).getD k []=C (Ls.getD k 0)/\Ls.getD k 0∈Ls:=λk hk=>by
  rw[K2,Ln,K0 hk,K2,K0 hk];exact⟨rfl,Nw hk⟩
 refine⟨λk hk=>?_,λk hk c d h1 h2=>?_⟩
 ·rw[K5] at hk
  obtain⟨g1,g2⟩:=get k hk
  exact⟨Ls.getD k 0,by rw[g1];exact((hC _ (mem _ g2)).c.mem _).mpr ⟨0,rfl⟩⟩
 ·rw[K5] at hk
  obtain⟨g1,g2⟩:=get k hk
  rw[g1] at h1 h2;have lt:=mem _ g2
  exact qg (nz H lt (((hC _ lt).c.mem c).mp h1)) (((hC _ lt).c.mem d).mp h2)
theorem xX {n:Nat}{r x:List Nat}{ln:Nat->Nat}(R:Ord n r)(X:Ord n x)(l:yd n r x ln){c d:Nat}(hc:c<n)(w:oj (ci r x) c d):ln d=ln c:=by
 obtain⟨k,rfl⟩:=w
 induction k with
 |zero=>rfl
 |succ k ih=>
  show ln (ci r x (mO (ci r x) k c))=_;rw[l _ (qI (jF R X) hc k),ih]
theorem yy {p q:Prop} [Decidable p] [Decidable q](h:p↔q):bx p=bx q:=by
 unfold bx
 by_cases hp:p
 ·rw[if_pos hp,if_pos (h.mp hp)]
 ·rw[if_neg hp,if_neg λz=>hp (h.mpr z)]
theorem B8 {n n':Nat}{r x r' x':List Nat}{LL LL':List (List Nat)}(R:Ord n r)(X:Ord n x)(R':Ord n' r')(X':Ord n' x')(h:Lns n (ci r x) LL)(g:Lnr (ci r x) LL)(h':Lns n' (ci r' x') LL')(g':Lnr (ci r' x') LL')(C:Car n r x n' r' x'):
 LL'.length=LL.length/\ ∃s:List Nat,s.Perm (KW LL.length)/\ ∀i j,i<LL.length->j<LL.length->i≠j->gQ n' r' x' (eV LL') (s.getD i 0) (s.getD j 0)=gQ n r x (eV LL) i j:=by
 obtain⟨ln,l,sp,nm,tie⟩:=C (eV LL) (λc hc=>tS h hc) (λc d hc hd e=>by
  obtain⟨h1,h2⟩:=eK h hc
  obtain⟨h3,h4⟩:=eK h hd
  rw[<-e] at h4;exact g.re _ h1 c d h2 h4)
 have to: ∀c d,c<n'->d<n'->eV LL' c=eV LL' d->ln c=ln d:=λc d hc hd e=>by
  obtain⟨h1,h2⟩:=eK h' hc
  obtain⟨h3,h4⟩:=eK h' hd
  rw[<-e] at h4;exact(xX R' X' l hc (g'.re _ h1 c d h2 h4)).symm
 have fro: ∀c d,c<n'->d<n'->ln c=ln d->eV LL' c=eV LL' d:=λc d hc hd e=>
  (xX R' X' (λc hc=>tS h' hc) hc (sp c d hc hd e)).symm
 have ex: ∀i,∃c,i<LL.length->c<n'/\ln c=i:=λi=>by
  by_cases hi:i<LL.length
  ·obtain⟨c,hc⟩:=g.ne i hi
   have lt:=h.lt i hi c hc
   obtain⟨d,h1,h2⟩:=(nm i).mp ⟨c,lt,((nA h lt hi).mp hc).symm⟩
   exact⟨d,λ_=>⟨h1,h2⟩⟩
  ·exact⟨0,λz=>absurd z hi⟩
 let f:Nat->Nat:=λi=>(ex i).choose
 have hf: ∀i,i<LL.length->f i<n'/\ln (f i)=i:=λi hi=>(ex i).choose_spec hi
 let s:List Nat:=(KW LL.length).map λi=>eV LL' (f i)
 have sg: ∀i,i<LL.length->s.getD i 0=eV LL' (f i):=λi hi=>by
  show((KW LL.length).map _).getD i 0=_;rw[K2,Ln,LU hi];rfl
 have pm:s.Perm (KW LL'.length):=by
  refine(Ms ?_ ME).mpr λk=>?_
  ·refine Xa _ ?_ (Uw.mp ME)
   rintro i j ⟨hi,hj,ne⟩ e
   rw[La] at hi hj;have:=to _ _ (hf i hi).1 (hf j hj).1 e
   rw[(hf i hi).2,(hf j hj).2] at this;exact ne this
  ·rw[La,LX]
   constructor
   ·rintro⟨i,hi,rfl⟩
    exact(eK h' (hf i (La.mp hi)).1).1
   ·intro hk
    obtain⟨c,hc⟩:=g'.ne k hk
    have lt:=h'.lt k hk c hc
    obtain⟨d,h1,h2⟩:=(nm (ln c)).mpr ⟨c,lt,rfl⟩
    have hv:ln c<LL.length:=by rw[<-h2];exact(eK h h1).1
    refine⟨ln c,La.mpr hv,?_⟩
    rw[(nA h' lt hk).mp hc];exact fro _ _ (hf _ hv).1 lt (hf _ hv).2
 have le:LL'.length=LL.length:=by
  have:=pm.length_eq
  simp[s] at this;exact this.symm
 refine⟨le,s,by rw[<-le];exact pm,λi j hi hj ne=>?_⟩
 rw[sg i hi,sg j hj,<-tie i j ne];unfold gQ;have iff: ∀c,c<n'-> ∀i,i<LL.length->(eV LL' c=eV LL' (f i)↔ln c=i):=λc hc i hi=>by
  obtain⟨f1,f2⟩:=hf i hi
  constructor
  ·intro e;rw[to c _ hc f1 e,f2]
  ·intro e;exact fro _ _ hc f1 (by rw[f2];exact e)
 refine aU λc hc=>aU λy hy=>?_
 rw[yy (iff c hc i hi),yy (iff _ (bf R' hy).1 j hj)]
def u4(m:Nat)(l:List Nat):List (List Nat):=(KW (l.length+1)).map λa=>l.take a++[m]++l.drop a
def fQ:Nat->List (List Nat)
 |0=>[[]]
 |m+1=>(fQ m).flatMap (u4 m)
theorem oS: ∀(m:Nat) (l:List Nat),l∈fQ m->l.Perm (KW m)
 |0,l,h=>by
  have:l=[]:=by simpa [fQ] using h
  rw[this];exact Om _
 |m+1,l,h=>by
  obtain⟨k,hk,hl⟩:=Ny.mp h
  obtain⟨a,ha,rfl⟩:=LX.mp hl
  have:=oS m k hk
  rw[Nl,Oe];refine Pl.trans ?_
  show(m::(List.take a k++List.drop a k)).Perm _;rw[PR];exact(this.cons m).trans (OW m _).symm
theorem u5: ∀(m:Nat) (l:List Nat),l.Perm (KW m)->l∈fQ m
 |0,l,h=>by
  have:l=[]:=by simpa using h.eq_nil
  rw[this];exact Lu
 |m+1,l,h=>by
  obtain⟨a,b,rfl⟩:=List.append_of_mem (h.mem_iff.mpr (La.mpr (LY m)))
  have h2:(m::(a++b)).Perm (m::KW m):=by
   rw[Nl] at h;exact(Pl.symm.trans h).trans (OW m _)
  refine Ny.mpr ⟨a++b,u5 m _ (h2.cons_inv),LX.mpr ⟨a.length,La.mpr (by simp;omega),?_⟩⟩
  rw[List.take_left,List.drop_left,Oe];rfl
def gw(LL:List (List Nat)):D:=.lst (LL.map λL=>.lst (L.map nI))
theorem zV(LL:List (List Nat)):mZ (LL.map λL=>D.lst (L.map nI))=(KW LL.length).map λ(k:Nat)=>D.tup [nI k,.lst ((LL.getD k []).map nI)]:=by
 unfold mZ;rw[K5];refine Md λk hk=>?_
 rw[La] at hk;congr 3
 rw[K2,Ln,K0 hk,K2,K0 hk];rfl
theorem nP {α β:Type}{f:α->List β}{b:Nat}: ∀(l:List α),(∀a∈l,(f a).length<=b)->(l.flatMap f).length<=l.length*b
 | [],_=>by simp
 |a::l,h=>by
  rw[NL,LJ,LM,Nat.succ_mul];have h1:=h a Lu
  have h2:=nP l λz hz=>h z (Lb _ hz)
  omega
section
variable {n:Nat}{r x:List Nat}{LL:List (List Nat)}(R:Ord n r)(X:Ord n x)(hn:n<=6)(h:Lns n (ci r x) LL)
include hn h
theorem Dg(q d2:D): ∃kvs,BO 3 3 (Ap (ai 1)) (gT 2 (cA (gN 4) (cA (gN 5) (iC)))) (cq) (Fg (dz (ai 5)) (gN 6) (cq) (ai 6) (ai 4)) [.v q,.v (gw LL),.v d2,.no]=.nx [.v q,.v (gw LL),.v d2,.ob (.dK kvs)]/\ ∀c,c<n->iA kvs (.inl c)=some (nI (eV LL c)):=by
 let ps:List (Nat×Nat):=(KW LL.length).flatMap λk=>(LL.getD k []).map λc=>(c,k)
 have hl:=h.len
 have e1:Ap (ai 1) [.v q,.v (gw LL),.v d2,.no]=some ((KW LL.length).map λ(k:Nat)=>D.tup [nI k,.lst ((LL.getD k []).map nI)]):=by
  show some (mZ (LL.map λL=>D.lst (L.map nI)))=_
  rw[zV]
 have e2:lX (gT 2 (cA (gN 4) (cA (gN 5) (iC)))) (cq) (Fg (dz (ai 5)) (gN 6) (cq) (ai 6) (ai 4)) ([.v q,.v (gw LL),.v d2,.no]++K1 3 .no) ((KW LL.length).map λ(k:Nat)=>D.tup [nI k,.lst ((LL.getD k []).map nI)])=some (ps.map GX):=by
  refine(jU (h:=λ(k:Nat)=>D.tup [nI k,.lst ((LL.getD k []).map nI)]) (q:=λ_=>true) (o:=λk=>(LL.getD k []).map λc=>GX (c,k)) (KW LL.length) λk hk=>⟨[.v q,.v (gw LL),.v d2,.no,.v (nI k),.v (.lst ((LL.getD k []).map nI)),.no],rfl,rfl,λ_=>?_⟩).trans ?_
  ·unfold Fg
   rw[show dz (ai 5) [.v q,.v (gw LL),.v d2,.no,.v (nI k),.v (.lst ((LL.getD k []).map nI)),.no]=some ((LL.getD k []).map nI) from j7 rfl,K6];refine(jU (h:=nI) (q:=λ_=>true) (o:=λc=>[GX (c,k)]) (LL.getD k []) λc hc=>⟨[.v q,.v (gw LL),.v d2,.no,.v (nI k),.v (.lst ((LL.getD k []).map nI)),.v (nI c)],rfl,rfl,λ_=>rfl⟩).trans ?_
   rw[M7.mpr (λ_ _=>rfl),lI]
  ·rw[M7.mpr (λ_ _=>rfl)]
   show _=some (Sc GX (List.flatMap _ _));rw[Pm];congr 2
   funext k;rw[LA];rfl
 have mem: ∀p∈ps,p.1<n/\p.2=eV LL p.1:=λp hp=>by
  obtain⟨k,hk,hp⟩:=Ny.mp hp
  obtain⟨c,hc,rfl⟩:=LX.mp hp
  have hk:=La.mp hk
  have lt:=h.lt k hk c hc
  exact⟨lt,(nA h lt hk).mp hc⟩
 refine⟨rn (ps.map GX),?_,λc hc=>?_⟩
 ·unfold BO
  rw[e1];dsimp only;rw[e2];dsimp only;rw[if_pos]
  ·rfl
  ·rw[K5]
   refine LW (nP (b:=6) _ λk hk=>?_) (by rw[Mh];omega)
   rw[K5];have hk:=La.mp hk
   have:=h.ll (LL.getD k []) (by rw[K2,K0 hk];exact Nw hk)
   omega
 ·unfold rn
  rw[yw (c:=c) (v:=eV LL c) ps [] λp hp e=>by rw[(mem p hp).2,e],if_pos]
  obtain⟨h1,h2⟩:=eK h hc
  exact LX.mpr ⟨(c,eV LL c),Ny.mpr ⟨eV LL c,La.mpr h1,LX.mpr ⟨c,h2,rfl⟩⟩,rfl⟩
def Be(r x:List Nat)(LL:List (List Nat))(p:Nat×Nat):D:=.tup [nI (eV LL p.1),nI (eV LL (r.idxOf p.2)),.int (mx r x p)]
include R X
theorem yh:(ol n r x).length<=36:=by
 have:=yg n r x hn
 rw[BA,K5] at this;exact this
theorem Dl:iw [aX r x,gw LL]=some (.lst ((ol n r x).map (Be r x LL))):=by
 obtain⟨kvs,d1,d2⟩:=Dg hn h (aX r x) (aN r)
 apply cg (kd:=.n) (n:=4) (t:=ka)
 unfold ka;refine(aC (ρ':=[.v (aX r x),.v (gw LL),.v (aN r),.no]) ((bv ((az (x:=aX r x) (y:=.int 0) rfl rfl).trans rfl)).trans rfl)).trans ((aC d1).trans ?_)
 have ce:ak (nF 1 cf) (ae (ai 0) (aj)) [.v (aX r x),.v (gw LL),.v (aN r),.ob (.dK kvs)]=some (.lst ((ol n r x).map λp=>tL [(p.1:Int),(p.2:Int),mx r x p])):=by
  refine((bJ (ds:=[aX r x]) rfl rfl).trans (vt R X hn)).trans ?_
  rw[BA,LA];rfl
 have hl:=yh R X hn h
 refine bc (bV (ds:=(ol n r x).map λp=>tL [(p.1:Int),(p.2:Int),mx r x p]) (j7 ce) (by rw[K5];omega) ?_)
 refine cE (h:=λp:Nat×Nat=>tL [(p.1:Int),(p.2:Int),mx r x p]) (o:=Be r x LL) (ol n r x) λp hp=>⟨[.v (aX r x),.v (gw LL),.v (aN r),.ob (.dK kvs),.v (nI p.1),.v (nI p.2),.v (.int (mx r x p))],rfl,?_⟩
 obtain⟨p1,p2⟩:=xv hp
 have i2:=(bf R p2).1
 refine cD (ao (d:=nI (eV LL p.1)) (d2 p.1 p1) (ao (d:=nI (eV LL (r.idxOf p.2))) ?_ (ao rfl rfl))) (by simp)
 unfold EO;rw[show B6 3 [.v (aX r x),.v (gw LL),.v (aN r),.ob (.dK kvs),.v (nI p.1),.v (nI p.2),.v (.int (mx r x p))]=some kvs from rfl,K6,(az (x:=aN r) (y:=nI p.2) rfl rfl).trans (my R p2),K6];exact d2 _ i2
theorem GI(a b:Nat):fR [.lst ((ol n r x).map (Be r x LL)),nI a,nI b]=some (.int (((ol n r x).filter λp=>qP r (eV LL) a b p||qP r (eV LL) b a p).map (mx r x)).sum):=by
 have hl:=yh R X hn h
 apply cg (kd:=.s) (n:=4) (t:=iO)
 unfold iO
 let pr:D:=.tup [.tup [nI a,nI b],.tup [nI b,nI a]]
 refine(aC (ρ':=[.v (.lst ((ol n r x).map (Be r x LL))),.v (nI a),.v (nI b),.v pr]) ((bv (d:=pr) rfl).trans rfl)).trans ?_
 refine bc ((bU (ao (bV (ds:=(ol n r x).map (Be r x LL)) (ys:=(((ol n r x).filter λp=>qP r (eV LL) a b p||qP r (eV LL) b a p).map (mx r x)).map D.int) (j7 rfl) (by rw[K5];omega) ?_) rfl)).trans ?_)
 ·refine(gu (h:=Be r x LL) (o:=λp=>.int (mx r x p)) (q:=λp=>qP r (eV LL) a b p||qP r (eV LL) b a p) (ol n r x) λp hp=>⟨[.v (.lst ((ol n r x).map (Be r x LL))),.v (nI a),.v (nI b),.v pr,.v (nI (eV LL p.1)),.v (nI (eV LL (r.idxOf p.2))),.v (.int (mx r x p))],rfl,?_,λ_=>rfl⟩).trans (by rw[LA];rfl)
  refine bN ((az (x:=tL [(eV LL p.1:Int),(eV LL (r.idxOf p.2):Int)]) (y:=pr) rfl rfl).trans ?_)
  show mC false (tL [(eV LL p.1:Int),(eV LL (r.idxOf p.2):Int)]) (.tup [tL [(a:Int),b],tL [(b:Int),a]])=_;unfold mC p9;dsimp only;rw[if_pos (by show dB ([[(a:Int),b],[(b:Int),a]].map tL)<=32;have:=AS [[(a:Int),b],[(b:Int),a]];omega)]
  unfold qP;simp only[Ml,Q2,yP,Oz];congr 2
  rw[LI];simp;constructor
  ·rintro(⟨e1,e2⟩|⟨e1,e2⟩)
   ·exact .inl ⟨by omega,by omega⟩
   ·exact .inr ⟨by omega,by omega⟩
  ·rintro(⟨e1,e2⟩|⟨e1,e2⟩)
   ·exact .inl ⟨by omega,by omega⟩
   ·exact .inr ⟨by omega,by omega⟩
 ·show(iB _).map _=_
  rw[nO];rfl
end
abbrev SS(n:Nat)(r x:List Nat)(LL:List (List Nat))(a b:Nat):Int:=gQ n r x (eV LL) a b
theorem wA(LL:List (List Nat)){f:FE}{ρ:aJ}(h:f ρ=some (gw LL)):ak bu (ae f aj) ρ=some (nI LL.length):=by
 refine(bU (ao h rfl)).trans ?_
 show some (D.int ((LL.map λL=>D.lst (L.map nI)).length:Int))=_
 rw[K5]
def vL(n:Nat)(r x:List Nat)(LL:List (List Nat))(a b:Nat):D:=.tup [nI a,nI b,.int (SS n r x LL a b)]
def B7(n:Nat)(r x:List Nat)(LL:List (List Nat)):List D:=(KW LL.length).flatMap λa=>(Mj (a+1) (LL.length- (a+1))).map (vL n r x LL a)
section
variable {n:Nat}{r x:List Nat}{LL:List (List Nat)}(R:Ord n r)(X:Ord n x)(hn:n<=6)(h:Lns n (ci r x) LL)
include R X hn h
theorem Eh(hL:eC [aX r x]=some (gw LL)):ms [aX r x]=some (.lst (B7 n r x LL)):=by
 have hl:=h.len
 apply cg (kd:=.n) (n:=3) (t:=oC)
 unfold oC;refine(aC (ρ':=[.v (aX r x),.v (gw LL),.no]) ((bv ((bJ (ds:=[aX r x]) rfl rfl).trans hL)).trans rfl)).trans ?_
 refine(aC (ρ':=[.v (aX r x),.v (gw LL),.v (.lst ((ol n r x).map (Be r x LL)))]) ((bv ((bJ (ds:=[aX r x,gw LL]) rfl rfl).trans (Dl R X hn h))).trans rfl)).trans ?_
 refine bc (x6 (ds:=(KW LL.length).map nI) (cz (n:=LL.length) (ao (wA LL rfl) rfl) (by omega)) ?_ ?_)
 ·refine(jU (h:=nI) (q:=λ_=>true) (o:=λa=>(Mj (a+1) (LL.length- (a+1))).map (vL n r x LL a)) (KW LL.length) λa ha=>⟨[.v (aX r x),.v (gw LL),.v (.lst ((ol n r x).map (Be r x LL))),.v (nI a),.no],rfl,rfl,λ_=>?_⟩).trans (by rw[M7.mpr (λ_ _=>rfl)];rfl)
  have ha:=La.mp ha
  refine BD (ds:=(Mj (a+1) (LL.length- (a+1))).map nI) (vc (ao ((az (x:=nI a) (y:=.int 1) rfl rfl).trans (dY _ _)) (ao (wA LL rfl) rfl)) (by omega) (by omega)) ?_
  refine(jU (h:=nI) (q:=λ_=>true) (o:=λb=>[vL n r x LL a b]) (Mj (a+1) (LL.length- (a+1))) λb hb=>⟨[.v (aX r x),.v (gw LL),.v (.lst ((ol n r x).map (Be r x LL))),.v (nI a),.v (nI b)],rfl,rfl,λ_=>yr (cD (ao rfl (ao rfl (ao (d:=.int (SS n r x LL a b)) ?_ rfl))) (by simp))⟩).trans (by rw[M7.mpr (λ_ _=>rfl),lI])
  have hb:=(Q7.mp hb).1
  refine(az (((bJ (ds:=[.lst ((ol n r x).map (Be r x LL)),nI a,nI b]) rfl rfl).trans (GI R X hn h a b)).trans (by rw[EV (by omega)])) (y:=.int 2) rfl).trans ((kD (by decide) (by decide)).trans ?_)
  rw[qR R X (λc hc=>tS h hc) b a]
  congr 2
  show _=gQ n r x (eV LL) a b;omega
 ·refine LW (nP (b:=6) _ λa ha=>?_) (by rw[Mh];omega)
  rw[K5,QJ];omega
end
def y4(m:Nat)(T:Nat->Nat->Int):List (List Int):=(KW m).map λa=>(KW m).map λb=>T a b
def wY(m:Nat)(T:Nat->Nat->Int):List NO:=(y4 m T).map λis=>.l (is.map D.int)
theorem yQ {α:Type}(m o:Nat)(f:Nat->α)(v:α):((KW m).map f).set o v=(KW m).map λi=>if i=o then v else f i:=by
 apply Ot (by simp)
 intro i h1 h2;rw[List.getElem_set]
 by_cases e:o=i
 ·simp[e]
 ·simp[e,Lw e]
theorem AW(m:Nat)(T:Nat->Nat->Int):wY m T=(KW m).map λa=>.l (((KW m).map λb=>T a b).map D.int):=by
 unfold wY y4;rw[LA];rfl
theorem xr(m:Nat)(T:Nat->Nat->Int):(wY m T).length=m:=by unfold wY y4;simp
theorem yI {m o:Nat}(T:Nat->Nat->Int)(h:o<m):(wY m T)[o]? =some (.l (((KW m).map λb=>T o b).map D.int)):=by
 unfold wY y4;rw[Ln,Ln,LU h];rfl
theorem AI {m i o u:Nat}{T:Nat->Nat->Int}{f1 f2:FE}{ρ:aJ}(hg:qG i ρ=some (wY m T))(h1:f1 ρ=some (nI o))(h2:f2 ρ=some (nI u))(ho:o<m)(hu:u<m):vn i f1 f2 ρ=some (.int (T o u)):=by
 unfold vn;rw[hg,K6,h1,K6,h2,K6];dsimp only;rw[xr,i5 ho,K6,yI T ho,K6];dsimp only;exact nK (by rw[Ln,Ln,LU hu];rfl)
def og(T:Nat->Nat->Int)(o u:Nat)(v:Int)(a b:Nat):Int:=if a=o then(if b=u then v else T o b) else T a b
theorem xN {m i o u:Nat}{T:Nat->Nat->Int}{v:Int}{f1 f2 fv:FE}{ρ:aJ}(hg:qG i ρ=some (wY m T))(h1:f1 ρ=some (nI o))(h2:f2 ρ=some (nI u))(h3:fv ρ=some (.int v))(ho:o<m)(hu:u<m):pp i f1 f2 fv ρ=.nx (ρ.set i (.ob (.nst (wY m (og T o u v))))):=by
 unfold pp;rw[hg,h1,h2,h3];dsimp only;have e:Ef (wY m T) (nI o) (nI u) (.int v)=some (wY m (og T o u v)):=by
  unfold Ef;dsimp only;rw[xr,i5 ho,K6,yI T ho,K6];have:BB (nI u) (.int v) (.l (((KW m).map λb=>T o b).map D.int))=some (.l (((KW m).map λb=>if b=u then v else T o b).map D.int)):=by
   unfold BB;dsimp only;rw[K5,K5,Mh,i5 hu,MP,<-TH,yQ]
  rw[this,MP];congr 1
  rw[AW,AW,yQ];refine Md λa _=>?_
  by_cases ea:a=o
  ·subst ea
   rw[if_pos rfl];congr 2
   refine Md λb _=>?_
   unfold og;rw[if_pos rfl]
  ·rw[if_neg ea]
   congr 2
   refine Md λb _=>?_
   unfold og;rw[if_neg ea]
 rw[e]
theorem sP: ∀l:List (List Int),qr (l.map λis=>D.lst (is.map D.int))=some l
 | []=>rfl
 |is::l=>by
  show(iB (is.map D.int)).bind _=_;rw[nO,K6,sP l];rfl
abbrev cI(m:Nat)(T:Nat->Nat->Int):D:=.lst ((y4 m T).map λis=>.lst (is.map D.int))
theorem Af {m a b:Nat}{T:Nat->Nat->Int}{fM fa fb:FE}{ρ:aJ}(h1:fM ρ=some (cI m T))(h2:fa ρ=some (nI a))(h3:fb ρ=some (nI b))(ha:a<m)(hb:b<m):av aW (av aW fM fa) fb ρ=some (.int (T a b)):=by
 have e1:av aW fM fa ρ=some (.lst (((KW m).map λb=>T a b).map D.int)):=(az h1 h2).trans (nK (by unfold y4;rw[Ln,Ln,LU ha];rfl))
 exact(az e1 h3).trans (nK (by rw[Ln,Ln,LU hb];rfl))
abbrev ul(r x:List Nat)(LL:List (List Nat))(T:Nat->Nat->Int)(s3 s4 s5 s6 s7 s8:Sl):aJ:=[.v (aX r x),.v (gw LL),.ob (.nst (wY LL.length T)),s3,s4,s5,s6,s7,s8]
section
variable {n:Nat}{r x:List Nat}{LL:List (List Nat)}(R:Ord n r)(X:Ord n x)(hn:n<=6)(h:Lns n (ci r x) LL)
include hn h
theorem Bj {ρ:aJ}{j c:Nat}(hj:j<9)(hρ:ρ.length=9)(h1:ai 1 ρ=some (gw LL))(hc:ai j ρ=some (nI c))(cn:c<n):av aW (aR 1 (bz (ae (ak bu (ae (ai 1) (aj))) (aj))) (gN 9) (bL (av (mC false) (ai j) (av aW (ai 1) (ai 9)))) (ai 9)) (aA (.int 0)) ρ=some (nI (eV LL c)):=by
 have hl:=h.len
 have cp:aR 1 (bz (ae (ak bu (ae (ai 1) (aj))) (aj))) (gN 9) (bL (av (mC false) (ai j) (av aW (ai 1) (ai 9)))) (ai 9) ρ=some (.lst [nI (eV LL c)]):=by
  refine bV (ds:=(KW LL.length).map nI) (cz (n:=LL.length) (ao (wA LL h1) rfl) (by omega)) (by simp;omega) ((gu (h:=nI) (o:=nI) (q:=λk=>decide (c∈LL.getD k [])) (KW LL.length) λk hk=>?_).trans ?_)
  ·have hk:=La.mp hk
   have kp: ∀j,j<9->ai j ((ρ++K1 1 Sl.no).set 9 (.v (nI k)))=ai j ρ:=λj hj=>by
    unfold ai;rw[K9 (by omega),LG (by omega)]
   have k9:ai 9 ((ρ++K1 1 Sl.no).set 9 (.v (nI k)))=some (nI k):=by
    unfold ai;rw[Lg (by simp[hρ])]
   refine⟨_,rfl,bN ((az ((kp j hj).trans hc) ((az ((kp 1 (by omega)).trans h1) k9).trans (show aW (gw LL) (nI k)=some (.lst ((LL.getD k []).map nI)) from nK (by rw[Ln,K0 hk,K2,K0 hk];rfl)))).trans (Ko _ _)),λ_=>k9⟩
  ·rw[jH (eK h cn).1 λk hk=>by rw[decide_eq_true_eq];exact nA h cn hk]
   rfl
 exact(az cp (y:=.int 0) rfl).trans rfl
end
def lj(n:Nat)(r x:List Nat)(LL:List (List Nat))(a b:Nat):Int:=if a=b then 0 else SS n r x LL a b+SS n r x LL b a
theorem Jt {T:Nat->Nat->Int}{o u:Nat}{s:Int}(ne:o≠u):og (og T o u (T o u+s)) u o (og T o u (T o u+s) u o+s)=λa b=>T a b+(if a=o/\b=u then s else 0)+(if a=u/\b=o then s else 0):=by
 funext a b;unfold og
 by_cases h1:a=u
 ·subst h1
  have h2: ¬a=o:=λz=>ne z.symm
  by_cases h3:b=o
  ·subst h3;simp[h2]
  ·simp[h2,h3]
 ·by_cases h2:a=o
  ·subst h2
   by_cases h3:b=u
   ·subst h3;simp[h1]
   ·simp[h1,h3]
  ·simp[h1,h2]
theorem vm {α:Type}(q:α->Bool)(f:α->Int)(p:α)(l:List α):(((p::l).filter q).map f).sum=(if q p=true then f p else 0)+((l.filter q).map f).sum:=by
 by_cases h:q p=true
 ·rw[MG h,if_pos h,Lf,MW]
 ·rw[MF h,if_neg h];omega
def bK:FS:=(aD (bj 6 (av aW (aR 1 (bz (ae (ak bu (ae (av aW (ai 0) (aA (.int 0))) (aj))) (aj))) (gN 9) (bL (av iD (av aW (av aW (ai 0) (aA (.int 0))) (ai 9)) (ai 4))) (ai 9)) (aA (.int 0))))
 (aD (bj 7 (av aW (aR 1 (bz (ae (ak bu (ae (ai 1) (aj))) (aj))) (gN 9) (bL (av (mC false) (ai 3) (av aW (ai 1) (ai 9)))) (ai 9)) (aA (.int 0))))
 (aD (bj 8 (av aW (aR 1 (bz (ae (ak bu (ae (ai 1) (aj))) (aj))) (gN 9) (bL (av (mC false) (ai 6) (av aW (ai 1) (ai 9)))) (ai 9)) (aA (.int 0))))
 (fS (bL (av nM (ai 7) (ai 8))) (aD (pp 2 (ai 7) (ai 8) (av bC (vn 2 (ai 7) (ai 8)) (ai 5)))
 (pp 2 (ai 8) (ai 7) (av bC (vn 2 (ai 8) (ai 7)) (ai 5)))) (skip)))))
def uG(T:Nat->Nat->Int)(o u:Nat)(s:Int)(a b:Nat):Int:=if o=u then T a b else T a b+(if a=o/\b=u then s else 0)+(if a=u/\b=o then s else 0)
section
variable {n:Nat}{r x:List Nat}{LL:List (List Nat)}(R:Ord n r)(X:Ord n x)(hn:n<=6)(h:Lns n (ci r x) LL)
include R hn h
theorem IM {T:Nat->Nat->Int}{c y:Nat}{s:Int}(hc:c<n)(hy:y<n)(s6 s7 s8:Sl): ∃s6' s7' s8',bK (ul r x LL T (.v (nI c)) (.v (nI y)) (.v (.int s)) s6 s7 s8)=.nx (ul r x LL (uG T (eV LL c) (eV LL (r.idxOf y)) s) (.v (nI c)) (.v (nI y)) (.v (.int s)) s6' s7' s8'):=by
 obtain⟨i1,i2⟩:=bf R hy
 have q1:bj 6 (av aW (aR 1 (bz (ae (ak bu (ae (av aW (ai 0) (aA (.int 0))) (aj))) (aj))) (gN 9) (bL (av iD (av aW (av aW (ai 0) (aA (.int 0))) (ai 9)) (ai 4))) (ai 9)) (aA (.int 0))) (ul r x LL T (.v (nI c)) (.v (nI y)) (.v (.int s)) s6 s7 s8)=.nx (ul r x LL T (.v (nI c)) (.v (nI y)) (.v (.int s)) (.v (nI (r.idxOf y))) s7 s8):=by
  refine(bv (d:=nI (r.idxOf y)) ((az (x:=.lst [nI (r.idxOf y)]) (bV (ds:=(KW n).map nI) (cz (n:=n) (ao ((eL r _ _ ((az (x:=aX r x) (y:=.int 0) rfl rfl).trans rfl)).trans (by rw[R.len])) rfl) (by omega)) (by simp;omega) ((gu (h:=nI) (o:=nI) (q:=λi=>decide (r.getD i 0=y)) (KW n) λi hi=>⟨_,rfl,bN ((az ((az ((az (x:=aX r x) (y:=.int 0) rfl rfl).trans rfl) (y:=nI i) rfl).trans (gI (by rw[R.len];exact La.mp hi))) (y:=nI y) rfl).trans (wR _ _)),λ_=>rfl⟩).trans ?_)) (y:=.int 0) rfl).trans rfl)).trans rfl
  rw[jH i1 λi hi=>by rw[decide_eq_true_eq];exact⟨λe=>by rw[<-e,bZ R hi],λe=>by rw[e,i2]⟩]
  rfl
 have l1:=(eK h hc).1
 have l2:=(eK h i1).1
 have q2:bj 7 (av aW (aR 1 (bz (ae (ak bu (ae (ai 1) (aj))) (aj))) (gN 9) (bL (av (mC false) (ai 3) (av aW (ai 1) (ai 9)))) (ai 9)) (aA (.int 0))) (ul r x LL T (.v (nI c)) (.v (nI y)) (.v (.int s)) (.v (nI (r.idxOf y))) s7 s8)=.nx (ul r x LL T (.v (nI c)) (.v (nI y)) (.v (.int s)) (.v (nI (r.idxOf y))) (.v (nI (eV LL c))) s8):=(bv (Bj hn h (j:=3) (by omega) rfl rfl rfl hc)).trans rfl
 have q3:bj 8 (av aW (aR 1 (bz (ae (ak bu (ae (ai 1) (aj))) (aj))) (gN 9) (bL (av (mC false) (ai 6) (av aW (ai 1) (ai 9)))) (ai 9)) (aA (.int 0))) (ul r x LL T (.v (nI c)) (.v (nI y)) (.v (.int s)) (.v (nI (r.idxOf y))) (.v (nI (eV LL c))) s8)=.nx (ul r x LL T (.v (nI c)) (.v (nI y)) (.v (.int s)) (.v (nI (r.idxOf y))) (.v (nI (eV LL c))) (.v (nI (eV LL (r.idxOf y))))):=(bv (Bj hn h (j:=6) (by omega) rfl rfl rfl i1)).trans rfl
 generalize eV LL c=o at*
 generalize eV LL (r.idxOf y)=u at*
 refine⟨.v (nI (r.idxOf y)),.v (nI o),.v (nI u),(aC q1).trans ((aC q2).trans ((aC q3).trans ?_))⟩
 by_cases e:o=u
 ·have:uG T o u s=T:=by funext a b;unfold uG;rw[if_pos e]
  rw[this];exact cL ((xj (a:=o) (b:=u) rfl rfl).trans (by simp[e]))
 ·have:uG T o u s=og (og T o u (T o u+s)) u o (og T o u (T o u+s) u o+s):=by rw[Jt e];funext a b;unfold uG;rw[if_neg e]
  rw[this];refine(i0 ((xj (a:=o) (b:=u) rfl rfl).trans (by simp[e]))).trans ?_
  refine(aC (ρ':=ul r x LL (og T o u (T o u+s)) (.v (nI c)) (.v (nI y)) (.v (.int s)) (.v (nI (r.idxOf y))) (.v (nI o)) (.v (nI u))) ((xN (m:=LL.length) (T:=T) rfl rfl rfl ((az (AI (m:=LL.length) (T:=T) rfl rfl rfl l1 l2) (y:=.int s) rfl).trans (dY _ _)) l1 l2).trans rfl)).trans ?_
  exact(xN (m:=LL.length) (T:=og T o u (T o u+s)) rfl rfl rfl ((az (AI (m:=LL.length) (T:=og T o u (T o u+s)) rfl rfl rfl l2 l1) (y:=.int s) rfl).trans (dY _ _)) l2 l1).trans rfl
theorem Fc: ∀(l:List (Nat×Nat)) (T:Nat->Nat->Int) (s3 s4 s5 s6 s7 s8:Sl),(∀p∈l,p.1<n/\p.2<n)-> ∃s3' s4' s5' s6' s7' s8',fh (gT 3 (cA (gN 3) (cA (gN 4) (cA (gN 5) (iC))))) bK (l.map λp=>tL [(p.1:Int),(p.2:Int),mx r x p]) (ul r x LL T s3 s4 s5 s6 s7 s8)=.nx (ul r x LL (λa b=>T a b+if a=b then 0 else((l.filter (qP r (eV LL) a b)).map (mx r x)).sum+((l.filter (qP r (eV LL) b a)).map (mx r x)).sum) s3' s4' s5' s6' s7' s8')
 | [],T,s3,s4,s5,s6,s7,s8,_=>⟨s3,s4,s5,s6,s7,s8,by
   have:(λa b=>T a b+if a=b then 0 else((([]:List (Nat×Nat)).filter (qP r (eV LL) a b)).map (mx r x)).sum+((([]:List (Nat×Nat)).filter (qP r (eV LL) b a)).map (mx r x)).sum)=T:=by
    funext a b;show T a b+(if a=b then 0 else 0+0)=_
    split<;>omega
   rw[this];rfl⟩
 |p::l,T,s3,s4,s5,s6,s7,s8,hp=>by
  obtain⟨h1,h2⟩:=hp p Lu
  obtain⟨s6',s7',s8',e⟩:=IM R hn h (T:=T) (s:=mx r x p) h1 h2 s6 s7 s8
  obtain⟨t3,t4,t5,t6,t7,t8,e2⟩:=Fc l (uG T (eV LL p.1) (eV LL (r.idxOf p.2)) (mx r x p)) (.v (nI p.1)) (.v (nI p.2)) (.v (.int (mx r x p))) s6' s7' s8' λq hq=>hp q (Lb _ hq)
  refine⟨t3,t4,t5,t6,t7,t8,?_⟩
  have fe:(λa b=>T a b+if a=b then 0 else(((p::l).filter (qP r (eV LL) a b)).map (mx r x)).sum+(((p::l).filter (qP r (eV LL) b a)).map (mx r x)).sum)=λa b=>uG T (eV LL p.1) (eV LL (r.idxOf p.2)) (mx r x p) a b+if a=b then 0 else((l.filter (qP r (eV LL) a b)).map (mx r x)).sum+((l.filter (qP r (eV LL) b a)).map (mx r x)).sum:=by
   funext a b;rw[vm,vm];have k1: ∀a b,(qP r (eV LL) a b p=true)=(a=eV LL p.1/\b=eV LL (r.idxOf p.2)):=λa b=>by
    unfold qP;rw[Lk,decide_eq_true_eq,decide_eq_true_eq];exact propext ⟨λz=>⟨z.1.symm,z.2.symm⟩,λz=>⟨z.1.symm,z.2.symm⟩⟩
   simp only[k1];unfold uG
   generalize eV LL p.1=o
   generalize eV LL (r.idxOf p.2)=u
   generalize ((l.filter (qP r (eV LL) a b)).map (mx r x)).sum=S1
   generalize ((l.filter (qP r (eV LL) b a)).map (mx r x)).sum=S2
   generalize mx r x p=s
   by_cases eab:a=b
   ·subst eab
    rw[if_pos rfl,if_pos rfl]
    by_cases eo:o=u
    ·rw[if_pos eo]
    ·rw[if_neg eo,if_neg (λz=>eo (z.1.symm.trans z.2)),if_neg (λz=>eo (z.2.symm.trans z.1))];omega
   ·rw[if_neg eab,if_neg eab]
    by_cases eo:o=u
    ·rw[if_pos eo,if_neg (λz=>eab (z.1.trans (eo.trans z.2.symm))),if_neg (λz=>eab (z.2.trans (eo.symm.trans z.1.symm)))];omega
    ·rw[if_neg eo]
     have:(b=o/\a=u)=(a=u/\b=o):=propext ⟨λz=>⟨z.2,z.1⟩,λz=>⟨z.2,z.1⟩⟩
     simp only[this];omega
  rw[fe,Lf];exact(fG (ρ1:=ul r x LL T (.v (nI p.1)) (.v (nI p.2)) (.v (.int (mx r x p))) s6 s7 s8) rfl e).trans e2
include X
theorem sL(hL:cS [aX r x]=some (gw LL)):dE [aX r x]=some (cI LL.length (lj n r x LL)):=by
 have hl:=h.len
 apply iQ (kd:=.s) (n:=9) (t:=ny)
 have z1:bj 1 (ak (nF 1 cS) (ae (ai 0) (aj))) (fO 9 [aX r x])=.nx [.v (aX r x),.v (gw LL),.no,.no,.no,.no,.no,.no,.no]:=(bv ((bJ (ds:=[aX r x]) rfl rfl).trans hL)).trans rfl
 have z2:A4 2 1 (dz (ai 1)) (gN 9) (cq) (aR 1 (dz (ai 1)) (gN 10) (cq) (aA (.int 0))) [.v (aX r x),.v (gw LL),.no,.no,.no,.no,.no,.no,.no]=.nx (ul r x LL (λ_ _=>0) .no .no .no .no .no .no):=by
  have c1:lX (gN 9) (cq) (Ah (aR 1 (dz (ai 1)) (gN 10) (cq) (aA (.int 0)))) ([.v (aX r x),.v (gw LL),.no,.no,.no,.no,.no,.no,.no]++K1 1 .no) (LL.map λL=>D.lst (L.map nI))=some ((LL.map λ_=>LL.map λ_=>(0:Int)).map λis=>.lst (is.map D.int)):=by
   refine(jU (h:=λL:List Nat=>D.lst (L.map nI)) (q:=λ_=>true) (o:=λ_=>[.lst ((LL.map λ_=>(0:Int)).map D.int)]) LL λL hL=>⟨[.v (aX r x),.v (gw LL),.no,.no,.no,.no,.no,.no,.no,.v (.lst (L.map nI))],rfl,rfl,λ_=>?_⟩).trans (by rw[M7.mpr (λ_ _=>rfl),lI];exact congrArg some (LA (l:=LL) (g:=λis:List Int=>D.lst (is.map D.int)) (f:=λ_=>LL.map λ_=>(0:Int))).symm)
   have:aR 1 (dz (ai 1)) (gN 10) (cq) (aA (.int 0)) [.v (aX r x),.v (gw LL),.no,.no,.no,.no,.no,.no,.no,.v (.lst (L.map nI))]=some (.lst ((LL.map λ_=>(0:Int)).map D.int)):=by
    refine bV (ds:=LL.map λL=>D.lst (L.map nI)) (j7 rfl) (by rw[K5];omega) ?_
    rw[LA];exact cE (h:=λL:List Nat=>D.lst (L.map nI)) (o:=λ_=>D.int 0) LL λL hL=>⟨_,rfl,rfl⟩
   unfold Ah;rw[this];dsimp only;rw[nO];rfl
  unfold A4;rw[show dz (ai 1) [.v (aX r x),.v (gw LL),.no,.no,.no,.no,.no,.no,.no]=some (LL.map λL=>D.lst (L.map nI)) from j7 rfl]
  dsimp only;rw[c1];dsimp only;rw[sP];dsimp only;rw[if_pos (by rw[K5,K5];omega)]
  have:(LL.map λ_=>LL.map λ_=>(0:Int))=y4 LL.length (λ_ _=>0):=by unfold y4;simp[List.map_const']
  rw[this];rfl
 obtain⟨s3,s4,s5,s6,s7,s8,e⟩:=Fc R hn h (ol n r x) (λ_ _=>0) .no .no .no .no .no .no λp hp=>xv hp
 have fe:(λa b=>(0:Int)+if a=b then 0 else(((ol n r x).filter (qP r (eV LL) a b)).map (mx r x)).sum+(((ol n r x).filter (qP r (eV LL) b a)).map (mx r x)).sum)=lj n r x LL:=by
  funext a b;unfold lj SS;rw[xx,xx];split<;>omega
 rw[fe] at e;have ce:ak (nF 1 cf) (ae (ai 0) (aj)) (ul r x LL (λ_ _=>0) .no .no .no .no .no .no)=some (.lst ((ol n r x).map λp=>tL [(p.1:Int),(p.2:Int),mx r x p])):=by
  refine((bJ (ds:=[aX r x]) rfl rfl).trans (vt R X hn)).trans ?_
  rw[BA,LA];rfl
 have z3:gW (dU (dz (ak (nF 1 cf) (ae (ai 0) (aj))))) (gT 3 (cA (gN 3) (cA (gN 4) (cA (gN 5) (iC))))) bK (ul r x LL (λ_ _=>0) .no .no .no .no .no .no)=.nx (ul r x LL (lj n r x LL) s3 s4 s5 s6 s7 s8):=(ir (ck (j7 ce))).trans e
 have z4:vS 2 (aZ (ai 2)) (ul r x LL (lj n r x LL) s3 s4 s5 s6 s7 s8)=.rt (cI LL.length (lj n r x LL)) [.v (aX r x),.v (gw LL),.v (cI LL.length (lj n r x LL)),s3,s4,s5,s6,s7,s8]:=by
  unfold vS IO;rw[show qG 2 (ul r x LL (lj n r x LL) s3 s4 s5 s6 s7 s8)=some (wY LL.length (lj n r x LL)) from rfl,K6];have:(wY LL.length (lj n r x LL)).mapM JW=some ((y4 LL.length (lj n r x LL)).map λis=>is.map D.int):=by
   unfold wY
   generalize y4 LL.length (lj n r x LL)=M
   induction M with
   |nil=>rfl
   |cons a M ih=>rw[Lf,Sb,ih];rfl
  rw[this,MP,LA];exact bc rfl
 exact⟨_,(aC z1).trans ((aC z2).trans ((aC z3).trans z4))⟩
end
theorem nv(xs ys:List D)(h:xs.length+ys.length<=900):jw (.lst xs) (.lst ys)=some (.lst (xs++ys)):=if_pos (LW h (by decide))
theorem Ar(l:List Nat)(a:Nat):rN (l.map nI) (some (a:Int)) none=(l.drop a).map nI:=by
 unfold rN;rw[HT.sIx_none,HT.sIx_nat,K5]
 by_cases h:a<=l.length
 ·rw[PF h,NC (by simp),SJ]
 ·rw[Rm (by omega),TR,List.take_zero,M8 (by omega)];rfl
theorem GT(l:List Nat)(a:Nat):rN (l.map nI) none (some (a:Int))=(l.take a).map nI:=by
 unfold rN;rw[HT.sIx_none,HT.sIx_nat,K5,List.drop_zero,Nat.sub_zero,SI]
 by_cases h:a<=l.length
 ·rw[PF h]
 ·rw[Rm (by omega),NC (by simp),NC (by simp;omega)]
theorem AJ {f:FE}{ρ:aJ}{l:List Nat}{g:FE}{a:Nat}(h1:f ρ=some (.lst (l.map nI)))(h2:g ρ=some (nI a)):pL f (z7 g) B0 ρ=some (.lst ((l.drop a).map nI)):=by
 unfold pL z7 B0;rw[h1,K6];dsimp only;rw[h2];show some (D.lst (rN (l.map nI) (some (a:Int)) none))=_;rw[Ar]
theorem Gc {f:FE}{ρ:aJ}{l:List Nat}{g:FE}{a:Nat}(h1:f ρ=some (.lst (l.map nI)))(h2:g ρ=some (nI a)):pL f B0 (z7 g) ρ=some (.lst ((l.take a).map nI)):=by
 unfold pL z7 B0;rw[h1,K6];dsimp only;rw[h2];show some (D.lst (rN (l.map nI) none (some (a:Int))))=_;rw[GT]
theorem Ie(l:List Nat){f:FE}{ρ:aJ}(h:f ρ=some (.lst (l.map nI))):ak bu (ae f aj) ρ=some (nI l.length):=by
 refine(bU (ao h rfl)).trans ?_
 show some (D.int ((l.map nI).length:Int))=_;rw[K5]
def bR:FS:=bj 3 (av jw (ai 3) (aR 1 (bz (ae (av bC (ak bu (ae (ai 4) (aj))) (aA (.int 1))) (aj))) (gN 5) (cq) (av jw (av jw (pL (ai 4) B0 (z7 (ai 5))) (dZ (ae (ai 2) (aj)))) (pL (ai 4) (z7 (ai 5)) B0))))
theorem Ij {d0 d1:Sl}{k:Nat}{l:List Nat}{L:List (List Nat)}(hl:l.length=k)(hk:k<=6)(hL:L.length<=800):bR [d0,d1,.v (nI k),.v (gw L),.v (.lst (l.map nI))]=.nx [d0,d1,.v (nI k),.v (gw (L++u4 k l)),.v (.lst (l.map nI))]:=by
 have cp:aR 1 (bz (ae (av bC (ak bu (ae (ai 4) (aj))) (aA (.int 1))) (aj))) (gN 5) (cq) (av jw (av jw (pL (ai 4) B0 (z7 (ai 5))) (dZ (ae (ai 2) (aj)))) (pL (ai 4) (z7 (ai 5)) B0)) [d0,d1,.v (nI k),.v (gw L),.v (.lst (l.map nI))]=some (gw (u4 k l)):=by
  refine bV (ds:=(KW (l.length+1)).map nI) (cz (n:=l.length+1) (ao ((az (Ie l rfl) (y:=.int 1) rfl).trans (dY _ _)) rfl) (by omega)) (by simp;omega) ?_
  unfold u4;rw[LA];refine cE (h:=nI) (o:=λa=>.lst ((l.take a++[k]++l.drop a).map nI)) (KW (l.length+1)) λa ha=>⟨[d0,d1,.v (nI k),.v (gw L),.v (.lst (l.map nI)),.v (nI a)],rfl,?_⟩
  refine(az ((az (Gc (f:=ai 4) (l:=l) (g:=ai 5) (a:=a) rfl rfl) (li (ds:=[nI k]) rfl (by simp))).trans (nv _ _ (by simp;omega))) (AJ (f:=ai 4) (l:=l) (g:=ai 5) (a:=a) rfl rfl)).trans ((nv _ _ (by simp;omega)).trans ?_)
  rw[L5,L5];rfl
 refine(bv ((az (x:=gw L) rfl cp).trans ((nv _ _ (by unfold u4;simp;omega)).trans ?_))).trans rfl
 unfold gw;rw[L5]
theorem u3 {d0 d1:Sl}{k:Nat}(hk:k<=6): ∀(ls L:List (List Nat)) (s4:Sl),(∀l∈ls,l.length=k)->L.length+ls.length*(k+1)<=800-> ∃s4',fh (gN 4) bR (ls.map λl=>D.lst (l.map nI)) [d0,d1,.v (nI k),.v (gw L),s4]=.nx [d0,d1,.v (nI k),.v (gw (L++ls.flatMap (u4 k))),s4']
 | [],L,s4,_,_=>⟨s4,by rw[List.flatMap_nil,Me];rfl⟩
 |l::ls,L,s4,h1,h2=>by
  have hl:=h1 l Lu
  rw[LM,Nat.add_mul] at h2;obtain⟨s4',e⟩:=u3 hk ls (L++u4 k l) (.v (.lst (l.map nI))) (λl' hl'=>h1 l' (Lb _ hl')) (by unfold u4;simp;omega)
  refine⟨s4',?_⟩
  rw[Lf,NL,<-Oe];exact(fG (ρ1:=[d0,d1,.v (nI k),.v (gw L),.v (.lst (l.map nI))]) rfl (Ij hl hk (by omega))).trans e
theorem zL {m:Nat}(h:m<=5):(fQ m).length*(m+1)<=720:=by
 have:m=0\/m=1\/m=2\/m=3\/m=4\/m=5:=by omega
 rcases this with h|h|h|h|h|h<;>subst h<;>decide+kernel
theorem yV {m:Nat}(hm:m<=6):i7 [nI m]=some (gw (fQ m)):=by
 obtain⟨ρ',e,s2,s3,s4,rfl⟩:=pT (g:=gN 2) (b:=aD (bj 3 (dZ (aj))) (aD (gW (dU (dz (ai 1))) (gN 4) bR) (bj 1 (ai 3)))) (P:=λi ρ=> ∃s2 s3 s4,ρ=[.v (nI m),.v (gw (fQ i)),s2,s3,s4]) m 0 (λi ρ _ hi hq_=>by
  obtain⟨s2,s3,s4,e⟩:=hq_
  subst e;rw[No] at hi;obtain⟨s4',e'⟩:=u3 (d0:=.v (nI m)) (d1:=.v (gw (fQ i))) (k:=i) (by omega) (fQ i) [] s4 (λl hl=>by have:=(oS i l hl).length_eq;simpa using this) (by have:=zL (m:=i) (by omega);simp;omega)
  refine⟨[.v (nI m),.v (gw (fQ i)),.v (nI i),s3,s4],[.v (nI m),.v (gw (fQ (i+1))),.v (nI i),.v (gw (fQ (i+1))),s4'],rfl,?_,⟨_,_,_,rfl⟩⟩
  refine(aC (ρ':=[.v (nI m),.v (gw (fQ i)),.v (nI i),.v (gw []),s4]) rfl).trans ?_
  refine(aC ((ir (ds:=(fQ i).map λl=>D.lst (l.map nI)) (ck (j7 rfl))).trans e')).trans ?_
  exact(bv (d:=gw (fQ (i+1))) rfl).trans rfl) [.v (nI m),.v (gw (fQ 0)),.no,.no,.no] ⟨_,_,_,rfl⟩
 rw[No] at e;refine iQ (kd:=.s) (n:=5) (t:=nL) ⟨[.v (nI m),.v (gw (fQ (0+m))),s2,s3,s4],?_⟩
 rw[No];refine(aC (ρ':=[.v (nI m),.v (gw (fQ 0)),.no,.no,.no]) rfl).trans ?_
 refine(aC ((ir (ds:=(KW m).map nI) (ck (cz (n:=m) (ao rfl rfl) (by omega)))).trans (by rw[MX];exact e))).trans ?_
 exact bc rfl
theorem DJ {l:List D}(h: ∀d∈l,∃is:List Int,d=.lst (is.map D.int)):fq (.lst l)<=32:=by
 have:dB l<=1:=nY λd hd=>by
  obtain⟨is,rfl⟩:=h d hd
  unfold fq;rw[wj];omega
 unfold fq;omega
theorem nR(m:Nat)(T:Nat->Nat->Int){f:FE}{ρ:aJ}(h:f ρ=some (cI m T)):ak bu (ae f aj) ρ=some (nI m):=by
 refine(bU (ao h rfl)).trans ?_
 show some (D.int (((y4 m T).map λis=>D.lst (is.map D.int)).length:Int))=_
 unfold y4;rw[K5,K5,Mh]
theorem Bd {m:Nat}(hm:m<=6){T T':Nat->Nat->Int}{s:List Nat}(hs:s.Perm (KW m))(hT: ∀i j,i<m->j<m->T' (s.getD i 0) (s.getD j 0)=T i j):fj [cI m T',cI m T]=some (.bl true):=by
 let A:List Nat->D:=λl=>.lst (l.map λi=>.lst ((l.map λj=>T' i j).map D.int))
 have dA: ∀l,fq (A l)<=32:=λl=>DJ λd hd=>by
  obtain⟨i,_,rfl⟩:=LX.mp hd
  exact⟨_,rfl⟩
 have sl:s.length=m:=by have:=hs.length_eq;simpa using this
 have As:A s=cI m T:=by
  show D.lst _=D.lst _;congr 1
  have se:s=(KW m).map λi=>s.getD i 0:=by
   apply Ot (by simp[sl])
   intro i h1 h2;rw[List.getElem_map,List.getElem_range,K2,K0 h1];rfl
  rw[y4,LA]
  conv=>lhs;arg 2;rw[se]
  rw[LA];refine Md λi hi=>?_
  show D.lst ((s.map λj=>T' (s.getD i 0) j).map D.int)=D.lst (((KW m).map λb=>T i b).map D.int)
  congr 2
  conv=>lhs;arg 2;rw[se]
  rw[LA];refine Md λj hj=>?_
  exact hT i j (La.mp hi) (La.mp hj)
 have ev: ∀l,l∈fQ m->aR 1 (dz (ai 2)) (gN 3) (cq) (aR 1 (dz (ai 2)) (gN 4) (cq) (av aW (av aW (ai 0) (ai 3)) (ai 4))) [.v (cI m T'),.v (cI m T),.v (.lst (l.map nI))]=some (A l):=λl hl=>by
  have pm:=oS m l hl
  have ll:l.length=m:=by have:=pm.length_eq;simpa using this
  have lt: ∀i∈l,i<m:=λi hi=>by simpa using pm.mem_iff.mp hi
  refine bV (ds:=l.map nI) (j7 rfl) (by simp;omega) (cE (h:=nI) (o:=λi=>.lst ((l.map λj=>T' i j).map D.int)) l λi hi=>⟨[.v (cI m T'),.v (cI m T),.v (.lst (l.map nI)),.v (nI i)],rfl,?_⟩)
  refine bV (ds:=l.map nI) (j7 rfl) (by simp;omega) ?_
  rw[LA];exact cE (h:=nI) (o:=λj=>.int (T' i j)) l λj hj=>⟨[.v (cI m T'),.v (cI m T),.v (.lst (l.map nI)),.v (nI i),.v (nI j)],rfl,Af (T:=T') rfl rfl rfl (lt i hi) (lt j hj)⟩
 obtain⟨_,f2⟩:=vy (g:=gN 2) (b:=fS (bL (av iD (aR 1 (dz (ai 2)) (gN 3) (cq) (aR 1 (dz (ai 2)) (gN 4) (cq) (av aW (av aW (ai 0) (ai 3)) (ai 4)))) (ai 1))) (aZ (aA (.bl true))) (skip)) (h:=λl:List Nat=>D.lst (l.map nI)) (ok:=λl=> !eN (A l) (cI m T)) (d:=.bl true) (P:=λρ=> ∃s2,ρ=[.v (cI m T'),.v (cI m T),s2]) (fQ m) (λl hl ρ hq_=>by
  obtain⟨s2,e⟩:=hq_
  subst e;have te:bL (av iD (aR 1 (dz (ai 2)) (gN 3) (cq) (aR 1 (dz (ai 2)) (gN 4) (cq) (av aW (av aW (ai 0) (ai 3)) (ai 4)))) (ai 1)) [.v (cI m T'),.v (cI m T),.v (.lst (l.map nI))]=some (eN (A l) (cI m T)):=bN ((az (ev l hl) (y:=cI m T) rfl).trans (jE (dA l)))
  refine⟨[.v (cI m T'),.v (cI m T),.v (.lst (l.map nI))],rfl,λk=>⟨_,cL (te.trans (by rw[show eN (A l) (cI m T)=false by simpa using k])),_,rfl⟩,λk=>⟨_,(i0 (te.trans (by rw[show eN (A l) (cI m T)=true by simpa using k]))).trans (bc rfl)⟩⟩) [.v (cI m T'),.v (cI m T),.no] ⟨_,rfl⟩
 obtain⟨ρ',e⟩:=f2 (by
  rw[<-Rk];intro z;have:=Nu.mp z s (u5 m s hs)
  rw[As,nE] at this;exact absurd this (by decide))
 refine iQ (kd:=.s) (n:=3) (t:=pk) ⟨ρ',mR ((ir (ds:=(fQ m).map λl=>D.lst (l.map nI)) (ck (j7 ((bJ (ds:=[nI m]) (ao (nR m T' rfl) rfl) rfl).trans (yV hm))))).trans e)⟩
section
variable {n:Nat}{r x:List Nat}{LL:List (List Nat)}(R:Ord n r)(X:Ord n x)(hn:n<=6)(h:Lns n (ci r x) LL)
include R X hn h
theorem AH(hL:eC [aX r x]=some (gw LL))(hL2:cS [aX r x]=some (gw LL)):dD [aX r x,cI LL.length (lj n r x LL)]=some (.bl true):=by
 have hl:=h.len
 let M:D:=cI LL.length (lj n r x LL)
 let F:Nat->List D:=λi=>(KW i).flatMap λa=>(Mj (a+1) (LL.length- (a+1))).map (vL n r x LL a)
 have Fl: ∀i,i<=LL.length->(F i).length<=36:=λi hi=>by
  refine LW (nP (b:=6) _ λa _=>?_) (by rw[Mh];omega)
  rw[K5,QJ];omega
 obtain⟨ρ',e,s3,rfl⟩:=pT (g:=gN 3) (b:=bj 2 (av jw (ai 2) (aR 1 (po (ae (av bC (ai 3) (aA (.int 1))) (ae (ak bu (ae (ai 1) (aj))) (aj)))) (gN 4) (cq) (bF (ae (ai 3) (ae (ai 4) (ae (av iZ (av aW (av aW (ai 1) (ai 3)) (ai 4)) (aA (.int 2))) (aj)))))))) (P:=λi ρ=> ∃s3,ρ=[.v (aX r x),.v M,.v (.lst (F i)),s3]) LL.length 0 (λi ρ _ hi hq_=>by
  obtain⟨s3,e⟩:=hq_
  subst e;rw[No] at hi;have cp:aR 1 (po (ae (av bC (ai 3) (aA (.int 1))) (ae (ak bu (ae (ai 1) (aj))) (aj)))) (gN 4) (cq) (bF (ae (ai 3) (ae (ai 4) (ae (av iZ (av aW (av aW (ai 1) (ai 3)) (ai 4)) (aA (.int 2))) (aj))))) [.v (aX r x),.v M,.v (.lst (F i)),.v (nI i)]=some (.lst ((Mj (i+1) (LL.length- (i+1))).map (vL n r x LL i))):=by
   refine bV (ds:=(Mj (i+1) (LL.length- (i+1))).map nI) (vc (ao ((az (x:=nI i) (y:=.int 1) rfl rfl).trans (dY _ _)) (ao (nR _ _ rfl) rfl)) (by omega) (by omega)) (by simp;omega) ?_
   refine cE (h:=nI) (o:=vL n r x LL i) _ λj hj=>⟨[.v (aX r x),.v M,.v (.lst (F i)),.v (nI i),.v (nI j)],rfl,?_⟩
   obtain⟨hj1,hj2⟩:=Q7.mp hj
   refine cD (ao rfl (ao rfl (ao (d:=.int (SS n r x LL i j)) ?_ rfl))) (by simp)
   refine(az (Af (T:=lj n r x LL) rfl rfl rfl hi (by omega)) (y:=.int 2) rfl).trans ((kD (by decide) (by decide)).trans ?_)
   unfold lj;rw[if_neg (by omega),show SS n r x LL j i=SS n r x LL i j from qR R X (λc hc=>tS h hc) j i]
   congr 2
   omega
  refine⟨[.v (aX r x),.v M,.v (.lst (F i)),.v (nI i)],[.v (aX r x),.v M,.v (.lst (F (i+1))),.v (nI i)],rfl,?_,⟨_,rfl⟩⟩
  have:F (i+1)=F i++(Mj (i+1) (LL.length- (i+1))).map (vL n r x LL i):=by
   show(KW (i+1)).flatMap _=_;rw[Nl,List.flatMap_append,List.flatMap_singleton]
  rw[this];exact(bv ((az (x:=.lst (F i)) rfl cp).trans (nv _ _ (by have:=Fl i (by omega);simp;omega)))).trans rfl) [.v (aX r x),.v M,.v (.lst (F 0)),.no] ⟨_,rfl⟩
 rw[No] at e;have dt:fq (.lst (B7 n r x LL))<=32:=by
  have:dB (B7 n r x LL)<=1:=nY λd hd=>by
   obtain⟨a,_,h2⟩:=Ny.mp hd
   obtain⟨b,_,rfl⟩:=LX.mp h2
   unfold vL fq;simp[dB,fq]
  unfold fq;omega
 have dl:fq (gw LL)<=32:=by
  have:dB (LL.map λL=>D.lst (L.map nI))<=1:=nY λd hd=>by
   obtain⟨L,_,rfl⟩:=LX.mp hd
   unfold fq;rw[jX];omega
  unfold gw fq;omega
 refine iQ (kd:=.s) (n:=4) (t:=lz) ⟨_,(aC (ρ':=[.v (aX r x),.v M,.v (.lst (F 0)),.no]) rfl).trans ((aC ((ir (ds:=(KW LL.length).map nI) (ck (cz (n:=LL.length) (ao (nR _ _ rfl) rfl) (by omega)))).trans (by rw[MX];exact e))).trans (bc (A1 (xn (bN ((az (x:=.lst (B7 n r x LL)) (y:=.lst (B7 n r x LL)) ((bJ (ds:=[aX r x]) rfl rfl).trans (Eh R X hn h hL)) rfl).trans (yb dt))) (bN ((az (x:=gw LL) (y:=gw LL) ((bJ (ds:=[aX r x]) rfl rfl).trans hL) ((bJ (ds:=[aX r x]) rfl rfl).trans hL2)).trans (yb dl)))))))⟩
end
theorem IN:pN=vG:=rfl
theorem Ga {n:Nat}{r x:List Nat}(G:Gd n r x)(m:Mo):(∀d,m.e n r x=.ok d->dI [aX r x,m.d]=some d)/\(∀z,m.e n r x=.error z->(z=CV\/z=EG)->dI [aX r x,m.d]=some (aX r x)):=by
 have e:=Br G m
 rw[<-IN] at e;refine⟨λd h=>?_,λz h hz=>?_⟩
 ·rw[h] at e
  exact iQ (kd:=.s) (n:=3) (t:=kQ) ⟨[.v (aX r x),.v m.d,.no],D5 (gA ((iz (ds:=[aX r x,m.d]) (jL rfl) rfl).trans e))⟩
 ·rw[h] at e
  have k1:exN.contains z.x=true:=by rcases hz with rfl|rfl<;>decide+kernel
  have k2:((["NoMove","TooMany"]:List Str).any λy=>pH z.x y)=true:=by rcases hz with rfl|rfl<;>decide+kernel
  exact iQ (kd:=.s) (n:=3) (t:=kQ) ⟨_,EW (gG ((iz (ds:=[aX r x,m.d]) (jL rfl) rfl).trans e)) k1 k2 (bc rfl)⟩
theorem Cr {N:Nat}{a b:Int}(B:Bag N a b)(hN:N<=800000000){n:Nat}(hlo:2<=n)(hhi:n<=6): ∃(m:Mo) (a' b':Int),ic (bq a b) [nI n]=some (m.d,bq a' b')/\Bag (N+3) a' b':=by
 obtain⟨w,a1,b1,e1,B1,w0,w1⟩:=jN (m:=9) B (by omega) (by decide) (by decide)
 obtain⟨d1,a2,b2,e2,B2,d10,d11⟩:=jN (m:=(n:Int)) B1 (by omega) (by omega) (Px (show _<9 by omega) (by decide))
 obtain⟨d2,a3,b3,e3,B3,d20,d21⟩:=jN (m:=(n:Int)) B2 (by omega) (by omega) (Px (show _<9 by omega) (by decide))
 obtain⟨wn,hwn,rfl⟩: ∃wn:Nat,wn<9/\w=wn:=⟨w.toNat,by omega,by omega⟩
 obtain⟨c,rfl⟩: ∃c':Nat,d1=c':=⟨d1.toNat,by omega⟩
 obtain⟨q,rfl⟩: ∃q':Nat,d2=q':=⟨d2.toNat,by omega⟩
 have m4:cH (nI q) (.int 4)=some (nI (q % 4)):=EN (n:=4) (by decide)
 let L7:List D:=[(Mo.cols c).d,(Mo.rows q).d,Mo.tip.d,(Mo.swap c).d,(Mo.cross q).d,(Mo.swap q).d,(Mo.cross c).d]
 let L9:List D:=L7++[(Mo.put c (q % 4:Nat)).d,(Mo.take c q).d]
 obtain⟨m,hm⟩: ∃m:Mo,aW (.lst L9) (nI wn)=some m.d:=by
  have:wn=0\/wn=1\/wn=2\/wn=3\/wn=4\/wn=5\/wn=6\/wn=7\/wn=8:=by omega
  rcases this with h|h|h|h|h|h|h|h|h<;>subst h
  ·exact⟨_,rfl⟩
  ·exact⟨_,rfl⟩
  ·exact⟨_,rfl⟩
  ·exact⟨_,rfl⟩
  ·exact⟨_,rfl⟩
  ·exact⟨_,rfl⟩
  ·exact⟨_,rfl⟩
  ·exact⟨_,rfl⟩
  ·exact⟨_,rfl⟩
 refine⟨m,a3,b3,?_,B3⟩
 refine Hh (kd:=.s) (n:=6) (t:=mV) (ρ:=[.arg (bq a3 b3),.v (nI n),.v (nI wn),.v (nI c),.v (nI q),.v (.lst L7)]) ?_ rfl
 unfold mV;refine(aC (ρ':=[.arg (bq a1 b1),.v (nI n),.v (nI wn),.no,.no,.no]) ((jb (cN (i:=0) (n:=1) (b0:=bq a b) (ds:=[.int 9]) rfl (ck rfl) rfl rfl e1)).trans rfl)).trans ?_
 refine(aC (ρ':=[.arg (bq a2 b2),.v (nI n),.v (nI wn),.v (nI c),.no,.no]) ((jb (cN (i:=0) (n:=1) (b0:=bq a1 b1) (ds:=[nI n]) rfl (ck rfl) rfl rfl e2)).trans rfl)).trans ?_
 refine(aC (ρ':=[.arg (bq a3 b3),.v (nI n),.v (nI wn),.v (nI c),.v (nI q),.no]) ((jb (cN (i:=0) (n:=1) (b0:=bq a2 b2) (ds:=[nI n]) rfl (ck rfl) rfl rfl e3)).trans rfl)).trans ?_
 have t2: ∀(s:Str) (f:FE) (k:Int) (ρ:aJ),f ρ=some (.int k)->bF (ae (aA (.str s)) (ae f (aj))) ρ=some (.tup [.str s,.int k]):=λs f k ρ h=>cD (ao rfl (ao h rfl)) (by simp)
 have t3: ∀(s:Str) (f g:FE) (k l:Int) (ρ:aJ),f ρ=some (.int k)->g ρ=some (.int l)->bF (ae (aA (.str s)) (ae f (ae g (aj)))) ρ=some (.tup [.str s,.int k,.int l]):=λs f g k l ρ h h2=>cD (ao rfl (ao h (ao h2 rfl))) (by simp)
 let ρ6 (s:Sl):aJ:=[.arg (bq a3 b3),.v (nI n),.v (nI wn),.v (nI c),.v (nI q),s]
 have q4: ∀s,av cH (ai 4) (aA (.int 4)) (ρ6 s)=some (nI (q % 4)):=λs=>(az (x:=nI q) (y:=.int 4) rfl rfl).trans m4
 refine(aC (ρ':=ρ6 (.v (.lst L7))) ((bv (li (ds:=L7) (ao (t2 _ _ _ _ rfl) (ao (t2 _ _ _ _ rfl) (ao rfl (ao (t2 _ _ _ _ rfl) (ao (t2 _ _ _ _ rfl) (ao (t2 _ _ _ _ rfl) (ao (t2 _ _ _ _ rfl) rfl))))))) (by show 7<=1000;omega))).trans rfl)).trans ?_
 exact bc ((az ((az (x:=.lst L7) rfl (li (ds:=[(Mo.put c (q % 4:Nat)).d,(Mo.take c q).d]) (ao (t3 _ _ _ _ _ _ rfl (q4 _)) (ao (t3 _ _ _ _ _ _ rfl rfl) rfl)) (by show 2<=1000;omega))).trans (nv _ _ (by show 7+2<=900;omega))) (y:=nI wn) rfl).trans hm)
structure LK(n:Nat)(r x:List Nat)(LL:List (List Nat)):Prop where
 h:Lns n (ci r x) LL
 g:Lnr (ci r x) LL
 e1:eC [aX r x]=some (gw LL)
 e2:cS [aX r x]=some (gw LL)
theorem FC {n:Nat}{r x:List Nat}(G:Gd n r x): ∃LL,LK n r x LL:=by
 have hhi:=G.hi
 obtain⟨C,hC,e1⟩:=BY G.R G.X (by omega)
 have e2:=zh G.R G.X (by omega) hC
 have e3:(.lst (((KW n).filter (iy (ci r x))).map λs=>.lst ((C s).map nI)):D)=gw (((KW n).filter (iy (ci r x))).map C):=by unfold gw;rw[LA];rfl
 rw[e3] at e1 e2;exact⟨_,He G.R G.X hC,G2 G.R G.X hC,e1,e2⟩
theorem C7 {n n':Nat}{r x r' x':List Nat}{LL LL':List (List Nat)}(G:Gd n r x)(G':Gd n' r' x')(K:LK n r x LL)(K':LK n' r' x' LL')(C:Car n r x n' r' x'):LL'.length=LL.length/\fj [cI LL'.length (lj n' r' x' LL'),cI LL.length (lj n r x LL)]=some (.bl true):=by
 obtain⟨le,s,pm,tie⟩:=B8 G.R G.X G'.R G'.X K.h K.g K'.h K'.g C
 refine⟨le,?_⟩
 rw[le];have hl:=K.h.len
 have hhi:=G.hi
 refine Bd (by omega) (s:=s) pm λi j hi hj=>?_
 unfold lj;have O:Ord LL.length s:=⟨pm⟩
 by_cases e:i=j
 ·rw[e,if_pos rfl,if_pos rfl]
 ·rw[if_neg e,if_neg (λz=>e (O.inj hi hj z))]
  show gQ n' r' x' (eV LL') _ _+gQ n' r' x' (eV LL') _ _=_;rw[tie i j hi hj e,tie j i hj hi (Lw e)]
def bG:FS:=aD (jD 4 (pf (nF 2 dI) (gj (pu (ai 4)) (gj (bn 2 1 ic (dU (ae (ak bu (ae (av aW (ai 4) (aA (.int 0))) (aj))) (aj)))) (dU (aj))))))
 (aD (bj 7 (ak (nF 1 dE) (ae (ai 4) (aj))))
 (aD (fS (rj (bL (av nM (ak bu (ae (ai 7) (aj))) (ak bu (ae (ai 5) (aj))))) (rj (fJ (fZ (ak (nF 2 fj) (ae (ai 7) (ae (ai 5) (aj)))))) (fJ (fZ (ak (nF 2 dD) (ae (ai 4) (ae (ai 7) (aj)))))))) (aZ (aA (.bl false))) (skip))
 (bj 5 (ai 7))))
theorem Ez {N:Nat}{a b:Int}(B:Bag N a b)(hN:N<=700000000){n:Nat}{r x:List Nat}{LL:List (List Nat)}(G:Gd n r x)(K:LK n r x LL)(d0 d1 d3 s6 s7:Sl): ∃ρ',fh (gN 6) bG ((KW 20).map nI) [d0,d1,.own (bq a b),d3,.v (aX r x),.v (cI LL.length (lj n r x LL)),s6,s7]=.nx ρ'/\ ∃s2 s4 s5 s6 s7,ρ'=[d0,d1,s2,d3,s4,s5,s6,s7]:=by
 obtain⟨ρ',e,n,r,x,LL,a,b,s6,s7,G,K,B,rfl⟩:=uB (g:=gN 6) (b:=bG) (P:=λj ρ=> ∃n r x LL a b s6 s7,Gd n r x/\LK n r x LL/\Bag (N+3*j) a b/\ρ=[d0,d1,.own (bq a b),d3,.v (aX r x),.v (cI LL.length (lj n r x LL)),s6,s7]) ((KW 20).map nI) 0 (λd hd j ρ hj hρ=>by
  have hj:j<20:=by simpa using hj
  obtain⟨n,r,x,LL,a,b,s6,s7,G,K,B,rfl⟩:=hρ
  obtain⟨m,a2,b2,em,B2⟩:=Cr B (by omega) G.lo G.hi
  have B2':Bag (N+3*(j+1)) a2 b2:=by rw[show N+3*(j+1)=N+3*j+3 by omega];exact B2
  obtain⟨n',r',x',G',C,eb⟩: ∃n' r' x',Gd n' r' x'/\Car n r x n' r' x'/\dI [aX r x,m.d]=some (aX r' x'):=by
   have bh:=Ga G m
   cases J3 G m with
   |ok G' C e=>exact⟨_,_,_,G',C,bh.1 _ e⟩
   |no e=>exact⟨_,_,_,G,Car.refl _ _ _,bh.2 _ e (.inl rfl)⟩
   |too e=>exact⟨_,_,_,G,Car.refl _ _ _,bh.2 _ e (.inr rfl)⟩
  obtain⟨LL',K'⟩:=FC G'
  obtain⟨le,al⟩:=C7 G G' K K' C
  have lk:=sL G'.R G'.X G'.hi K'.h K'.e2
  have tg:=AH G'.R G'.X G'.hi K'.h K'.e1 K'.e2
  have q1:jD 4 (pf (nF 2 dI) (gj (pu (ai 4)) (gj (bn 2 1 ic (dU (ae (ak bu (ae (av aW (ai 4) (aA (.int 0))) (aj))) (aj)))) (dU (aj))))) [d0,d1,.own (bq a b),d3,.v (aX r x),.v (cI LL.length (lj n r x LL)),.v d,s7]=.nx [d0,d1,.own (bq a2 b2),d3,.v (aX r' x'),.v (cI LL.length (lj n r x LL)),.v d,s7]:=
   (jb (Ai (ds:=[aX r x,m.d]) (lN (ρ1:=[d0,d1,.own (bq a b),d3,.v (aX r x),.v (cI LL.length (lj n r x LL)),.v d,s7]) (gV rfl) (lN (ρ1:=[d0,d1,.own (bq a2 b2),d3,.v (aX r x),.v (cI LL.length (lj n r x LL)),.v d,s7]) (cN (i:=2) (n:=1) (b0:=bq a b) (ds:=[nI n]) rfl (ck (ao ((eL r _ _ ((az (x:=aX r x) (y:=.int 0) rfl rfl).trans rfl)).trans (by rw[G.R.len])) rfl)) rfl rfl em) rfl)) ((if_pos rfl).trans eb))).trans rfl
  have q2:bj 7 (ak (nF 1 dE) (ae (ai 4) (aj))) [d0,d1,.own (bq a2 b2),d3,.v (aX r' x'),.v (cI LL.length (lj n r x LL)),.v d,s7]=.nx [d0,d1,.own (bq a2 b2),d3,.v (aX r' x'),.v (cI LL.length (lj n r x LL)),.v d,.v (cI LL'.length (lj n' r' x' LL'))]:=(bv ((bJ (ds:=[aX r' x']) rfl rfl).trans lk)).trans rfl
  have p3:rj (bL (av nM (ak bu (ae (ai 7) (aj))) (ak bu (ae (ai 5) (aj))))) (rj (fJ (fZ (ak (nF 2 fj) (ae (ai 7) (ae (ai 5) (aj)))))) (fJ (fZ (ak (nF 2 dD) (ae (ai 4) (ae (ai 7) (aj))))))) [d0,d1,.own (bq a2 b2),d3,.v (aX r' x'),.v (cI LL.length (lj n r x LL)),.v d,.v (cI LL'.length (lj n' r' x' LL'))]=some false:=
   wu ((xj (nR _ _ rfl) (nR _ _ rfl)).trans (by rw[le];simp)) (wu (jB (b:=true) (kR ((bJ (ds:=[cI LL'.length (lj n' r' x' LL'),cI LL.length (lj n r x LL)]) rfl rfl).trans al))) (jB (b:=true) (kR ((bJ (ds:=[aX r' x',cI LL'.length (lj n' r' x' LL')]) rfl rfl).trans tg))))
  refine⟨[d0,d1,.own (bq a b),d3,.v (aX r x),.v (cI LL.length (lj n r x LL)),.v d,s7],[d0,d1,.own (bq a2 b2),d3,.v (aX r' x'),.v (cI LL'.length (lj n' r' x' LL')),.v d,.v (cI LL'.length (lj n' r' x' LL'))],rfl,(aC q1).trans ((aC q2).trans ((aC (cL p3)).trans ((bv (d:=cI LL'.length (lj n' r' x' LL')) rfl).trans rfl))),⟨n',r',x',LL',a2,b2,_,_,G',K',B2',rfl⟩⟩) [d0,d1,.own (bq a b),d3,.v (aX r x),.v (cI LL.length (lj n r x LL)),s6,s7] ⟨n,r,x,LL,a,b,s6,s7,G,K,B,rfl⟩
 exact⟨_,e,⟨_,_,_,_,_,rfl⟩⟩
theorem Gf(ns:List Int)(hn:ns.length<=63):Fs [lE ns]=some (.bl true):=by
 refine iQ (kd:=.s) (n:=8) (t:=AE) ?_
 unfold AE;obtain⟨kk,hk1,hk2⟩:=G5 ns 3 (by omega) (fO 8 [lE ns]) rfl
 refine FV (λρ=> ∃s1 s2 s3 s4 s5 s6 s7,ρ=[.v (lE ns),s1,s2,s3,s4,s5,s6,s7]) (C9 (ds:=(KW kk).map nI) (ck (cz (ao hk2 rfl) (by omega))) (yp _ (λd hd ρ hρ=>?_) _ ⟨_,_,_,_,_,_,_,rfl⟩)) λρ' _=>⟨ρ',rfl⟩
 obtain⟨k,hk,rfl⟩:=LX.mp hd
 rw[La] at hk;obtain⟨s1,s2,s3,s4,s5,s6,s7,rfl⟩:=hρ
 obtain⟨a0,b0,eb,B⟩:=GY ns k (by omega) hn
 obtain⟨pl,a1,b1,e1,B1,p0,p1⟩:=jN (m:=4) B (by omega) (by decide) (by decide)
 obtain⟨d1,a2,b2,e2,B2,d10,d11⟩:=jN (m:=5) B1 (by omega) (by decide) (by decide)
 obtain⟨m,hm,hm1,hm2⟩: ∃m:Nat,bC (.int 2) (.int d1)=some (nI m)/\2<=m/\m<=6:=⟨(2+d1).toNat,by rw[dY,JX (by omega)],by omega,by omega⟩
 obtain⟨r0,x0,a5,b5,e5,S,B5⟩:=xi B2 (n:=m) hm1 hm2 (by omega)
 have q1:fK 2 (ak (nF 2 ml) (ae (ai 0) (ae (ai 1) (aj)))) [.v (lE ns),.v (nI k),s2,s3,s4,s5,s6,s7]=.nx [.v (lE ns),.v (nI k),.own (bq a0 b0),s3,s4,s5,s6,s7]:=(i9 ((bJ (ds:=[lE ns,nI k]) rfl rfl).trans eb)).trans rfl
 have q2:jD 3 (bn 2 1 bS (dU (ae (aA (.int 4)) (aj)))) [.v (lE ns),.v (nI k),.own (bq a0 b0),s3,s4,s5,s6,s7]=.nx [.v (lE ns),.v (nI k),.own (bq a1 b1),.v (.int pl),s4,s5,s6,s7]:=(jb (cN (i:=2) (n:=1) (b0:=bq a0 b0) (ds:=[.int 4]) rfl (ck rfl) rfl rfl e1)).trans rfl
 have q3:jD 4 (bn 2 1 i6 (gj (p7 bC (pu (aA (.int 2))) (bn 2 1 bS (dU (ae (aA (.int 5)) (aj))))) (dU (aj)))) [.v (lE ns),.v (nI k),.own (bq a1 b1),.v (.int pl),s4,s5,s6,s7]=.nx [.v (lE ns),.v (nI k),.own (bq a5 b5),.v (.int pl),.v (aX r0 x0),s5,s6,s7]:=
  (jb (cN (i:=2) (n:=1) (b0:=bq a1 b1) (bs:=bq a2 b2) (ds:=[nI m]) rfl (lN (xV (gV rfl) (cN (i:=2) (n:=1) (b0:=bq a1 b1) (ds:=[.int 5]) rfl (ck rfl) rfl rfl e2) hm) rfl) rfl rfl e5)).trans rfl
 let L2:List D:=[aX [0,1,2,3] [2,3,0,1],aX [0,1,2,3,4,5] [3,4,5,0,1,2]]
 obtain⟨n,r,x,G,q4⟩: ∃n r x,Gd n r x/\fS (bL (av uv (ai 3) (aA (.int 2)))) (bj 4 (av aW (dZ (ae (bF (ae (bF (ae (aA (.int 0)) (ae (aA (.int 1)) (ae (aA (.int 2)) (ae (aA (.int 3)) (aj)))))) (ae (bF (ae (aA (.int 2)) (ae (aA (.int 3)) (ae (aA (.int 0)) (ae (aA (.int 1)) (aj)))))) (aj)))) (ae (bF (ae (bF (ae (aA (.int 0)) (ae (aA (.int 1)) (ae (aA (.int 2)) (ae (aA (.int 3)) (ae (aA (.int 4)) (ae (aA (.int 5)) (aj)))))))) (ae (bF (ae (aA (.int 3)) (ae (aA (.int 4)) (ae (aA (.int 5)) (ae (aA (.int 0)) (ae (aA (.int 1)) (ae (aA (.int 2)) (aj)))))))) (aj)))) (aj)))) (ai 3))) (skip) [.v (lE ns),.v (nI k),.own (bq a5 b5),.v (.int pl),.v (aX r0 x0),s5,s6,s7]=.nx [.v (lE ns),.v (nI k),.own (bq a5 b5),.v (.int pl),.v (aX r x),s5,s6,s7]:=by
  by_cases h2:pl<2
  ·have t:bL (av uv (ai 3) (aA (.int 2))) [.v (lE ns),.v (nI k),.own (bq a5 b5),.v (.int pl),.v (aX r0 x0),s5,s6,s7]=some true:=bN (show some (D.bl (decide (pl<2)))=_ by rw[decide_eq_true h2])
   have:pl=0\/pl=1:=by omega
   rcases this with rfl|rfl
   ·exact⟨4,[0,1,2,3],[2,3,0,1],⟨⟨Om _⟩,⟨by decide⟩,by omega,by omega⟩,(i0 t).trans ((bv (d:=aX [0,1,2,3] [2,3,0,1]) ((az (x:=.lst L2) (y:=.int 0) rfl rfl).trans rfl)).trans rfl)⟩
   ·exact⟨6,[0,1,2,3,4,5],[3,4,5,0,1,2],⟨⟨Om _⟩,⟨by decide⟩,by omega,by omega⟩,(i0 t).trans ((bv (d:=aX [0,1,2,3,4,5] [3,4,5,0,1,2]) ((az (x:=.lst L2) (y:=.int 1) rfl rfl).trans rfl)).trans rfl)⟩
  ·exact⟨m,r0,x0,⟨S.hr,S.hx,hm1,hm2⟩,cL (bN (show some (D.bl (decide (pl<2)))=_ by rw[decide_eq_false h2]))⟩
 obtain⟨LL,K⟩:=FC G
 have lk:=sL G.R G.X G.hi K.h K.e2
 have q5:bj 5 (ak (nF 1 dE) (ae (ai 4) (aj))) [.v (lE ns),.v (nI k),.own (bq a5 b5),.v (.int pl),.v (aX r x),s5,s6,s7]=.nx [.v (lE ns),.v (nI k),.own (bq a5 b5),.v (.int pl),.v (aX r x),.v (cI LL.length (lj n r x LL)),s6,s7]:=(bv ((bJ (ds:=[aX r x]) rfl rfl).trans lk)).trans rfl
 obtain⟨ρ',e6,t2,t4,t5,t6,t7,rfl⟩:=Ez B5 (by omega) G K (.v (lE ns)) (.v (nI k)) (.v (.int pl)) s6 s7
 exact⟨_,[.v (lE ns),.v (nI k),t2,.v (.int pl),t4,t5,t6,t7],rfl,(aC q1).trans ((aC q2).trans ((aC q3).trans ((aC q4).trans ((aC q5).trans ((ir (ck (cz (n:=20) rfl (by omega)))).trans e6))))),⟨_,_,_,_,_,_,_,rfl⟩⟩
set_option maxHeartbeats 4000000
theorem all_mk {l:SQ}{w:L1}{K:K7}{h:Heap}{mg:Str->Option KU}{fa:Addr}{f0:Addr}{od0 an0:Option Addr}{sl0:Array (Option KU)}{oc0 kV0 dc0 pm0 cd0 ct0:KU}{f1:Addr}{od1 an1:Option Addr}{sl1:Array (Option KU)}{oc1 kV1 dc1 pm1 cd1 ct1:KU}{f2:Addr}{od2 an2:Option Addr}{sl2:Array (Option KU)}{oc2 kV2 dc2 pm2 cd2 ct2:KU}{f3:Addr}{od3 an3:Option Addr}{sl3:Array (Option KU)}{oc3 kV3 dc3 pm3 cd3 ct3:KU}{f4:Addr}{od4 an4:Option Addr}{sl4:Array (Option KU)}{oc4 kV4 dc4 pm4 cd4 ct4:KU}{f5:Addr}{od5 an5:Option Addr}{sl5:Array (Option KU)}{oc5 kV5 dc5 pm5 cd5 ct5:KU}{f6:Addr}{od6 an6:Option Addr}{sl6:Array (Option KU)}{oc6 kV6 dc6 pm6 cd6 ct6:KU}{f7:Addr}{od7 an7:Option Addr}{sl7:Array (Option KU)}{oc7 kV7 dc7 pm7 cd7 ct7:KU}{f8:Addr}{od8 an8:Option Addr}{sl8:Array (Option KU)}{oc8 kV8 dc8 pm8 cd8 ct8:KU}{f9:Addr}{od9 an9:Option Addr}{sl9:Array (Option KU)}{oc9 kV9 dc9 pm9 cd9 ct9:KU}{f10:Addr}{od10 an10:Option Addr}{sl10:Array (Option KU)}{oc10 kV10 dc10 pm10 cd10 ct10:KU}{f11:Addr}{od11 an11:Option Addr}{sl11:Array (Option KU)}{oc11 kV11 dc11 pm11 cd11 ct11:KU}{f12:Addr}{od12 an12:Option Addr}{sl12:Array (Option KU)}{oc12 kV12 dc12 pm12 cd12 ct12:KU}{f13:Addr}{od13 an13:Option Addr}{sl13:Array (Option KU)}{oc13 kV13 dc13 pm13 cd13 ct13:KU}{f14:Addr}{od14 an14:Option Addr}{sl14:Array (Option KU)}{oc14 kV14 dc14 pm14 cd14 ct14:KU}{f15:Addr}{od15 an15:Option Addr}{sl15:Array (Option KU)}{oc15 kV15 dc15 pm15 cd15 ct15:KU}{f16:Addr}{od16 an16:Option Addr}{sl16:Array (Option KU)}{oc16 kV16 dc16 pm16 cd16 ct16:KU}{f17:Addr}{od17 an17:Option Addr}{sl17:Array (Option KU)}{oc17 kV17 dc17 pm17 cd17 ct17:KU}{f18:Addr}{od18 an18:Option Addr}{sl18:Array (Option KU)}{oc18 kV18 dc18 pm18 cd18 ct18:KU}{f19:Addr}{od19 an19:Option Addr}{sl19:Array (Option KU)}{oc19 kV19 dc19 pm19 cd19 ct19:KU}{f20:Addr}{od20 an20:Option Addr}{sl20:Array (Option KU)}{oc20 kV20 dc20 pm20 cd20 ct20:KU}{f21:Addr}{od21 an21:Option Addr}{sl21:Array (Option KU)}{oc21 kV21 dc21 pm21 cd21 ct21:KU}{f22:Addr}{od22 an22:Option Addr}{sl22:Array (Option KU)}{oc22 kV22 dc22 pm22 cd22 ct22:KU}{f23:Addr}{od23 an23:Option Addr}{sl23:Array (Option KU)}{oc23 kV23 dc23 pm23 cd23 ct23:KU}{f24:Addr}{od24 an24:Option Addr}{sl24:Array (Option KU)}{oc24 kV24 dc24 pm24 cd24 ct24:KU}{f25:Addr}{od25 an25:Option Addr}{sl25:Array (Option KU)}{oc25 kV25 dc25 pm25 cd25 ct25:KU}{f26:Addr}{od26 an26:Option Addr}{sl26:Array (Option KU)}{oc26 kV26 dc26 pm26 cd26 ct26:KU}{f27:Addr}{od27 an27:Option Addr}{sl27:Array (Option KU)}{oc27 kV27 dc27 pm27 cd27 ct27:KU}{f28:Addr}{od28 an28:Option Addr}{sl28:Array (Option KU)}{oc28 kV28 dc28 pm28 cd28 ct28:KU}{f29:Addr}{od29 an29:Option Addr}{sl29:Array (Option KU)}{oc29 kV29 dc29 pm29 cd29 ct29:KU}{f30:Addr}{od30 an30:Option Addr}{sl30:Array (Option KU)}{oc30 kV30 dc30 pm30 cd30 ct30:KU}{f31:Addr}{od31 an31:Option Addr}{sl31:Array (Option KU)}{oc31 kV31 dc31 pm31 cd31 ct31:KU}{f32:Addr}{od32 an32:Option Addr}{sl32:Array (Option KU)}{oc32 kV32 dc32 pm32 cd32 ct32:KU}{f33:Addr}{od33 an33:Option Addr}{sl33:Array (Option KU)}{oc33 kV33 dc33 pm33 cd33 ct33:KU}{f34:Addr}{od34 an34:Option Addr}{sl34:Array (Option KU)}{oc34 kV34 dc34 pm34 cd34 ct34:KU}{f35:Addr}{od35 an35:Option Addr}{sl35:Array (Option KU)}{oc35 kV35 dc35 pm35 cd35 ct35:KU}{f36:Addr}{od36 an36:Option Addr}{sl36:Array (Option KU)}{oc36 kV36 dc36 pm36 cd36 ct36:KU}{f37:Addr}{od37 an37:Option Addr}{sl37:Array (Option KU)}{oc37 kV37 dc37 pm37 cd37 ct37:KU}{f38:Addr}{od38 an38:Option Addr}{sl38:Array (Option KU)}{oc38 kV38 dc38 pm38 cd38 ct38:KU}{f39:Addr}{od39 an39:Option Addr}{sl39:Array (Option KU)}{oc39 kV39 dc39 pm39 cd39 ct39:KU}{f40:Addr}{od40 an40:Option Addr}{sl40:Array (Option KU)}{oc40 kV40 dc40 pm40 cd40 ct40:KU}{f41:Addr}{od41 an41:Option Addr}{sl41:Array (Option KU)}{oc41 kV41 dc41 pm41 cd41 ct41:KU}{f42:Addr}{od42 an42:Option Addr}{sl42:Array (Option KU)}{oc42 kV42 dc42 pm42 cd42 ct42:KU}{f43:Addr}{od43 an43:Option Addr}{sl43:Array (Option KU)}{oc43 kV43 dc43 pm43 cd43 ct43:KU}{tk_MANY_WAYS:Tok}{tk_MOST_SIZE:Tok}{kx0 kx1 kx2:Addr}{xn0 xq0:Str}{xb0 xu0:List KU}{xs0:Addr}{xd0 xl0 xe0:Bool}{xv0:List Str}{xc0:Option Bool}{xn1 xq1:Str}{xb1 xu1:List KU}{xs1:Addr}{xd1 xl1 xe1:Bool}{xv1:List Str}{xc1:Option Bool}{xn2 xq2:Str}{xb2 xu2:List KU}{xs2:Addr}{xd2 xl2 xe2:Bool}{xv2:List Str}{xc2:Option Bool}(X:K.In h)(G:h.Ns K8 mg)(hfa:mg "law"=some (.ref fa))
 (a0:LN K K8 "order_turned"=some (some (.ref f0))) (l0:K.lookup f0=some ⟨oc0,od0,.func (L4 "order_turned" "order_turned" (aO dg) (aK dg) (aq dg) .none kV0 dc0 pm0 an0 cd0 ct0),sl0⟩) (c0:LD K cd0 "order_turned"=true) (k0:Ly K (.ref f0)=true)
 (a1:LN K K8 "order_raised"=some (some (.ref f1))) (l1:K.lookup f1=some ⟨oc1,od1,.func (L4 "order_raised" "order_raised" (aO du) (aK du) (aq du) .none kV1 dc1 pm1 an1 cd1 ct1),sl1⟩) (c1:LD K cd1 "order_raised"=true) (k1:Ly K (.ref f1)=true)
 (a2:LN K K8 "order_tipped"=some (some (.ref f2))) (l2:K.lookup f2=some ⟨oc2,od2,.func (L4 "order_tipped" "order_tipped" (aO dv) (aK dv) (aq dv) .none kV2 dc2 pm2 an2 cd2 ct2),sl2⟩) (c2:LD K cd2 "order_tipped"=true) (k2:Ly K (.ref f2)=true)
 (a3:LN K K8 "order_exchanged"=some (some (.ref f3))) (l3:K.lookup f3=some ⟨oc3,od3,.func (L4 "order_exchanged" "order_exchanged" (aO bY) (aK bY) (aq bY) .none kV3 dc3 pm3 an3 cd3 ct3),sl3⟩) (c3:LD K cd3 "order_exchanged"=true) (k3:Ly K (.ref f3)=true)
 (a4:LN K K8 "order_rounds"=some (some (.ref f4))) (l4:K.lookup f4=some ⟨oc4,od4,.func (L4 "order_rounds" "order_rounds" (aO de) (aK de) (aq de) .none kV4 dc4 pm4 an4 cd4 ct4),sl4⟩) (c4:LD K cd4 "order_rounds"=true) (k4:Ly K (.ref f4)=true)
 (a5:LN K K8 "lines_of"=some (some (.ref f5))) (l5:K.lookup f5=some ⟨oc5,od5,.func (L4 "lines_of" "lines_of" (aO fY) (aK fY) (aq fY) .none kV5 dc5 pm5 an5 cd5 ct5),sl5⟩) (c5:LD K cd5 "lines_of"=true) (k5:Ly K (.ref f5)=true)
 (a6:LN K K8 "lies_between"=some (some (.ref f6))) (l6:K.lookup f6=some ⟨oc6,od6,.func (L4 "lies_between" "lies_between" (aO di) (aK di) (aq di) .none kV6 dc6 pm6 an6 cd6 ct6),sl6⟩) (c6:LD K cd6 "lies_between"=true) (k6:Ly K (.ref f6)=true)
 (a7:LN K K8 "goes_up"=some (some (.ref f7))) (l7:K.lookup f7=some ⟨oc7,od7,.func (L4 "goes_up" "goes_up" (aO hJ) (aK hJ) (aq hJ) .none kV7 dc7 pm7 an7 cd7 ct7),sl7⟩) (c7:LD K cd7 "goes_up"=true) (k7:Ly K (.ref f7)=true)
 (a8:LN K K8 "goes_right"=some (some (.ref f8))) (l8:K.lookup f8=some ⟨oc8,od8,.func (L4 "goes_right" "goes_right" (aO eD) (aK eD) (aq eD) .none kV8 dc8 pm8 an8 cd8 ct8),sl8⟩) (c8:LD K cd8 "goes_right"=true) (k8:Ly K (.ref f8)=true)
 (a9:LN K K8 "is_crossing"=some (some (.ref f9))) (l9:K.lookup f9=some ⟨oc9,od9,.func (L4 "is_crossing" "is_crossing" (aO dN) (aK dN) (aq dN) .none kV9 dc9 pm9 an9 cd9 ct9),sl9⟩) (c9:LD K cd9 "is_crossing"=true) (k9:Ly K (.ref f9)=true)
 (a10:LN K K8 "sign_at"=some (some (.ref f10))) (l10:K.lookup f10=some ⟨oc10,od10,.func (L4 "sign_at" "sign_at" (aO ib) (aK ib) (aq ib) .none kV10 dc10 pm10 an10 cd10 ct10),sl10⟩) (c10:LD K cd10 "sign_at"=true) (k10:Ly K (.ref f10)=true)
 (a11:LN K K8 "crossings_of"=some (some (.ref f11))) (l11:K.lookup f11=some ⟨oc11,od11,.func (L4 "crossings_of" "crossings_of" (aO db) (aK db) (aq db) .none kV11 dc11 pm11 an11 cd11 ct11),sl11⟩) (c11:LD K cd11 "crossings_of"=true) (k11:Ly K (.ref f11)=true)
 (a12:LN K K8 "meetings_of"=some (some (.ref f12))) (l12:K.lookup f12=some ⟨oc12,od12,.func (L4 "meetings_of" "meetings_of" (aO dM) (aK dM) (aq dM) .none kV12 dc12 pm12 an12 cd12 ct12),sl12⟩) (c12:LD K cd12 "meetings_of"=true) (k12:Ly K (.ref f12)=true)
 (a13:LN K K8 "signs_between"=some (some (.ref f13))) (l13:K.lookup f13=some ⟨oc13,od13,.func (L4 "signs_between" "signs_between" (aO cG) (aK cG) (aq cG) .none kV13 dc13 pm13 an13 cd13 ct13),sl13⟩) (c13:LD K cd13 "signs_between"=true) (k13:Ly K (.ref f13)=true)
 (a14:LN K K8 "ties_of"=some (some (.ref f14))) (l14:K.lookup f14=some ⟨oc14,od14,.func (L4 "ties_of" "ties_of" (aO h9) (aK h9) (aq h9) .none kV14 dc14 pm14 an14 cd14 ct14),sl14⟩) (c14:LD K cd14 "ties_of"=true) (k14:Ly K (.ref f14)=true)
 (a15:LN K K8 "columns_turned"=some (some (.ref f15))) (l15:K.lookup f15=some ⟨oc15,od15,.func (L4 "columns_turned" "columns_turned" (aO cm) (aK cm) (aq cm) .none kV15 dc15 pm15 an15 cd15 ct15),sl15⟩) (c15:LD K cd15 "columns_turned"=true) (k15:Ly K (.ref f15)=true)
 (a16:LN K K8 "rows_turned"=some (some (.ref f16))) (l16:K.lookup f16=some ⟨oc16,od16,.func (L4 "rows_turned" "rows_turned" (aO dP) (aK dP) (aq dP) .none kV16 dc16 pm16 an16 cd16 ct16),sl16⟩) (c16:LD K cd16 "rows_turned"=true) (k16:Ly K (.ref f16)=true)
 (a17:LN K K8 "tipped"=some (some (.ref f17))) (l17:K.lookup f17=some ⟨oc17,od17,.func (L4 "tipped" "tipped" (aO ji) (aK ji) (aq ji) .none kV17 dc17 pm17 an17 cd17 ct17),sl17⟩) (c17:LD K cd17 "tipped"=true) (k17:Ly K (.ref f17)=true)
 (a18:LN K K8 "may_change"=some (some (.ref f18))) (l18:K.lookup f18=some ⟨oc18,od18,.func (L4 "may_change" "may_change" (aO en) (aK en) (aq en) .none kV18 dc18 pm18 an18 cd18 ct18),sl18⟩) (c18:LD K cd18 "may_change"=true) (k18:Ly K (.ref f18)=true)
 (a19:LN K K8 "columns_changed"=some (some (.ref f19))) (l19:K.lookup f19=some ⟨oc19,od19,.func (L4 "columns_changed" "columns_changed" (aO ca) (aK ca) (aq ca) .none kV19 dc19 pm19 an19 cd19 ct19),sl19⟩) (c19:LD K cd19 "columns_changed"=true) (k19:Ly K (.ref f19)=true)
 (a20:LN K K8 "rows_changed"=some (some (.ref f20))) (l20:K.lookup f20=some ⟨oc20,od20,.func (L4 "rows_changed" "rows_changed" (aO cV) (aK cV) (aq cV) .none kV20 dc20 pm20 an20 cd20 ct20),sl20⟩) (c20:LD K cd20 "rows_changed"=true) (k20:Ly K (.ref f20)=true)
 (a21:LN K K8 "is_way"=some (some (.ref f21))) (l21:K.lookup f21=some ⟨oc21,od21,.func (L4 "is_way" "is_way" (aO jn) (aK jn) (aq jn) .none kV21 dc21 pm21 an21 cd21 ct21),sl21⟩) (c21:LD K cd21 "is_way"=true) (k21:Ly K (.ref f21)=true)
 (a22:LN K K8 "free_and_full"=some (some (.ref f22))) (l22:K.lookup f22=some ⟨oc22,od22,.func (L4 "free_and_full" "free_and_full" (aO cF) (aK cF) (aq cF) .none kV22 dc22 pm22 an22 cd22 ct22),sl22⟩) (c22:LD K cd22 "free_and_full"=true) (k22:Ly K (.ref f22)=true)
 (a23:LN K K8 "row_parted"=some (some (.ref f23))) (l23:K.lookup f23=some ⟨oc23,od23,.func (L4 "row_parted" "row_parted" (aO eF) (aK eF) (aq eF) .none kV23 dc23 pm23 an23 cd23 ct23),sl23⟩) (c23:LD K cd23 "row_parted"=true) (k23:Ly K (.ref f23)=true)
 (a24:LN K K8 "corner_put"=some (some (.ref f24))) (l24:K.lookup f24=some ⟨oc24,od24,.func (L4 "corner_put" "corner_put" (aO eE) (aK eE) (aq eE) .none kV24 dc24 pm24 an24 cd24 ct24),sl24⟩) (c24:LD K cd24 "corner_put"=true) (k24:Ly K (.ref f24)=true)
 (a25:LN K K8 "is_put"=some (some (.ref f25))) (l25:K.lookup f25=some ⟨oc25,od25,.func (L4 "is_put" "is_put" (aO jG) (aK jG) (aq jG) .none kV25 dc25 pm25 an25 cd25 ct25),sl25⟩) (c25:LD K cd25 "is_put"=true) (k25:Ly K (.ref f25)=true)
 (a26:LN K K8 "way_put"=some (some (.ref f26))) (l26:K.lookup f26=some ⟨oc26,od26,.func (L4 "way_put" "way_put" (aO ia) (aK ia) (aq ia) .none kV26 dc26 pm26 an26 cd26 ct26),sl26⟩) (c26:LD K cd26 "way_put"=true) (k26:Ly K (.ref f26)=true)
 (a27:LN K K8 "rows_joined"=some (some (.ref f27))) (l27:K.lookup f27=some ⟨oc27,od27,.func (L4 "rows_joined" "rows_joined" (aO dO) (aK dO) (aq dO) .none kV27 dc27 pm27 an27 cd27 ct27),sl27⟩) (c27:LD K cd27 "rows_joined"=true) (k27:Ly K (.ref f27)=true)
 (a28:LN K K8 "corner_taken"=some (some (.ref f28))) (l28:K.lookup f28=some ⟨oc28,od28,.func (L4 "corner_taken" "corner_taken" (aO cX) (aK cX) (aq cX) .none kV28 dc28 pm28 an28 cd28 ct28),sl28⟩) (c28:LD K cd28 "corner_taken"=true) (k28:Ly K (.ref f28)=true)
 (a29:LN K K8 "moved"=some (some (.ref f29))) (l29:K.lookup f29=some ⟨oc29,od29,.func (L4 "moved" "moved" (aO lw) (aK lw) (aq lw) .none kV29 dc29 pm29 an29 cd29 ct29),sl29⟩) (c29:LD K cd29 "moved"=true) (k29:Ly K (.ref f29)=true)
 (a30:LN K K8 "_law_cell"=some (some (.ref f30))) (l30:K.lookup f30=some ⟨oc30,od30,.func (L4 "_law_cell" "_law_cell" (aO fW) (aK fW) (aq fW) .none kV30 dc30 pm30 an30 cd30 ct30),sl30⟩) (c30:LD K cd30 "_law_cell"=true) (k30:Ly K (.ref f30)=true)
 (a31:LN K K8 "_law_bag"=some (some (.ref f31))) (l31:K.lookup f31=some ⟨oc31,od31,.func (L4 "_law_bag" "_law_bag" (aO g9) (aK g9) (aq g9) .none kV31 dc31 pm31 an31 cd31 ct31),sl31⟩) (c31:LD K cd31 "_law_bag"=true) (k31:Ly K (.ref f31)=true)
 (a32:LN K K8 "_law_take"=some (some (.ref f32))) (l32:K.lookup f32=some ⟨oc32,od32,.func (L4 "_law_take" "_law_take" (aO fX) (aK fX) (aq fX) .none kV32 dc32 pm32 an32 cd32 ct32),sl32⟩) (c32:LD K cd32 "_law_take"=true) (k32:Ly K (.ref f32)=true)
 (a33:LN K K8 "_law_order"=some (some (.ref f33))) (l33:K.lookup f33=some ⟨oc33,od33,.func (L4 "_law_order" "_law_order" (aO fz) (aK fz) (aq fz) .none kV33 dc33 pm33 an33 cd33 ct33),sl33⟩) (c33:LD K cd33 "_law_order"=true) (k33:Ly K (.ref f33)=true)
 (a34:LN K K8 "_law_square"=some (some (.ref f34))) (l34:K.lookup f34=some ⟨oc34,od34,.func (L4 "_law_square" "_law_square" (aO et) (aK et) (aq et) .none kV34 dc34 pm34 an34 cd34 ct34),sl34⟩) (c34:LD K cd34 "_law_square"=true) (k34:Ly K (.ref f34)=true)
 (a35:LN K K8 "_law_line"=some (some (.ref f35))) (l35:K.lookup f35=some ⟨oc35,od35,.func (L4 "_law_line" "_law_line" (aO gd) (aK gd) (aq gd) .none kV35 dc35 pm35 an35 cd35 ct35),sl35⟩) (c35:LD K cd35 "_law_line"=true) (k35:Ly K (.ref f35)=true)
 (a36:LN K K8 "_law_lines"=some (some (.ref f36))) (l36:K.lookup f36=some ⟨oc36,od36,.func (L4 "_law_lines" "_law_lines" (aO fm) (aK fm) (aq fm) .none kV36 dc36 pm36 an36 cd36 ct36),sl36⟩) (c36:LD K cd36 "_law_lines"=true) (k36:Ly K (.ref f36)=true)
 (a37:LN K K8 "_law_move"=some (some (.ref f37))) (l37:K.lookup f37=some ⟨oc37,od37,.func (L4 "_law_move" "_law_move" (aO gg) (aK gg) (aq gg) .none kV37 dc37 pm37 an37 cd37 ct37),sl37⟩) (c37:LD K cd37 "_law_move"=true) (k37:Ly K (.ref f37)=true)
 (a38:LN K K8 "_law_behind"=some (some (.ref f38))) (l38:K.lookup f38=some ⟨oc38,od38,.func (L4 "_law_behind" "_law_behind" (aO eI) (aK eI) (aq eI) .none kV38 dc38 pm38 an38 cd38 ct38),sl38⟩) (c38:LD K cd38 "_law_behind"=true) (k38:Ly K (.ref f38)=true)
 (a39:LN K K8 "_law_linked"=some (some (.ref f39))) (l39:K.lookup f39=some ⟨oc39,od39,.func (L4 "_law_linked" "_law_linked" (aO eG) (aK eG) (aq eG) .none kV39 dc39 pm39 an39 cd39 ct39),sl39⟩) (c39:LD K cd39 "_law_linked"=true) (k39:Ly K (.ref f39)=true)
 (a40:LN K K8 "_law_orders"=some (some (.ref f40))) (l40:K.lookup f40=some ⟨oc40,od40,.func (L4 "_law_orders" "_law_orders" (aO eB) (aK eB) (aq eB) .none kV40 dc40 pm40 an40 cd40 ct40),sl40⟩) (c40:LD K cd40 "_law_orders"=true) (k40:Ly K (.ref f40)=true)
 (a41:LN K K8 "_law_alike"=some (some (.ref f41))) (l41:K.lookup f41=some ⟨oc41,od41,.func (L4 "_law_alike" "_law_alike" (aO fy) (aK fy) (aq fy) .none kV41 dc41 pm41 an41 cd41 ct41),sl41⟩) (c41:LD K cd41 "_law_alike"=true) (k41:Ly K (.ref f41)=true)
 (a42:LN K K8 "_law_ties_good"=some (some (.ref f42))) (l42:K.lookup f42=some ⟨oc42,od42,.func (L4 "_law_ties_good" "_law_ties_good" (aO cK) (aK cK) (aq cK) .none kV42 dc42 pm42 an42 cd42 ct42),sl42⟩) (c42:LD K cd42 "_law_ties_good"=true) (k42:Ly K (.ref f42)=true)
 (a43:LN K K8 "law"=some (some (.ref f43))) (l43:K.lookup f43=some ⟨oc43,od43,.func (L4 "law" "law" (aO mE) (aK mE) (aq mE) .none kV43 dc43 pm43 an43 cd43 ct43),sl43⟩) (c43:LD K cd43 "law"=true) (k43:Ly K (.ref f43)=true)
 (z_abs:LN K K8 "abs"=some none)
 (z_any:LN K K8 "any"=some none)
 (z_enumerate:LN K K8 "enumerate"=some none)
 (z_len:LN K K8 "len"=some none)
 (z_list:LN K K8 "list"=some none)
 (z_max:LN K K8 "max"=some none)
 (z_min:LN K K8 "min"=some none)
 (z_range:LN K K8 "range"=some none)
 (z_sum:LN K K8 "sum"=some none)
 (z_tuple:LN K K8 "tuple"=some none)
 (g_MANY_WAYS:LN K K8 "MANY_WAYS"=some (some (.int 4 tk_MANY_WAYS)))
 (g_MOST_SIZE:LN K K8 "MOST_SIZE"=some (some (.int 6 tk_MOST_SIZE)))
 (ya0:LN K K8 "RookError"=some (some (.ref kx0)))
 (yb0:NN K (.ref kx0) "__getattribute__"=some (some (.builtin "BaseException.__getattribute__")))
 (yc0:NN K (.ref kx0) "__getattr__"=some none)
 (yd0:NN K (.ref kx0) "__class__"=some (some (.builtin "object.__class__")))
 (yg0:OA K kx0 (.type "object")=some true)
 (yh0:OA K kx0 (.type "BaseException")=some true)
 (yt0:R7 K (.ref kx0)=some (.type "type"))
 (ym0:Q1 K kx0=some ⟨xn0,xb0,.ref kx0::z0,xs0,xq0,xd0,xv0,xu0,xl0,xc0,xe0⟩)
 (ya1:LN K K8 "NoMove"=some (some (.ref kx1)))
 (yb1:NN K (.ref kx1) "__getattribute__"=some (some (.builtin "BaseException.__getattribute__")))
 (yc1:NN K (.ref kx1) "__getattr__"=some none)
 (yd1:NN K (.ref kx1) "__class__"=some (some (.builtin "object.__class__")))
 (yg1:OA K kx1 (.type "object")=some true)
 (yh1:OA K kx1 (.type "BaseException")=some true)
 (yt1:R7 K (.ref kx1)=some (.type "type"))
 (ym1:Q1 K kx1=some ⟨xn1,xb1,.ref kx1:: .ref kx0::z0,xs1,xq1,xd1,xv1,xu1,xl1,xc1,xe1⟩)
 (ya2:LN K K8 "TooMany"=some (some (.ref kx2)))
 (yb2:NN K (.ref kx2) "__getattribute__"=some (some (.builtin "BaseException.__getattribute__")))
 (yc2:NN K (.ref kx2) "__getattr__"=some none)
 (yd2:NN K (.ref kx2) "__class__"=some (some (.builtin "object.__class__")))
 (yg2:OA K kx2 (.type "object")=some true)
 (yh2:OA K kx2 (.type "BaseException")=some true)
 (yt2:R7 K (.ref kx2)=some (.type "type"))
 (ym2:Q1 K kx2=some ⟨xn2,xb2,.ref kx2:: .ref kx0::z0,xs2,xq2,xd2,xv2,xu2,xl2,xc2,xe2⟩)
 (ye:Va K (.builtin "object.__class__") "__get__"=some (some (.builtin "getset_descriptor.__get__")))
 (yf:W.takesIn K (.builtin "object.__class__")=some true)
 (yo_NoMove:Qc K kx1 z0 "ValueError.__new__"=true)
 (yo_TooMany:Qc K kx2 z0 "ValueError.__new__"=true)
 (yn:[kx0,kx1,kx2].Nodup):
 ∃fd:M5,(∀(s:KZ) (v:KU),QO s fd ⟨[v],[]⟩ [("_law_script",v)])/\ ∀base:Heap,K.In base->base.Ns K8 mg->FnOk l.prog w K mg base ur 7 fa fd ["_law_script"] (xE K):=by
 have e:=hfa.symm.trans (LO X G a43)
 cases e
 have F0:=bo (st:=dg) l0 c0 k0
 have b0:=F0.binds (ps:=["order","k"]) λ_ _ _ _ _ _ us hl=>ar2 us hl (λ_ _=>rfl)
 have d0:Df K mg "order_turned" dg ["order","k"]:=⟨_,_,F0,LO X G a0,b0⟩
 have F1:=bo (st:=du) l1 c1 k1
 have b1:=F1.binds (ps:=["order","k"]) λ_ _ _ _ _ _ us hl=>ar2 us hl (λ_ _=>rfl)
 have d1:Df K mg "order_raised" du ["order","k"]:=⟨_,_,F1,LO X G a1,b1⟩
 have F2:=bo (st:=dv) l2 c2 k2
 have b2:=F2.binds (ps:=["order"]) λ_ _ _ _ _ _ us hl=>ar1 us hl (λ_=>rfl)
 have d2:Df K mg "order_tipped" dv ["order"]:=⟨_,_,F2,LO X G a2,b2⟩
 have F3:=bo (st:=bY) l3 c3 k3
 have b3:=F3.binds (ps:=["order","one","other"]) λ_ _ _ _ _ _ us hl=>ar3 us hl (λ_ _ _=>rfl)
 have d3:Df K mg "order_exchanged" bY ["order","one","other"]:=⟨_,_,F3,LO X G a3,b3⟩
 have F4:=bo (st:=de) l4 c4 k4
 have b4:=F4.binds (ps:=["order"]) λ_ _ _ _ _ _ us hl=>ar1 us hl (λ_=>rfl)
 have d4:Df K mg "order_rounds" de ["order"]:=⟨_,_,F4,LO X G a4,b4⟩
 have F5:=bo (st:=fY) l5 c5 k5
 have b5:=F5.binds (ps:=["square"]) λ_ _ _ _ _ _ us hl=>ar1 us hl (λ_=>rfl)
 have d5:Df K mg "lines_of" fY ["square"]:=⟨_,_,F5,LO X G a5,b5⟩
 have F6:=bo (st:=di) l6 c6 k6
 have b6:=F6.binds (ps:=["at","one","other"]) λ_ _ _ _ _ _ us hl=>ar3 us hl (λ_ _ _=>rfl)
 have d6:Df K mg "lies_between" di ["at","one","other"]:=⟨_,_,F6,LO X G a6,b6⟩
 have F7:=bo (st:=hJ) l7 c7 k7
 have b7:=F7.binds (ps:=["square","column"]) λ_ _ _ _ _ _ us hl=>ar2 us hl (λ_ _=>rfl)
 have d7:Df K mg "goes_up" hJ ["square","column"]:=⟨_,_,F7,LO X G a7,b7⟩
 have F8:=bo (st:=eD) l8 c8 k8
 have b8:=F8.binds (ps:=["square","row"]) λ_ _ _ _ _ _ us hl=>ar2 us hl (λ_ _=>rfl)
 have d8:Df K mg "goes_right" eD ["square","row"]:=⟨_,_,F8,LO X G a8,b8⟩
 have F9:=bo (st:=dN) l9 c9 k9
 have b9:=F9.binds (ps:=["square","column","row"]) λ_ _ _ _ _ _ us hl=>ar3 us hl (λ_ _ _=>rfl)
 have d9:Df K mg "is_crossing" dN ["square","column","row"]:=⟨_,_,F9,LO X G a9,b9⟩
 have F10:=bo (st:=ib) l10 c10 k10
 have b10:=F10.binds (ps:=["square","column","row"]) λ_ _ _ _ _ _ us hl=>ar3 us hl (λ_ _ _=>rfl)
 have d10:Df K mg "sign_at" ib ["square","column","row"]:=⟨_,_,F10,LO X G a10,b10⟩
 have F11:=bo (st:=db) l11 c11 k11
 have b11:=F11.binds (ps:=["square"]) λ_ _ _ _ _ _ us hl=>ar1 us hl (λ_=>rfl)
 have d11:Df K mg "crossings_of" db ["square"]:=⟨_,_,F11,LO X G a11,b11⟩
 have F12:=bo (st:=dM) l12 c12 k12
 have b12:=F12.binds (ps:=["square","lines"]) λ_ _ _ _ _ _ us hl=>ar2 us hl (λ_ _=>rfl)
 have d12:Df K mg "meetings_of" dM ["square","lines"]:=⟨_,_,F12,LO X G a12,b12⟩
 have F13:=bo (st:=cG) l13 c13 k13
 have b13:=F13.binds (ps:=["meetings","one","other"]) λ_ _ _ _ _ _ us hl=>ar3 us hl (λ_ _ _=>rfl)
 have d13:Df K mg "signs_between" cG ["meetings","one","other"]:=⟨_,_,F13,LO X G a13,b13⟩
 have F14:=bo (st:=h9) l14 c14 k14
 have b14:=F14.binds (ps:=["square"]) λ_ _ _ _ _ _ us hl=>ar1 us hl (λ_=>rfl)
 have d14:Df K mg "ties_of" h9 ["square"]:=⟨_,_,F14,LO X G a14,b14⟩
 have F15:=bo (st:=cm) l15 c15 k15
 have b15:=F15.binds (ps:=["square","k"]) λ_ _ _ _ _ _ us hl=>ar2 us hl (λ_ _=>rfl)
 have d15:Df K mg "columns_turned" cm ["square","k"]:=⟨_,_,F15,LO X G a15,b15⟩
 have F16:=bo (st:=dP) l16 c16 k16
 have b16:=F16.binds (ps:=["square","k"]) λ_ _ _ _ _ _ us hl=>ar2 us hl (λ_ _=>rfl)
 have d16:Df K mg "rows_turned" dP ["square","k"]:=⟨_,_,F16,LO X G a16,b16⟩
 have F17:=bo (st:=ji) l17 c17 k17
 have b17:=F17.binds (ps:=["square"]) λ_ _ _ _ _ _ us hl=>ar1 us hl (λ_=>rfl)
 have d17:Df K mg "tipped" ji ["square"]:=⟨_,_,F17,LO X G a17,b17⟩
 have F18:=bo (st:=en) l18 c18 k18
 have b18:=F18.binds (ps:=["square","c"]) λ_ _ _ _ _ _ us hl=>ar2 us hl (λ_ _=>rfl)
 have d18:Df K mg "may_change" en ["square","c"]:=⟨_,_,F18,LO X G a18,b18⟩
 have F19:=bo (st:=ca) l19 c19 k19
 have b19:=F19.binds (ps:=["square","c"]) λ_ _ _ _ _ _ us hl=>ar2 us hl (λ_ _=>rfl)
 have d19:Df K mg "columns_changed" ca ["square","c"]:=⟨_,_,F19,LO X G a19,b19⟩
 have F20:=bo (st:=cV) l20 c20 k20
 have b20:=F20.binds (ps:=["square","r"]) λ_ _ _ _ _ _ us hl=>ar2 us hl (λ_ _=>rfl)
 have d20:Df K mg "rows_changed" cV ["square","r"]:=⟨_,_,F20,LO X G a20,b20⟩
 have F21:=bo (st:=jn) l21 c21 k21
 have b21:=F21.binds (ps:=["way"]) λ_ _ _ _ _ _ us hl=>ar1 us hl (λ_=>rfl)
 have d21:Df K mg "is_way" jn ["way"]:=⟨_,_,F21,LO X G a21,b21⟩
 have F22:=bo (st:=cF) l22 c22 k22
 have b22:=F22.binds (ps:=["c","r","way"]) λ_ _ _ _ _ _ us hl=>ar3 us hl (λ_ _ _=>rfl)
 have d22:Df K mg "free_and_full" cF ["c","r","way"]:=⟨_,_,F22,LO X G a22,b22⟩
 have F23:=bo (st:=eF) l23 c23 k23
 have b23:=F23.binds (ps:=["mark","row","to"]) λ_ _ _ _ _ _ us hl=>ar3 us hl (λ_ _ _=>rfl)
 have d23:Df K mg "row_parted" eF ["mark","row","to"]:=⟨_,_,F23,LO X G a23,b23⟩
 have F24:=bo (st:=eE) l24 c24 k24
 have b24:=F24.binds (ps:=["square","c","way"]) λ_ _ _ _ _ _ us hl=>ar3 us hl (λ_ _ _=>rfl)
 have d24:Df K mg "corner_put" eE ["square","c","way"]:=⟨_,_,F24,LO X G a24,b24⟩
 have F25:=bo (st:=jG) l25 c25 k25
 have b25:=F25.binds (ps:=["square","c","r","way"]) λ_ _ _ _ _ _ us hl=>ar4 us hl (λ_ _ _ _=>rfl)
 have d25:Df K mg "is_put" jG ["square","c","r","way"]:=⟨_,_,F25,LO X G a25,b25⟩
 have F26:=bo (st:=ia) l26 c26 k26
 have b26:=F26.binds (ps:=["square","c","r"]) λ_ _ _ _ _ _ us hl=>ar3 us hl (λ_ _ _=>rfl)
 have d26:Df K mg "way_put" ia ["square","c","r"]:=⟨_,_,F26,LO X G a26,b26⟩
 have F27:=bo (st:=dO) l27 c27 k27
 have b27:=F27.binds (ps:=["marks","row","column"]) λ_ _ _ _ _ _ us hl=>ar3 us hl (λ_ _ _=>rfl)
 have d27:Df K mg "rows_joined" dO ["marks","row","column"]:=⟨_,_,F27,LO X G a27,b27⟩
 have F28:=bo (st:=cX) l28 c28 k28
 have b28:=F28.binds (ps:=["square","c","r"]) λ_ _ _ _ _ _ us hl=>ar3 us hl (λ_ _ _=>rfl)
 have d28:Df K mg "corner_taken" cX ["square","c","r"]:=⟨_,_,F28,LO X G a28,b28⟩
 have F29:=bo (st:=lw) l29 c29 k29
 have b29:=F29.binds (ps:=["square","move"]) λ_ _ _ _ _ _ us hl=>ar2 us hl (λ_ _=>rfl)
 have d29:Df K mg "moved" lw ["square","move"]:=⟨_,_,F29,LO X G a29,b29⟩
 have F30:=bo (st:=fW) l30 c30 k30
 have b30:=F30.binds (ps:=["_law_script","_law_k"]) λ_ _ _ _ _ _ us hl=>ar2 us hl (λ_ _=>rfl)
 have d30:Df K mg "_law_cell" fW ["_law_script","_law_k"]:=⟨_,_,F30,LO X G a30,b30⟩
 have F31:=bo (st:=g9) l31 c31 k31
 have b31:=F31.binds (ps:=["_law_script","_law_at"]) λ_ _ _ _ _ _ us hl=>ar2 us hl (λ_ _=>rfl)
 have d31:Df K mg "_law_bag" g9 ["_law_script","_law_at"]:=⟨_,_,F31,LO X G a31,b31⟩
 have F32:=bo (st:=fX) l32 c32 k32
 have b32:=F32.binds (ps:=["_law_bag_here","_law_many"]) λ_ _ _ _ _ _ us hl=>ar2 us hl (λ_ _=>rfl)
 have d32:Df K mg "_law_take" fX ["_law_bag_here","_law_many"]:=⟨_,_,F32,LO X G a32,b32⟩
 have F33:=bo (st:=fz) l33 c33 k33
 have b33:=F33.binds (ps:=["_law_bag_here","_law_n"]) λ_ _ _ _ _ _ us hl=>ar2 us hl (λ_ _=>rfl)
 have d33:Df K mg "_law_order" fz ["_law_bag_here","_law_n"]:=⟨_,_,F33,LO X G a33,b33⟩
 have F34:=bo (st:=et) l34 c34 k34
 have b34:=F34.binds (ps:=["_law_bag_here","_law_n"]) λ_ _ _ _ _ _ us hl=>ar2 us hl (λ_ _=>rfl)
 have d34:Df K mg "_law_square" et ["_law_bag_here","_law_n"]:=⟨_,_,F34,LO X G a34,b34⟩
 have F35:=bo (st:=gd) l35 c35 k35
 have b35:=F35.binds (ps:=["_law_square_here","_law_begin"]) λ_ _ _ _ _ _ us hl=>ar2 us hl (λ_ _=>rfl)
 have d35:Df K mg "_law_line" gd ["_law_square_here","_law_begin"]:=⟨_,_,F35,LO X G a35,b35⟩
 have F36:=bo (st:=fm) l36 c36 k36
 have b36:=F36.binds (ps:=["_law_square_here"]) λ_ _ _ _ _ _ us hl=>ar1 us hl (λ_=>rfl)
 have d36:Df K mg "_law_lines" fm ["_law_square_here"]:=⟨_,_,F36,LO X G a36,b36⟩
 have F37:=bo (st:=gg) l37 c37 k37
 have b37:=F37.binds (ps:=["_law_bag_here","_law_n"]) λ_ _ _ _ _ _ us hl=>ar2 us hl (λ_ _=>rfl)
 have d37:Df K mg "_law_move" gg ["_law_bag_here","_law_n"]:=⟨_,_,F37,LO X G a37,b37⟩
 have F38:=bo (st:=eI) l38 c38 k38
 have b38:=F38.binds (ps:=["_law_square_here","_law_move_here"]) λ_ _ _ _ _ _ us hl=>ar2 us hl (λ_ _=>rfl)
 have d38:Df K mg "_law_behind" eI ["_law_square_here","_law_move_here"]:=⟨_,_,F38,LO X G a38,b38⟩
 have F39:=bo (st:=eG) l39 c39 k39
 have b39:=F39.binds (ps:=["_law_square_here"]) λ_ _ _ _ _ _ us hl=>ar1 us hl (λ_=>rfl)
 have d39:Df K mg "_law_linked" eG ["_law_square_here"]:=⟨_,_,F39,LO X G a39,b39⟩
 have F40:=bo (st:=eB) l40 c40 k40
 have b40:=F40.binds (ps:=["_law_n"]) λ_ _ _ _ _ _ us hl=>ar1 us hl (λ_=>rfl)
 have d40:Df K mg "_law_orders" eB ["_law_n"]:=⟨_,_,F40,LO X G a40,b40⟩
 have F41:=bo (st:=fy) l41 c41 k41
 have b41:=F41.binds (ps:=["_law_one","_law_other"]) λ_ _ _ _ _ _ us hl=>ar2 us hl (λ_ _=>rfl)
 have d41:Df K mg "_law_alike" fy ["_law_one","_law_other"]:=⟨_,_,F41,LO X G a41,b41⟩
 have F42:=bo (st:=cK) l42 c42 k42
 have b42:=F42.binds (ps:=["_law_square_here","_law_linked_here"]) λ_ _ _ _ _ _ us hl=>ar2 us hl (λ_ _=>rfl)
 have d42:Df K mg "_law_ties_good" cK ["_law_square_here","_law_linked_here"]:=⟨_,_,F42,LO X G a42,b42⟩
 have F43:=bo (st:=mE) l43 c43 k43
 have b43:=F43.binds (ps:=["_law_script"]) λ_ _ _ _ _ _ us hl=>ar1 us hl (λ_=>rfl)
 have d43:Df K mg "law" mE ["_law_script"]:=⟨_,_,F43,LO X G a43,b43⟩
 have B:Bt mg:=⟨M9 X G z_abs,M9 X G z_any,M9 X G z_enumerate,M9 X G z_len,M9 X G z_list,M9 X G z_max,M9 X G z_min,M9 X G z_range,M9 X G z_sum,M9 X G z_tuple,⟨_,LO X G g_MANY_WAYS⟩,⟨_,LO X G g_MOST_SIZE⟩⟩
 have r0:ExRow K mg kx0 "RookError" kx0:=⟨LO X G ya0,ya0,⟨yb0,yc0,yd0,ye,yf,yg0,yh0⟩,yt0,_,ym0,(if_pos rfl).symm⟩
 have r1:ExRow K mg kx0 "NoMove" kx1:=⟨LO X G ya1,ya1,⟨yb1,yc1,yd1,ye,yf,yg1,yh1⟩,yt1,_,ym1,(if_neg (BE yn (Mt _))).symm⟩
 have r2:ExRow K mg kx0 "TooMany" kx2:=⟨LO X G ya2,ya2,⟨yb2,yc2,yd2,ye,yf,yg2,yh2⟩,yt2,_,ym2,(if_neg (BE yn (Mm _ (Mt _)))).symm⟩
 have ET:Et K mg kx0 kx1 kx2:=⟨⟨(pd r0 (pd r1 (pd r2 AO))),Mt _,yn⟩,yo_NoMove,yo_TooMany⟩
 refine⟨L4 "law" "law" (aO mE) (aK mE) (aq mE) .none kV43 dc43 pm43 an43 cd43 ct43,λs v=>.of_eq rfl,λbase _ _=>?_⟩
 have gJ:=qB (P:=l.prog) (w:=w) (base:=base) B d0 ET
 have gM:=p4 (P:=l.prog) (w:=w) (base:=base) B d1 ET
 have gK:=qO (P:=l.prog) (w:=w) (base:=base) B d2 ET
 have eT:=n9 (P:=l.prog) (w:=w) (base:=base) B d3 ET
 have ju:=qc (P:=l.prog) (w:=w) (base:=base) B d4 ET
 have hZ:=wx (P:=l.prog) (w:=w) (base:=base) B d5 ET ju
 have cY:=p5 (P:=l.prog) (w:=w) (base:=base) B d6 ET
 have oy:=zw (P:=l.prog) (w:=w) (base:=base) B d7 ET
 have lb:=tW (P:=l.prog) (w:=w) (base:=base) B d8 ET
 have ke:=rM (P:=l.prog) (w:=w) (base:=base) B d9 ET cY
 have oM:=yU (P:=l.prog) (w:=w) (base:=base) B d10 ET oy lb
 have ei:=qT (P:=l.prog) (w:=w) (base:=base) B d11 ET oM ke
 have j5:=rH (P:=l.prog) (w:=w) (base:=base) B d12 ET ei
 have iW:=pK (P:=l.prog) (w:=w) (base:=base) B d13 ET
 have oH:=yW (P:=l.prog) (w:=w) (base:=base) B d14 ET hZ j5 iW
 have h8:=oB (P:=l.prog) (w:=w) (base:=base) B d15 ET gJ
 have kh:=rL (P:=l.prog) (w:=w) (base:=base) B d16 ET gM
 have jz:=Bv (P:=l.prog) (w:=w) (base:=base) B d17 ET gK
 have lm:=sV (P:=l.prog) (w:=w) (base:=base) B d18 ET cY
 have cB:=nV (P:=l.prog) (w:=w) (base:=base) B d19 ET lm eT
 have jl:=qA (P:=l.prog) (w:=w) (base:=base) B d20 ET jz cB
 have qH:=CH (P:=l.prog) (w:=w) (base:=base) B d21 ET
 have bQ:=pJ (P:=l.prog) (w:=w) (base:=base) B d22 ET
 have ja:=tU (P:=l.prog) (w:=w) (base:=base) B d23 ET
 have kL:=sX (P:=l.prog) (w:=w) (base:=base) B d24 ET bQ ja qH
 have qF:=AA (P:=l.prog) (w:=w) (base:=base) B d25 ET bQ
 have pc:=zK (P:=l.prog) (w:=w) (base:=base) B d26 ET qF
 have iq:=rP (P:=l.prog) (w:=w) (base:=base) B d27 ET
 have jx:=qo (P:=l.prog) (w:=w) (base:=base) B d28 ET pc bQ iq
 have sZ:=Dt (P:=l.prog) (w:=w) (base:=base) B d29 ET jx h8 kh jz cB jl kL
 have mY:=we (P:=l.prog) (w:=w) (base:=base) B d30 ET
 have oX:=zH (P:=l.prog) (w:=w) (base:=base) B d31 ET mY
 have bO:=wX (P:=l.prog) (w:=w) (base:=base) B d32 ET
 have jM:=vA (P:=l.prog) (w:=w) (base:=base) B d33 ET bO
 have lq:=tF (P:=l.prog) (w:=w) (base:=base) B d34 ET bO jM
 have mS:=v9 (P:=l.prog) (w:=w) (base:=base) B d35 ET
 have gp:=vH (P:=l.prog) (w:=w) (base:=base) B d36 ET mS
 have nh:=wB (P:=l.prog) (w:=w) (base:=base) B d37 ET bO
 have kX:=sY (P:=l.prog) (w:=w) (base:=base) B d38 ET sZ
 have je:=ue (P:=l.prog) (w:=w) (base:=base) B d39 ET gp ei
 have kY:=tQ (P:=l.prog) (w:=w) (base:=base) B d40 ET
 have lU:=vJ (P:=l.prog) (w:=w) (base:=base) B d41 ET kY
 have iK:=pB (P:=l.prog) (w:=w) (base:=base) B d42 ET oH hZ gp
 exact Gg (GD (P:=l.prog) (w:=w) (base:=base) B F43 ET oX bO lq je kX nh lU iK) Gf
end L2
theorem PySem.W.Fast.tw15478296293534166748:True:=⟨⟩
theorem PySem.W.Fast.tw17096189833611161680:True:=⟨⟩
theorem PySem.W.Fast.tw14041401941925363328:True:=⟨⟩
theorem PySem.W.Fast.tw1185693484796913717:True:=⟨⟩
theorem PySem.W.Fast.tw11397528579188270237:True:=⟨⟩
theorem PySem.W.Fast.tw6669322367129691544:True:=⟨⟩
theorem PySem.W.Fast.tw12978939724042038981:True:=⟨⟩
theorem PySem.W.Fast.tw10187470486097107527:True:=⟨⟩
theorem PySem.W.Fast.tw1856106196513832746:True:=⟨⟩
theorem PySem.W.Fast.tw2752245585287157591:True:=⟨⟩
theorem PySem.W.Fast.tw8269213714722323199:True:=⟨⟩
theorem PySem.W.Fast.tw3205113788685468244:True:=⟨⟩
theorem PySem.W.Fast.tw12904079139977625331:True:=⟨⟩
theorem PySem.W.Fast.tw3081130937222373848:True:=⟨⟩
theorem PySem.W.Fast.tw15786349777776517613:True:=⟨⟩
theorem PySem.W.Fast.tw258729688825846151:True:=⟨⟩
theorem PySem.W.Fast.tw10831866506345201611:True:=⟨⟩
theorem PySem.W.Fast.tw13004939720683013414:True:=⟨⟩
theorem PySem.W.Fast.tw9723010387413643974:True:=⟨⟩
theorem PySem.W.Fast.tw5899145520086685037:True:=⟨⟩
theorem PySem.W.Fast.tw13808889916244251924:True:=⟨⟩
theorem PySem.W.Fast.tw5915452298593468665:True:=⟨⟩
theorem PySem.W.Fast.tw4485592164305065308:True:=⟨⟩
theorem PySem.W.Fast.tw11579756380462532675:True:=⟨⟩
theorem PySem.W.Fast.tw12660847929010145476:True:=⟨⟩
theorem PySem.W.Fast.tw10186324366841490798:True:=⟨⟩
open PySem PySem.W PyProof.Rows
set_option maxRecDepth 100000 in
set_option maxHeartbeats 0 in
theorem PySem.Challenge.cw_rookborders_k15_whole_ties_stay_holds : PySem.Challenge.rw_rookborders_k15_whole_ties_stay.Holds := by
 w_on;o_law;k_head;(case hw=>w_witness2)
 k_fill
 refine L2.walkD (l:=OY) (k:=7) (x:="_law_script") rfl rfl ⟨rfl,by decide,by decide⟩ (λw h Y=>W.kIn_of Y) ?F
 case F=>
  intro w mg fa h KX G hmg
  refine' L2.all_mk KX G hmg ?a0 ?l0 ?c0 ?k0 ?a1 ?l1 ?c1 ?k1 ?a2 ?l2 ?c2 ?k2 ?a3 ?l3 ?c3 ?k3 ?a4 ?l4 ?c4 ?k4 ?a5 ?l5 ?c5 ?k5 ?a6 ?l6 ?c6 ?k6 ?a7 ?l7 ?c7 ?k7 ?a8 ?l8 ?c8 ?k8 ?a9 ?l9 ?c9 ?k9 ?a10 ?l10 ?c10 ?k10 ?a11 ?l11 ?c11 ?k11 ?a12 ?l12 ?c12 ?k12 ?a13 ?l13 ?c13 ?k13 ?a14 ?l14 ?c14 ?k14 ?a15 ?l15 ?c15 ?k15 ?a16 ?l16 ?c16 ?k16 ?a17 ?l17 ?c17 ?k17 ?a18 ?l18 ?c18 ?k18 ?a19 ?l19 ?c19 ?k19 ?a20 ?l20 ?c20 ?k20 ?a21 ?l21 ?c21 ?k21 ?a22 ?l22 ?c22 ?k22 ?a23 ?l23 ?c23 ?k23 ?a24 ?l24 ?c24 ?k24 ?a25 ?l25 ?c25 ?k25 ?a26 ?l26 ?c26 ?k26 ?a27 ?l27 ?c27 ?k27 ?a28 ?l28 ?c28 ?k28 ?a29 ?l29 ?c29 ?k29 ?a30 ?l30 ?c30 ?k30 ?a31 ?l31 ?c31 ?k31 ?a32 ?l32 ?c32 ?k32 ?a33 ?l33 ?c33 ?k33 ?a34 ?l34 ?c34 ?k34 ?a35 ?l35 ?c35 ?k35 ?a36 ?l36 ?c36 ?k36 ?a37 ?l37 ?c37 ?k37 ?a38 ?l38 ?c38 ?k38 ?a39 ?l39 ?c39 ?k39 ?a40 ?l40 ?c40 ?k40 ?a41 ?l41 ?c41 ?k41 ?a42 ?l42 ?c42 ?k42 ?a43 ?l43 ?c43 ?k43 ?z_abs ?z_any ?z_enumerate ?z_len ?z_list ?z_max ?z_min ?z_range ?z_sum ?z_tuple ?g_MANY_WAYS ?g_MOST_SIZE ?ya0 ?yb0 ?yc0 ?yd0 ?yg0 ?yh0 ?yt0 ?ym0 ?ya1 ?yb1 ?yc1 ?yd1 ?yg1 ?yh1 ?yt1 ?ym1 ?ya2 ?yb2 ?yc2 ?yd2 ?yg2 ?yh2 ?yt2 ?ym2 ?ye ?yf ?yo_NoMove ?yo_TooMany ?yn
  (case a0=>k_is)
  (case l0=>k_is)
  (case c0=>k_is)
  (case k0=>k_is)
  (case a1=>k_is)
  (case l1=>k_is)
  (case c1=>k_is)
  (case k1=>k_is)
  (case a2=>k_is)
  (case l2=>k_is)
  (case c2=>k_is)
  (case k2=>k_is)
  (case a3=>k_is)
  (case l3=>k_is)
  (case c3=>k_is)
  (case k3=>k_is)
  (case a4=>k_is)
  (case l4=>k_is)
  (case c4=>k_is)
  (case k4=>k_is)
  (case a5=>k_is)
  (case l5=>k_is)
  (case c5=>k_is)
  (case k5=>k_is)
  (case a6=>k_is)
  (case l6=>k_is)
  (case c6=>k_is)
  (case k6=>k_is)
  (case a7=>k_is)
  (case l7=>k_is)
  (case c7=>k_is)
  (case k7=>k_is)
  (case a8=>k_is)
  (case l8=>k_is)
  (case c8=>k_is)
  (case k8=>k_is)
  (case a9=>k_is)
  (case l9=>k_is)
  (case c9=>k_is)
  (case k9=>k_is)
  (case a10=>k_is)
  (case l10=>k_is)
  (case c10=>k_is)
  (case k10=>k_is)
  (case a11=>k_is)
  (case l11=>k_is)
  (case c11=>k_is)
  (case k11=>k_is)
  (case a12=>k_is)
  (case l12=>k_is)
  (case c12=>k_is)
  (case k12=>k_is)
  (case a13=>k_is)
  (case l13=>k_is)
  (case c13=>k_is)
  (case k13=>k_is)
  (case a14=>k_is)
  (case l14=>k_is)
  (case c14=>k_is)
  (case k14=>k_is)
  (case a15=>k_is)
  (case l15=>k_is)
  (case c15=>k_is)
  (case k15=>k_is)
  (case a16=>k_is)
  (case l16=>k_is)
  (case c16=>k_is)
  (case k16=>k_is)
  (case a17=>k_is)
  (case l17=>k_is)
  (case c17=>k_is)
  (case k17=>k_is)
  (case a18=>k_is)
  (case l18=>k_is)
  (case c18=>k_is)
  (case k18=>k_is)
  (case a19=>k_is)
  (case l19=>k_is)
  (case c19=>k_is)
  (case k19=>k_is)
  (case a20=>k_is)
  (case l20=>k_is)
  (case c20=>k_is)
  (case k20=>k_is)
  (case a21=>k_is)
  (case l21=>k_is)
  (case c21=>k_is)
  (case k21=>k_is)
  (case a22=>k_is)
  (case l22=>k_is)
  (case c22=>k_is)
  (case k22=>k_is)
  (case a23=>k_is)
  (case l23=>k_is)
  (case c23=>k_is)
  (case k23=>k_is)
  (case a24=>k_is)
  (case l24=>k_is)
  (case c24=>k_is)
  (case k24=>k_is)
  (case a25=>k_is)
  (case l25=>k_is)
  (case c25=>k_is)
  (case k25=>k_is)
  (case a26=>k_is)
  (case l26=>k_is)
  (case c26=>k_is)
  (case k26=>k_is)
  (case a27=>k_is)
  (case l27=>k_is)
  (case c27=>k_is)
  (case k27=>k_is)
  (case a28=>k_is)
  (case l28=>k_is)
  (case c28=>k_is)
  (case k28=>k_is)
  (case a29=>k_is)
  (case l29=>k_is)
  (case c29=>k_is)
  (case k29=>k_is)
  (case a30=>k_is)
  (case l30=>k_is)
  (case c30=>k_is)
  (case k30=>k_is)
  (case a31=>k_is)
  (case l31=>k_is)
  (case c31=>k_is)
  (case k31=>k_is)
  (case a32=>k_is)
  (case l32=>k_is)
  (case c32=>k_is)
  (case k32=>k_is)
  (case a33=>k_is)
  (case l33=>k_is)
  (case c33=>k_is)
  (case k33=>k_is)
  (case a34=>k_is)
  (case l34=>k_is)
  (case c34=>k_is)
  (case k34=>k_is)
  (case a35=>k_is)
  (case l35=>k_is)
  (case c35=>k_is)
  (case k35=>k_is)
  (case a36=>k_is)
  (case l36=>k_is)
  (case c36=>k_is)
  (case k36=>k_is)
  (case a37=>k_is)
  (case l37=>k_is)
  (case c37=>k_is)
  (case k37=>k_is)
  (case a38=>k_is)
  (case l38=>k_is)
  (case c38=>k_is)
  (case k38=>k_is)
  (case a39=>k_is)
  (case l39=>k_is)
  (case c39=>k_is)
  (case k39=>k_is)
  (case a40=>k_is)
  (case l40=>k_is)
  (case c40=>k_is)
  (case k40=>k_is)
  (case a41=>k_is)
  (case l41=>k_is)
  (case c41=>k_is)
  (case k41=>k_is)
  (case a42=>k_is)
  (case l42=>k_is)
  (case c42=>k_is)
  (case k42=>k_is)
  (case a43=>k_is)
  (case l43=>k_is)
  (case c43=>k_is)
  (case k43=>k_is)
  (case z_abs=>k_is)
  (case z_any=>k_is)
  (case z_enumerate=>k_is)
  (case z_len=>k_is)
  (case z_list=>k_is)
  (case z_max=>k_is)
  (case z_min=>k_is)
  (case z_range=>k_is)
  (case z_sum=>k_is)
  (case z_tuple=>k_is)
  (case g_MANY_WAYS=>k_is)
  (case g_MOST_SIZE=>k_is)
  (case ya0=>k_is)
  (case yb0=>k_is)
  (case yc0=>k_is)
  (case yd0=>k_is)
  (case yg0=>k_is)
  (case yh0=>k_is)
  (case yt0=>k_is)
  (case ym0=>k_is)
  (case ya1=>k_is)
  (case yb1=>k_is)
  (case yc1=>k_is)
  (case yd1=>k_is)
  (case yg1=>k_is)
  (case yh1=>k_is)
  (case yt1=>k_is)
  (case ym1=>k_is)
  (case ya2=>k_is)
  (case yb2=>k_is)
  (case yc2=>k_is)
  (case yd2=>k_is)
  (case yg2=>k_is)
  (case yh2=>k_is)
  (case yt2=>k_is)
  (case ym2=>k_is)
  (case ye=>k_is)
  (case yf=>k_is)
  (case yo_NoMove=>k_exc)
  (case yo_TooMany=>k_exc)
  (case yn=>decide)
