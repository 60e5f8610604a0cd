import PyProof.Rows.All
import Wide.All
import OpenK.AllK
import Wide.FinOn
import PyProof.EqAt
import PyProof.EqKinds
import PyProof.TupleCall
import PyProof.NeKinds
import PyProof.FactsAll.tuple_2
import PyProof.FactsAll.tuple_3
import PyProof.ListRange
import KE.KSortTup
import PyProof.EnumMake
import PyProof.AutoSeq1
import PyProof.Rows.SeqMore
import KE.KIsAll
import PyProof.ExcArgsOwn
import PyProof.ExcBaseAll.ValueError
import PyProof.ExcAttrAll.ValueError
import OpenK.KOwn
import PyProof.RulesAs
import PyProof.AutoRange
import PyProof.SeqRoads2
import PyProof.ZipIter
import PyProof.StrCalls2
import KE.KDictSum
import PyProof.SumAny
import KE.KRevIter
import PyProof.Rows.FStr
import PyProof.Rows.FStrParts
import KE.KRevSl
import PyProof.Rows.SetFrom
import PyProof.AttrMissHeap
import KE.KDictOf
import KE.KItemsList
import PyProof.Rows.TupDisplay
import PyProof.TupleOfStr
import Lean
import PySem.Challenge.RW_rookborders_k62_determinants
set_option bootstrap.genMatcherCode false
set_option Elab.async false
set_option linter.all false
set_option maxRecDepth 100000
set_option maxHeartbeats 1000000
set_option linter.defProp false
open PySem renaming wpAny_bind→HZ,Value→Ia,Shared→Ic,wpAny_pure→Ih,starEach→Iu,sizeLine→Iy,wpAny→II,Program→IP,Around→Jc,wpAny_mono→Ji,World→Jo,mainGlobals→Js,wpAny_newObj_type→Jw,mem_of_lookup→Jy,foldedSetIterable→JE,wpAny_callSpecial?_slot→JS,swapsWith→JU,wpAny_call_entry→JX,sizeLine_eq→JY,bootBuiltins→J5,Spec→J7,cLine→Ke,wpAny_holding→Kj,sysModules→Kn,backTo→Ko,cellsFrom→KA,wpAny_field→KC,wpAny_rule→KH,wpAny_comprehension_free→KI,wpAny_typeNameOfWhole_keyiter→KN,Scope→KO,NameKind→KW,codeAny→KZ,wpAny_standAt→K2,FuncData→K6,letOwnedTupleGo→Lb,wpAny_loadPart'→Lc,assignEach→Lm,wpAny_typeNameOf_keyiter→Lq,wpAny_setField_rec→LD,tupleKind_room_in1→LG,binaryOp→LI,codeAny_builtin→LJ,attributeBase→LK,assign→LN,wpAny_truthy_bool→LQ,compareOp→L5,codeAny_mono→L6,behindInMarks→Mc,wpAny_passesOwn→Mi,wpAny_pyIter_tuple→Mm,tupleKind→Mp,sliceBounds→Mq,relabel→My,newFunctionEnv→Mz,codeAny_compStart_list→MA,wpAny_pyIter_enum→MC,wpAny_dictEntries→ME,atKey_none_of_get→MM,wpAny_isOneOf_keyiter→MQ,pyNext→MS,rawInt→MT,getItem→MY,wpAny_attempt→MZ,IsEnum→Na,Keyword→Nh,Result→Nm,wpAny_Call_Name_kw→No,wpAny_setField→Nv,firstArgMember→Nw,wpAny_letOwnedTupleGo_enum→Nx,wpAny_fieldsOf→Ny,wpAny_assign_Name→NF,holding→NG,standAt→NH,keywordEach→NJ,Builtin→NK,unsupported→NM,wpAny_newList→NW,DictEntry→N5,compEnvC→N6,atKey→Oe,wpAny_load→Oo,IsPart→Os,wpAny_typeOf→Ot,callerA→Ov,newList→Ox,call_meetsIn→OC,wpAny_execs_nil→OH,again→OI,theTreesLotGoes→OJ,wpAny_dictEpoch→ON,exec_Assign_Name_used→OQ,wpAny_notOrdered_dict→OX,subscripted→O1,wpAny_newTuple→O7,wpAny_runValue→O8,wpAny_pyIter_keyiter→Pc,dictSetDefault→Pg,valueAt→Pn,ItemsOf→Po,eval_ListComp→PB,plainId_quiet→PD,builtinsNs→PL,pyIter→PM,wpAny_getItem_heap→PU,wpAny_pyIter_list→P1,BindsTo→P2,concat_meets→P4,wpAny_sequenceKey→P5,seqIndex_neg→P6,slot_list_getitem→P7,backToKw→P8,codeAny_loop→Qb,compTurn→Qc,compPost→Qd,collect→Qg,callType_new→Qj,wpAny_Call_method→Qk,wpAny_eqBool_int→Qo,wpAny_execs_cons→Qp,noFill_tuple_add→Qs,noteFrame→Qw,wpAny_isInstance→QB,wpAny_pyIter_zip→QC,wpAny_Dict_empty→QD,seqIndex_of→QN,wpAny_noted→QO,wpAny_of_eq→QQ,storedH_new→QR,pushCells_keeps→Q0,storedH→Re,wpAny_Name→Rf,recursionLimit→Rh,bindL→Ri,bindC→Rj,call→Ro,field→Ry,wpAny_seqItems→Rz,setField→RA,isSubtype_stop→RB,swapsWithSole→RX,swappedStores→RY,seq_tuple_add→R0,evalPart_none→R6,call_list_seq→Sb,comprehension→Sc,wpAny_handled→Sh,IsEnumOut→SB,setItem→SH,SetTable→Ue,Operator→Uo,bindArgs→Up,newTuple→UZ,Params→Wb,newExc→Wt,IsPair→Wx,Model→WN,CmpOp→WR,Fin→Xw
open PySem.Heap renaming get?_push_of_some→Ib,get?_push_size→Io,lt_size→Ix,size_push→J8,SameBut→J9,get?_update_other→Ka,get?_update_self→Ki,get?_push_ne→NP,ExtBut→Pa,get?_update_ne→Pw
open Nat renaming le_refl→Ie,lt_of_lt_of_le→IJ,le_of_ble_eq_true→IL,ne_of_lt→IV,zero_le→Jh,le_trans→Jk,lt_of_le_of_lt→JA,lt_succ_self→JT,lt_irrefl→Ku,ne_of_gt→Kw,mul_le_mul→K8,le_of_lt→Le,add_zero→Lh,mul_le_mul_right→Lk,not_lt→Lo,lt_of_not_le→Lw,le_of_succ_le→LU,le_succ→LZ,le_succ_of_le→MB,zero_add→ML,le_add_right→MU,pow_le_pow_right→M7,le_max_right→N7,add_sub_cancel_left→Og,sub_self→OF,succ_mul→OG,not_lt_zero→OL,one_mul→Pj,lt_succ_of_lt→Qh,add_assoc→Sj,lt_trans→Th,add_comm→Tq,pow_succ→Tv,succ→Uv,log2_lt→UU
open List renaming getElem?_eq_getElem→Ig,mem_cons_of_mem→Ii,replicate→Im,map_cons→Ip,length_map→Ir,mem_cons_self→Is,getElem?_set_ne→Iv,mem_append_right→Iw,range→Iz,getElem?_eq_some_iff→IA,mem_cons→IC,getElem?_set_self→ID,mem_map→IE,size_toArray→IF,length_cons→IK,mem_append→IM,mem_singleton→IN,append_assoc→IS,getElem?_append_right→IX,getD_eq_getElem?_getD→IZ,mem_append_left→Ja,getElem?_map→Jd,length_append→Jf,getElem?_append_left→Jg,getElem?_replicate→Jj,map_map→Jl,nodup_cons→Jq,pairwise_append→Jt,getElem?_eq_none→Ju,map_append→Jv,mem_range→JB,append_nil→JF,getD→JH,mem_filter→JJ,take_append_drop→JO,map_congr_left→JP,find?_cons→JR,pairwise_iff_getElem→JV,foldl_cons→JW,flatMap_cons→J6,range_succ_eq_map→Kb,mem_flatMap→Kc,drop_eq_getElem_cons→Kf,reverse_append→Kh,not_mem_nil→Ks,drop_eq_nil_of_le→Kx,perm_append_comm→KF,mem_of_getElem?→KJ,nodup_nil→KM,pairwise_map→KQ,getElem?_cons_zero→KR,toArray→K0,lookup_cons→K4,ext_getElem?→Lg,nodup_append→Li,getElem?_take_of_lt→Ln,getElem_of_mem→Ls,length_reverse→Lu,getElem?_cons_succ→Lv,mem_reverse→Lx,pairwise_cons→LC,sum_cons→LM,take_sublist→LR,drop_sublist→LW,length_range→LX,length→LY,length_take→L7,all_eq_true→L8,getElem?_range→Mb,any_cons→Me,length_set→Mj,map_nil→Mx,getElem_mem→MW,mem_of_mem_take→M6,of_mem_zip→M8,nil_append→Nd,filterMap_cons→Nf,lookup_append→Nr,getElem?_drop→NB,getElem?_zip_eq_some→NC,getElem?_set→NQ,foldl_append→NT,length_drop→N4,map→Oa,any_eq_true→Oi,filter_cons_of_pos→Ol,filter_cons_of_neg→Om,flatMap_nil→On,take_of_length_le→OE,length_replicate→OP,set_append_right→OZ,length_filter_le→O0,drop_drop→Pd,reverse_reverse→Pe,getElem?_append→Pf,range_eq_range'→Pi,mem_map_of_mem→Py,all_cons→PC,mem_filterMap→PN,findIdx?_cons→PV,find?_eq_none→PX,any_map→Ql,getElem_drop→Qm,cons_append→Qv,map_snd_zip→Qy,range'_succ→QH,take_length→QI,filter_cons→QJ,ext_getElem→QK,forIn_cons→QZ,length_nil→Q7,sum_append→Ra,isPerm_iff→Rb,forIn_nil→Rp,mapM_cons→RC,drop_zero→RG,all_map→SW,map_set→To,range'→U9
open PyProof.Rows renaming wpS_pure→Ij,wpS_bind→Ik,Keyed→IG,SortSt→JI,slot_tuple_getitem→JM,wpS_forRange→JQ,callWith_type1→Kt,wpS_modify→Kz,seqObj→KG,wpS_mono→KY,pendingOf→K5,sortedHeap→LB,SortKind→L0,listUpdate_at→Mf,elem'→Mh,wpS_get→Ml,AllBare→Mv,envOfC→Mw,seqEpoch_at→M3,arrOf→NL,wpS_lift→Oh,subscriptTail_builtinR→Ou,entry_tuple_getitem→Pp,getElem?_mirror_all→Pv,subscriptTail→Pz,args_tuple_getitem→PP,failedOf→Qf,callWith_builtin1→Qr,mirror→QF,getElem?_bubble→Q2,get?_update_seq→Q3,list_sort_plain→Q4,entry_list_sort→Q5,IntsAre→Rc,slicePart_none→Rl,Subscript_→Rm,sortedHeap_old→Ru,slot_list_sort→Rv,args_list_sort→Rx,gallopOf→RD,tupleItemsOf_→R5,sortedHeap_at→Sg,bubble→Tb,IsTup→Ug,keyKind'→UX,mergeAt'→U6,power'→WE
open PySem.W renaming Frag→Il,mg_none_of→Km,nsIn→Mn,kas_rev→Ni,kia_one→Nk,keepIn→Nn,fnOf→Op,kitOne→O6,codeIn→P3,cellsFrom_some→Qq,methodObj→QM,kas_sort→Rt,OpenLaw→Su,kas_ask→Tc,kitx_list→UT
open Option renaming bind_eq_some_iff→Iq,bind_some→IB,map_eq_some_iff→Jr,map_some→Ld,bind→Mt,isSome_some→PQ,getD_none→Qu,none→Uu
open Or renaming inr→IQ,inl→Jp
open Ne renaming symm→IT
open Sum renaming inl→IU,inr→Pl
open Array renaming length_toList→IW,toList_append→JC,getD_eq_getD_getElem?→JL,toList_push→Ky,getElem?_toList→KD,getD→KU,getElem?_eq_getElem→La,size_setIfInBounds→Lr,toList_reverse→L3,perm_iff_toList_perm→Nu,toList_setIfInBounds→NA,eraseIdxIfInBounds→N0,map→N9,mem_toList_iff→O9,toList_modify→Px,append_assoc→PK,toList_inj→Qx,toList→SG
open Option.some renaming inj→Je
open PySem.Value renaming none→Jm,ref→JD,int→K3,type→PJ,isStrOf→RV,str→Sq,isInt→Uf,bool→VW
open Bool renaming and_eq_true→Jn,false_eq_true→JG,false_ne_true→Kq,not_eq_true'→LS,not_eq_false'→Nz,eq_iff_iff→OM,or_eq_true→QY,or_false→R9
open PySem.PassesOwn renaming never→Jz
open List.Perm renaming append_right→JK,append_left→JZ,eq_of_pairwise→NX,of_eq→OO,trans→Q8
open List.Pairwise renaming sublist→JN,imp→MF,nil→Qa
open PySem.Builtin.SmallTypes renaming nextOf→Kg,ownedTupleHandOut→Ma,ownedTupleIsFree→Mg
open PySem.Builtin.Tuple renaming tupleExact→Kk,tupleItemsOf→Nq,tupleIsExact→RF,tupleHashOf→RJ
open PySem.F renaming slot_dict_keyiterator_next→Kl,slot_tuple_iterator_next→K7,plain_list_iadd→Lf,slot_enumerate_next→LP,plainAttrs_list→Mr,plainAttrs_dict→Mu,entry_proto_collect→MN,plain_proto_collect→MO,slot_dict_get→MP,args_dict_keyiterator_next_1→MV,args_object_init_2→M4,entry_dict_keyiterator_next→M5,args_tuple_iterator_next_1→M9,slot_dict_setdefault→Nc,entry_tuple_iterator_next→Nj,slot_dict_getitem→NE,entry_list_iadd→NN,args_tuple_add_2→NV,slot_list_extend→NY,type_list_extend→NZ,slot_list_append→N1,type_list_append→N2,entry_tuple_add→N3,args_enumerate_next_1→Oc,args_dict_get_3→Of,slot_dict_items→Oj,slot_tuple_add→Oq,entry_enumerate_next→OA,typeCall_enumerate_1→OB,entry_dict_get→OD,newCall_enumerate_1→OV,entry_enumerate_new→OW,called_enumerate→PR,slot_dict_iter→QE
open PySem.Obj renaming mapSeq→Kp,isFreed_of_fields→LO,data_mapFields→Mo,data_mapDictKeys→Ph,cls_mapFields→Qi,mapFields→Si
open PySem.Builtin.Range renaming rangeSize→Kr,small→Ng
open PySem.NameKind renaming free→Kv,cell→LL
open PySem.Heap.SameBut renaming update→KB
open PySem.Around renaming under_plainId→KL
open Int renaming toNat_natCast→KP,mul_zero→K1,add_zero→Lj,zero_add→LH,natAbs_mul→L4,mul_left_comm→NS,mul_add→QU,ediv_nonneg→Q6,mul_assoc→Sn,ediv_one→SQ,mul_comm→Tr,mul_one→Um
open PySem.Builtin.Slice renaming slicePlaces→K9,sliceAdjust→L9,sliceApplied→Np,slicePartIndex→QX,sliceFields→RL
open PySem.Paired renaming length→Ll,snoc→U2
open PySem.SeqAt renaming EqAt→Lp,RcNeAt→Qe,RcAt→Rq
open PySem.Calls renaming spliced_cons→Ly,callWith_builtin→LA,evalArgs_plain→M0,Name_function_global→Nl,call_function_entry→ND,spliced_nil→NI
open PySem.Str renaming ofString→Lz
open PySem.Builtin.List renaming listExtendWith→LV,listTooLong→Md
open PySem.W.KasT renaming kasWp_bind→Mk
open Nat.succ renaming inj→MD
open PySem.SetTable renaming leap→MX,runEnd→QW,bits→RU
open PySem.Builtin.Dict_items renaming ownsTuple→Nb
open PySem.SeqAt.EqAt renaming of_refs→Nt,tuple_list→OR,none_list→O2,bool_list→O3,int_list→Pq,str_list→Pr,int_str→PF,str_int→PH,same→Q1,none_tuple→TF,bool_tuple→TH,tuple_none→TJ,tuple_bool→TK,list_tuple→TL,none_bool→Uw,bool_none→Ux,bool_bool→Uy,int_tuple→Uz,str_tuple→UA,tuple_int→UB,tuple_str→UC,list_none→UD,list_bool→UE,none_int→Vm,none_str→Vn,bool_int→Vo,bool_str→Vp,int_none→Vq,int_bool→Vr,str_none→Vs,str_bool→Vt,list_int→Vu,list_str→Vv,int_int→Wh,str_str→Wi
open PySem.Challenge renaming pw_rookborders_k62_determinants→NR,rw_rookborders_k62_determinants→NU
open PySem.SeqAt.RcNeAt renaming tuple_list→N8,none_list→Oy,bool_list→Oz,int_list→OT,str_list→OU,lists_lengths→Rr,none_tuple→Sv,bool_tuple→Sw,tuple_none→Sx,tuple_bool→Sy,list_tuple→Sz,none_none→SY,none_bool→SZ,bool_none→S0,bool_bool→S3,int_tuple→S4,str_tuple→S5,tuple_int→S6,tuple_str→S7,list_none→S8,list_bool→S9,none_int→TV,none_str→TW,bool_int→TX,bool_str→TY,int_none→TZ,int_bool→T0,str_none→T1,str_bool→T2,list_int→T3,list_str→T4,int_int→UP,int_str→UQ,str_int→UR,str_str→US,tuples→Vl,lists→Wg
open PySem.SeqAt.RcAt renaming tuple_list→OS,none_list→O4,bool_list→O5,int_list→Ps,str_list→Pt,lists_lengths→Se,none_tuple→TM,bool_tuple→TN,tuple_none→TQ,tuple_bool→TR,list_tuple→TU,none_none→UF,none_bool→UG,bool_none→UH,bool_bool→UI,int_tuple→UJ,str_tuple→UK,tuple_int→UL,tuple_str→UM,list_none→UN,list_bool→UO,none_int→Vw,none_str→Vx,bool_int→Vy,bool_str→Vz,int_none→VA,int_bool→VB,str_none→VC,str_bool→VD,list_int→VE,list_str→VF,int_int→Wj,int_str→Wk,str_int→Wl,str_str→Wm,tuples→WW,lists→Xr
open PySem.Builtin.Dict renaming showsAll→OY,keyAndDefault→RE,dictSlotNone→RO
open PySem.Builtin.Int renaming intBits→Pu
open PyProof.Rows.IsTup renaming new→Qt
open And renaming intro→Qz
open Sum.inl renaming inj→QL
open PySem.Fin renaming done→Rw
open PySem.W.Looks renaming now→SA
open PySem.Data renaming seq→Ut
open PySem.Heap.IsSliceOf renaming new→V8
open PySem.W.WShape renaming has→Wd
open PyProof.Rows.SortSt renaming mk'→WB
open PySem.W.WData renaming int→Xp
open Array.Perm renaming refl→XU
open PySem.Heap.DictOf renaming new→X3
namespace L2
open PySem
abbrev Pb:=SetTable.Probe
def HK(mask:Nat)(p:Pb):Pb:=
 if p.more>0 then {p with j:=p.j+1,more:=p.more-1} else
 {p with j:=(MX mask p.i p.perturb).1,more:=QW mask (MX mask p.i p.perturb).1- (MX mask p.i p.perturb).1,i:=(MX mask p.i p.perturb).1,perturb:=(MX mask p.i p.perturb).2}
def E9(mask i perturb:Nat)(d:Option Nat):Pb:={j:=i,more:=QW mask i-i,i:=i,perturb:=perturb,dummy:=d}
def Fl(mask:Nat):Nat->Pb->Pb
 |0,p=>p
 |n+1,p=>Fl mask n (HK mask p)
def pst(mask:Nat)(h:Int)(d:Option Nat):Pb:=E9 mask (RU h % (mask+1)) (RU h) d
def Jx(mask:Nat)(h:Int)(m:Nat):Nat:=(Fl mask m (pst mask h none)).j
def Hs(xs:Array Nat):Prop:=xs.toList.Pairwise (·< ·)
structure TOk(t:Ue)(hs:List Int):Prop where
 pw: ∃k,3<=k/\k<=12/\t.mask+1=2^k
 sz:t.place.size=hs.length
 sp:Hs t.place
 sd:Hs t.dummies
 lp: ∀j∈t.place.toList,j<=t.mask
 ld: ∀j∈t.dummies.toList,j<=t.mask
 dj: ∀j∈t.dummies.toList,j∉t.place.toList
 fl:t.fill<=t.mask
 rc: ∀x∈hs.zip t.place.toList,∃m,Jx t.mask x.1 m=x.2/\ ∀m',m'<m->Jx t.mask x.1 m'∈t.place.toList\/Jx t.mask x.1 m'∈t.dummies.toList
open PySem PySem.Spec PyProof.Rows
def th(ks:List Int):Int:=reduceHash (RJ (ks.map hashInt))
def HM(x:List Int×Addr):Int×Value:=(th x.1,.ref x.2)
abbrev Hb:=List (List Int×Addr)
def HP(xs:Hb):List Int:=xs.map λx=>th x.1
structure SetAt(w:Jo)(o:Obj)(es:Array (Int×Ia))(ep:Nat)(t:Ue)(xs:Hb):Prop where
 ex:o.ExactSet
 hd:o.data=.set es ep t
 he:es.toList=xs.map HM
 T:TOk t (HP xs)
 led:t.led= !w.params.followText "set-order"
 pl:t.plain=true
 nd:(xs.map (·.1)).Nodup
structure SetOk(w:Jo)(o:Obj)(es:Array (Int×Ia))(ep:Nat)(t:Ue)(xs:Hb):Prop extends SetAt w o es ep t xs where
 f5:t.fill*5<t.mask*3
abbrev aM:=Sum Int Str
def l5:aM->Ia->Bool
 | .inl k,v=>Uf k v
 | .inr x,v=>RV x v
def Hf(w:Jo):aM->Int
 | .inl k=>hashInt k
 | .inr x=>hashStr w x
theorem bg: ∀ {k:aM} {v:Ia},l5 k v=true->(∃i t,k=IU i/\v=K3 i t)\/(∃x t,k=Pl x/\v=Sq x t)
 | .inl i,v,h=>by
   obtain⟨t,e⟩:=Value.isInt_shape (k:=i) (v:=v) h
   exact .inl ⟨i,t,rfl,e⟩
 | .inr x,v,h=>by
   obtain⟨t,e⟩:=Value.isStrOf_shape (x:=x) (v:=v) h
   exact .inr ⟨x,t,rfl,e⟩
theorem wY(i:Int)(t:Tok):l5 (.inl i) (.int i t)=true:=by simp[l5,Uf]
theorem xf(x:Str)(t:Tok):l5 (.inr x) (.str x t)=true:=by simp[l5,RV]
theorem Ea(a b:Int):decide ((IU a:aM)=IU b)=(a==b):=by
 by_cases e:a=b
 ·subst e;simp
 ·have h: ¬(IU a:aM)=IU b:=λq=>e (QL q)
  rw[decide_eq_false h];exact(beq_eq_false_iff_ne.mpr e).symm
theorem El(a b:Str):decide ((Pl a:aM)=Pl b)=decide (a=b):=by
 by_cases e:a=b
 ·subst e;simp
 ·have h: ¬(Pl a:aM)=Pl b:=λq=>e (Sum.inr.inj q)
  rw[decide_eq_false h,decide_eq_false e]
theorem DM(a:Int)(b:Str):decide ((IU a:aM)=Pl b)=false:=decide_eq_false (λq=>nomatch q)
theorem D2(a:Str)(b:Int):decide ((Pl a:aM)=IU b)=false:=decide_eq_false (λq=>nomatch q)
def aZ(prog:IP)(w:Jo):PySem.KeyKind prog w aM where
 is:=l5
 hash:=Hf w
 inj:=λv a b ha hb=>by
  rcases bg ha with⟨i,t,rfl,rfl⟩|⟨x,t,rfl,rfl⟩
  ·rcases bg hb with⟨j,u,rfl,e⟩|⟨y,u,rfl,e⟩
   ·injection e with e1 _;rw[e1]
   ·exact nomatch e
  ·rcases bg hb with⟨j,u,rfl,e⟩|⟨y,u,rfl,e⟩
   ·exact nomatch e
   ·injection e with e1 _;rw[e1]
 byValue:=λk v h=>by
  rcases bg h with⟨i,t,rfl,rfl⟩|⟨x,t,rfl,rfl⟩<;>rfl
 pyHash:=λhv h=>by
  rcases bg hv with⟨i,t,rfl,rfl⟩|⟨x,t,rfl,rfl⟩
  ·exact wpAny_pyHash_int h
  ·exact wpAny_pyHash_str h
 eqBool:=λhu hv h=>by
  rcases bg hu with⟨i,t,rfl,rfl⟩|⟨x,t,rfl,rfl⟩
  ·rcases bg hv with⟨j,u,rfl,rfl⟩|⟨y,u,rfl,rfl⟩
   ·rw[Ea] at h;exact Qo h
   ·rw[DM] at h;exact PF i t y u _ _ _ _ h
  ·rcases bg hv with⟨j,u,rfl,rfl⟩|⟨y,u,rfl,rfl⟩
   ·rw[D2] at h;exact PH x t j u _ _ _ _ h
   ·rw[El] at h;exact wpAny_eqBool_str h
 «strs»:=λk x t v h=>by
  rcases bg h with⟨i,u,rfl,e⟩|⟨y,u,rfl,e⟩
  ·exact nomatch e
  ·injection e with e1 _
   subst e1;cases v<;>rfl
theorem sX(prog:IP)(w:Jo)(k:aM)(v:Ia):(aZ prog w).is k v=l5 k v:=rfl
theorem qk(prog:IP)(w:Jo)(i:Int)(t:Tok):(aZ prog w).is (.inl i) (.int i t)=true:=wY i t
theorem rQ(prog:IP)(w:Jo)(x:Str)(t:Tok):(aZ prog w).is (.inr x) (.str x t)=true:=xf x t
inductive V where
 |non|bl (b:Bool)|int (i:Int)|str (x:Str)|byt (b:Array UInt8)|flt (b:UInt64)|ref (a:Addr)|ty (n:String)
 deriving DecidableEq
def RelV:V->Ia->Prop
 | .non,u=>u=Jm
 | .bl b,u=>u=VW b
 | .int i,u=> ∃t,u=K3 i t
 | .str x,u=> ∃t,u=Sq x t
 | .byt b,u=> ∃t,u=Value.bytes b t
 | .flt b,u=> ∃t,u=Value.float b t
 | .ref a,u=>u=JD a
 | .ty n,u=>u=PJ n
abbrev Vals:List V->List Ia->Prop:=Paired RelV
theorem Vals.length {xs:List V}{us:List Ia}(r:Vals xs us):xs.length=us.length:=Ll r
theorem Vals.get: ∀ {xs:List V} {us:List Ia} {i:Nat} {x:V},Vals xs us->xs[i]? =some x-> ∃u,us[i]? =some u/\RelV x u
 |_,_,_,_,.nil,e=>by simp at e
 |_,_,0,_,.cons r _,e=>by simp at e;subst e;exact⟨_,rfl,r⟩
 |_,_,i+1,x,.cons _ t,e=>by
  obtain⟨u,h1,h2⟩:=Vals.get (i:=i) (x:=x) t (by simpa using e)
  exact⟨u,by simpa using h1,h2⟩
theorem Vals.set {x:V}{u:Ia}(r:RelV x u): ∀ {xs:List V} {us:List Ia} (i:Nat),Vals xs us->Vals (xs.set i x) (us.set i u)
 |_,_,_,.nil=>.nil
 |_,_,0,.cons _ t=>.cons r t
 |_,_,i+1,.cons q t=>.cons q (Vals.set r i t)
theorem Vals.append: ∀ {xs ys:List V} {us ws:List Ia},Vals xs us->Vals ys ws->Vals (xs++ys) (us++ws)
 |_,_,_,_,.nil,s=>s
 |_,_,_,_,.cons r t,s=>.cons r (Vals.append t s)
theorem Vals.take: ∀ {xs:List V} {us:List Ia} (n:Nat),Vals xs us->Vals (xs.take n) (us.take n)
 |_,_,0,_=>.nil
 |_,_,_+1,.nil=>.nil
 |_,_,n+1,.cons r t=>.cons r (Vals.take n t)
theorem Vals.drop: ∀ {xs:List V} {us:List Ia} (n:Nat),Vals xs us->Vals (xs.drop n) (us.drop n)
 |_,_,0,r=>r
 |_,_,_+1,.nil=>.nil
 |_,_,n+1,.cons _ t=>Vals.drop n t
def RelO:Option V->Option Ia->Prop
 |some v,some u=>RelV v u
 |none,none=>True
 |_,_=>False
def KV {κ:Type}:List (κ×V)->List (κ×Ia)->Prop:=Paired λ(p:κ×V) (q:κ×Ia)=>p.1=q.1/\RelV p.2 q.2
def kV:aM->V
 | .inl i=>.int i
 | .inr x=>.str x
inductive HO where
 |lst (xs:List V)
 |tup (xs:List V)
 |dK (kvs:List (aM×V))|dT (kvs:List (List aM×V))
 |set (S:Int->Bool) (n:Nat)
 |tst (xs:List (List Int×Addr))
 |ins (C dx:Addr) (fs:List (Str×V))
 |own (x:Addr)
 |xd (fs:List (Str×V))
 |met (f x:Addr)
 |rng (lo hi:Int)
 |frz (o:Obj) (u:HO)
 |nst (p:Addr) (u:HO)
 |tbl (ps:Array Ia)
 |ext (φ:Heap->Prop)
abbrev Hp:=Addr->Option HO
def aI(H:Hp)(a:Addr)(o:HO):Hp:=λb=>if b=a then some o else H b
theorem ah {H:Hp}{a:Addr}{o:HO}:aI H a o a=some o:=by unfold aI;rw[if_pos rfl]
theorem af {H:Hp}{a b:Addr}{o:HO}(h:b≠a):aI H a o b=H b:=by unfold aI;rw[if_neg h]
theorem jW {H:Hp}{a:Addr}{o u:HO}:aI (aI H a o) a u=aI H a u:=by
 funext b;unfold aI;split<;>rfl
theorem ym {H:Hp}{a b:Addr}{o u:HO}(h:H a=some o)(h':H b=some u)(d:o≠u):a≠b:=by
 intro e;subst e;rw[h] at h';exact d (Je h')
theorem aQ {H:Hp}{a b:Addr}{o:HO}(h:H a=some o)(h':H b=none):a≠b:=by
 intro e;subst e;rw[h] at h';cases h'
section
variable(P:IP)(w:Jo)
def ObjOk(H:Hp)(h:Heap)(a:Addr):HO->Prop
 | .lst xs=>xs.length<=Iy/\ ∃(its:List Ia) (n:Nat),Vals xs its/\h.get? a=some {cls:=.type "list",data:=.seq its.toArray n}
 | .tup xs=>xs.length<=Iy/\ ∃its:List Ia,Vals xs its/\Ug h a its.toArray/\ ∃o,h.get? a=some o/\o.dict=none
 | .dK kvs=>kvs.length<=Iy/\(a==Kn)=false/\ ∃vs,KV kvs vs/\h.DictOf (aZ P w) a vs
 | .dT kvs=>kvs.length<=Iy/\(a==Kn)=false/\ ∃xs:List (List aM×Addr×Ia),
    Paired (λ(p:List aM×V) (q:List aM×Addr×Ia)=>p.1=q.1/\H q.2.1=some (.tup (p.1.map kV))/\RelV p.2 q.2.2) kvs xs/\
    ∃o es ep,h.get? a=some o/\o.ExactDict/\o.data=.dict es ep/\es.toList=xs.map (entryOfKey (Mp (aZ P w)))/\(xs.map (·.1)).Nodup
 | .set S n=>h.SetOf (intKind P w) a S n
 | .tst xs=> ∃o es ep t,h.get? a=some o/\SetOk w o es ep t xs
 | .ins C dx fs=>H dx=some (.own a)/\fs.length<=1000/\dx≠a/\h.get? a=some (W.instObj C dx)/\
    ∃mA,h.Ns1 dx mA/\(∀f,RelO (fs.lookup f) (mA f))/\PySem.Within mA (fs.map (·.1))
 | .own _=> ∃o,h.get? a=some o
 | .xd fs=> ∃mA,h.Ns1 a mA/\ ∀f,RelO (fs.lookup f) (mA f)
 | .rng lo hi=> ∃t u v,h.get? a=some {cls:=.type "range",data:=.fields #[.int lo t,.int hi u,.int 1 v]}
 | .frz o u=>h.get? a=some o/\ObjOk H h a u
 | .nst _ u=>ObjOk H h a u
 | .tbl ps=>h.get? a=some {cls:=.none,data:=.fields ps}
 | .met f x=>h.get? a=some (QM (.ref f) (.ref x))
 | .ext φ=>φ h/\(∃o,h.get? a=some o)/\ ∀h1 h2:Heap,φ h1->(∀o,h1.get? a=some o->h2.get? a=some o)->φ h2
def HOk(H:Hp)(h:Heap):Prop:= ∀a o,H a=some o->ObjOk P w H h a o
end
section
variable {P:IP}{w:Jo}{H H':Hp}{h h':Heap}{a:Addr}{o:HO}
theorem ObjOk.lt(x:ObjOk P w H h a o):a<h.objs.size:=by
 induction o with
 |lst xs=>obtain⟨_,_,_,_,e⟩:=x;exact Ix e
 |tup xs=>obtain⟨_,_,_,p,_⟩:=x;exact p.lt
 |dK kvs=>obtain⟨_,_,_,_,o,_,_,e,_⟩:=x;exact Ix e
 |dT kvs=>obtain⟨_,_,_,_,o,_,_,e,_⟩:=x;exact Ix e
 |set S n=>obtain⟨o,_,_,_,e,_⟩:=x;exact Ix e
 |tst xs=>obtain⟨o,_,_,_,e,_⟩:=x;exact Ix e
 |ins C dx fs=>obtain⟨_,_,_,e,_⟩:=x;exact Ix e
 |own y=>obtain⟨_,e⟩:=x;exact Ix e
 |xd fs=>obtain⟨_,⟨_,_,_,e,_⟩,_⟩:=x;exact Ix e
 |rng lo hi=>obtain⟨_,_,_,e⟩:=x;exact Ix e
 |frz ob u ih=>obtain⟨e,_⟩:=x;exact Ix e
 |nst p u ih=>exact ih x
 |tbl ps=>exact Ix (show h.get? a=some _ from x)
 |met f y=>exact Ix (show h.get? a=some _ from x)
 |ext φ=>obtain⟨_,⟨_,e⟩,_⟩:=x;exact Ix e
theorem Paired.mapP {α β:Type}{F G:α->β->Prop}: ∀ {l₁:List α} {l₂:List β},Paired F l₁ l₂->(∀a b,F a b->G a b)->Paired G l₁ l₂
 |_,_,.nil,_=>.nil
 |_,_,.cons r t,f=>.cons (f _ _ r) (Paired.mapP t f)
theorem ObjOk.stay(x:ObjOk P w H h a o)(k: ∀b u,(b=a\/H b=some (.own a))->h.get? b=some u->h'.get? b=some u)
 (ho: ∀b,H b=some (.own a)->H' b=some (.own a)) (ht: ∀b xs,H b=some (.tup xs)->H' b=some (.tup xs)):ObjOk P w H' h' a o:=by
 induction o with
 |lst xs=>obtain⟨z,its,n,r,e⟩:=x;exact⟨z,its,n,r,k _ _ (.inl rfl) e⟩
 |tup xs=>obtain⟨z,its,r,⟨ob,e,c⟩,ob2,e2,c2⟩:=x;exact⟨z,its,r,⟨ob,k _ _ (.inl rfl) e,c⟩,ob2,k _ _ (.inl rfl) e2,c2⟩
 |dK kvs=>obtain⟨z,y,vs,r,ob,es,ep,e,c⟩:=x;exact⟨z,y,vs,r,ob,es,ep,k _ _ (.inl rfl) e,c⟩
 |dT kvs=>
  obtain⟨z,y,xs,r,ob,es,ep,e,c⟩:=x
  exact⟨z,y,xs,Paired.mapP r λp q z=>⟨z.1,ht _ _ z.2.1,z.2.2⟩,ob,es,ep,k _ _ (.inl rfl) e,c⟩
 |set S n=>obtain⟨ob,es,ep,t,e,c⟩:=x;exact⟨ob,es,ep,t,k _ _ (.inl rfl) e,c⟩
 |tst xs=>obtain⟨ob,es,ep,t,e,c⟩:=x;exact⟨ob,es,ep,t,k _ _ (.inl rfl) e,c⟩
 |ins C dx fs=>
  obtain⟨d,z,ne,e,mA,⟨od,es,ep,e2,c⟩,r⟩:=x
  exact⟨ho _ d,z,ne,k _ _ (.inl rfl) e,mA,⟨od,es,ep,k _ _ (.inr d) e2,c⟩,r⟩
 |own y=>obtain⟨ob,e⟩:=x;exact⟨ob,k _ _ (.inl rfl) e⟩
 |xd fs=>obtain⟨mA,⟨od,es,ep,e,c⟩,r⟩:=x;exact⟨mA,⟨od,es,ep,k _ _ (.inl rfl) e,c⟩,r⟩
 |rng lo hi=>obtain⟨t,u,v,e⟩:=x;exact⟨t,u,v,k _ _ (.inl rfl) e⟩
 |frz ob u ih=>obtain⟨e,q⟩:=x;exact⟨k _ _ (.inl rfl) e,ih q⟩
 |nst p u ih=>exact ih x
 |tbl ps=>
  have e:h.get? a=some {cls:=.none,data:=.fields ps}:=x
  show h'.get? a=some {cls:=.none,data:=.fields ps};exact k a _ (.inl rfl) e
 |met f y=>
  have e:h.get? a=some (QM (.ref f) (.ref y)):=x
  show h'.get? a=some (QM (.ref f) (.ref y));exact k a _ (.inl rfl) e
 |ext φ=>obtain⟨p,⟨o,e⟩,st⟩:=x;exact⟨st _ _ p λo q=>k _ _ (.inl rfl) q,⟨o,k _ _ (.inl rfl) e⟩,st⟩
theorem HOk.lt(x:HOk P w H h)(e:H a=some o):a<h.objs.size:=(x a o e).lt
theorem HOk.fresh(x:HOk P w H h)(e:h.objs.size<=a):H a=none:=by
 cases q:H a with
 |none=>rfl
 |some u=>exact absurd (IJ (x.lt q) e) (Ku _)
theorem HOk.kept(x:HOk P w H h)(k: ∀b u,h.get? b=some u->h'.get? b=some u):HOk P w H h':=λa o e=>
 (x a o e).stay (λb u _ q=>k b u q) (λ_ q=>q) λ_ _ q=>q
theorem HOk.laid(x:HOk P w H h)(k: ∀b u,h.get? b=some u->h'.get? b=some u)(hp:h.objs.size<=a)(new:ObjOk P w (aI H a o) h' a o):HOk P w (aI H a o) h':=λb u e=>by
 have hn:=x.fresh hp
 by_cases hb:b=a
 ·subst hb;rw[ah] at e;cases e;exact new
 ·rw[af hb] at e
  exact(x b u e).stay (λc v _ q=>k c v q) (λc q=>by rw[af (aQ q hn)];exact q) λc xs q=>by rw[af (aQ q hn)];exact q
end
def Rd(H:Hp)(a:Addr)(u:HO):Prop:=H a=some u\/ ∃o,H a=some (.frz o u)
theorem Rd.ok {P:IP}{w:Jo}{H:Hp}{h:Heap}{a:Addr}{u:HO}(r:Rd H a u)(x:HOk P w H h):ObjOk P w H h a u:=by
 rcases r with r|⟨o,r⟩
 ·exact x a u r
 ·obtain⟨_,q⟩:=x a _ r
  exact q
def BP:Option HO->Prop
 |some (.lst _)=>True
 |some (.dK _)=>True
 |some (.dT _)=>True
 |some (.set _ _)=>True
 |some (.tst _)=>True
 |some (.ins _ _ _)=>True
 |some (.ext _)=>True
 |some (.nst _ _)=>True
 |_=>False
section
variable {P:IP}{w:Jo}{H:Hp}{h h':Heap}{x e:Addr}{o':HO}
theorem HOk.write(ok:HOk P w H h)(mu:BP (H x))(he:e=x\/H e=some (.own x))(k: ∀b u,b≠e->h.get? b=some u->h'.get? b=some u)(heo: ∃u,h'.get? e=some u)
 (new:ObjOk P w (aI H x o') h' x o'):HOk P w (aI H x o') h':=λb u q=>by
 have nown: ∀c y,H c=some (.own y)->c≠x:=λc y r z=>by subst z;rw[r] at mu;exact mu
 have ntup: ∀c xs,H c=some (.tup xs)->c≠x:=λc xs r z=>by subst z;rw[r] at mu;exact mu
 by_cases hb:b=x
 ·subst hb;rw[ah] at q;cases q;exact new
 ·rw[af hb] at q
  by_cases hbe:b=e
  ·have q':H b=some (.own x):=by
    rcases he with z|z
    ·exact absurd (hbe.trans z) hb
    ·rw[hbe];exact z
   rw[q] at q';cases q';obtain⟨v,hv⟩:=heo
   exact⟨v,by rw[hbe];exact hv⟩
  ·refine(ok b u q).stay (λc v hc r=>k c v ?_ r) (λc r=>by rw[af (nown c b r)];exact r) λc xs r=>by rw[af (ntup c xs r)];exact r
   rcases hc with rfl|hc
   ·exact hbe
   ·rintro rfl
    rcases he with z|z
    ·exact nown c b hc z
    ·rw[hc] at z;cases z;exact hb rfl
end
structure Un(fs ex:List Addr)(H H':Hp)(h h':Heap):Prop where
 keep: ∀b o,h.get? b=some o->H b=none->b∉fs->b∉ex->h'.get? b=some o
 slot: ∀b o,h.get? b=some o->H b=none->b∈fs->b∉ex-> ∃sl,h'.get? b=some {o with slots:=sl}
 free: ∀b o,h.get? b=some o->H b=none->b∉ex->H' b=none
 there: ∀b o,h.get? b=some o->b∉ex-> ∃o',h'.get? b=some o'
 tups: ∀b xs,H b=some (.tup xs)->H' b=some (.tup xs)
 frzs: ∀b o u,H b=some (.frz o u)->H' b=some (.frz o u)
 tbls: ∀b ps,H b=some (.tbl ps)-> ∃more,H' b=some (.tbl (ps++more))
section
variable {fs fs' ex ex':List Addr}{H H1 H2:Hp}{h h1 h2 h':Heap}{a x e:Addr}{o:HO}
theorem Un.any(u:Un fs ex H H1 h h1){b:Addr}{ob:Obj}(q:h.get? b=some ob)(n:H b=none)(hx:b∉ex): ∃sl,h1.get? b=some {ob with slots:=sl}:=by
 by_cases hb:b∈fs
 ·exact u.slot b ob q n hb hx
 ·exact⟨ob.slots,u.keep b ob q n hb hx⟩
theorem Un.trans(a:Un fs ex H H1 h h1)(b:Un fs ex H1 H2 h1 h2):Un fs ex H H2 h h2 where
 keep:=λc ob q n hc hx=>b.keep c ob (a.keep c ob q n hc hx) (a.free c ob q n hx) hc hx
 slot:=λc ob q n hc hx=>by
  obtain⟨sl,e1⟩:=a.slot c ob q n hc hx
  obtain⟨sl',e2⟩:=b.slot c _ e1 (a.free c ob q n hx) hc hx
  exact⟨sl',e2⟩
 free:=λc ob q n hx=>by
  obtain⟨o',e1⟩:=a.there c ob q hx
  exact b.free c o' e1 (a.free c ob q n hx) hx
 there:=λc ob q hx=>by
  obtain⟨o',e1⟩:=a.there c ob q hx
  exact b.there c o' e1 hx
 tups:=λc xs q=>b.tups c xs (a.tups c xs q)
 frzs:=λc ob xs q=>b.frzs c ob xs (a.frzs c ob xs q)
 tbls:=λc ps q=>by
  obtain⟨m1,e1⟩:=a.tbls c ps q
  obtain⟨m2,e2⟩:=b.tbls c _ e1
  exact⟨m1++m2,by rw[e2,PK]⟩
theorem Un.kept(k: ∀b u,h.get? b=some u->h'.get? b=some u):Un fs ex H H h h':=
 ⟨λb ob q _ _ _=>k b ob q,λb ob q _ _ _=>⟨ob.slots,k b ob q⟩,λ_ _ _ n _=>n,λb ob q _=>⟨ob,k b ob q⟩,λ_ _ q=>q,λ_ _ _ q=>q,λ_ ps q=>⟨#[],by rw[q];simp⟩⟩
theorem Un.refl:Un fs ex H H h h:=Un.kept λ_ _ q=>q
theorem Un.laid(k: ∀b u,h.get? b=some u->h'.get? b=some u)(hp:h.objs.size<=a)(hn:H a=none):Un fs ex H (aI H a o) h h' where
 keep:=λb u q _ _ _=>k b u q
 slot:=λb u q _ _ _=>⟨u.slots,k b u q⟩
 free:=λb u q n _=>by rw[af (IV (IJ (Ix q) hp))];exact n
 there:=λb u q _=>⟨u,k b u q⟩
 tups:=λb xs q=>by rw[af (aQ q hn)];exact q
 frzs:=λb u xs q=>by rw[af (aQ q hn)];exact q
 tbls:=λb ps q=>⟨#[],by rw[af (aQ q hn),q];simp⟩
theorem Un.write(mu:BP (H x))(he:e=x\/H e=some (.own x))(k: ∀b u,b≠e->h.get? b=some u->h'.get? b=some u)(heo: ∃u,h'.get? e=some u):Un fs ex H (aI H x o) h h':=by
 have hx: ∀b,H b=none->b≠x:=λb n z=>by subst z;rw[n] at mu;exact mu
 have hb: ∀b,H b=none->b≠e:=λb n z=>by
  subst z;rcases he with r|r
  ·exact hx b n r
  ·rw[n] at r;cases r
 have hm: ∀b u,H b=some u-> ¬BP (some u)->b≠x:=λb u q nm z=>by subst z;rw[q] at mu;exact nm mu
 refine⟨λb u q n _ _=>k b u (hb b n) q,λb u q n _ _=>⟨u.slots,k b u (hb b n) q⟩,λb u q n _=>by rw[af (hx b n)];exact n,λb u q _=>?_,
  λb xs q=>by rw[af (hm b _ q λz=>z)];exact q,λb u xs q=>by rw[af (hm b _ q λz=>z)];exact q,λb ps q=>⟨#[],by rw[af (hm b _ q λz=>z),q];simp⟩⟩
 by_cases hbe:b=e
 ·subst hbe;exact heo
 ·exact⟨u,k b u hbe q⟩
end
def trk(h:Heap)(H:Hp):List Addr:=(Iz h.objs.size).filter λa=>(H a).isSome
def qb(h:Heap)(H:Hp):Heap:=W.hideAll h (trk h H)
theorem wC(h:Heap)(H:Hp):(qb h H).objs.size=h.objs.size:=W.hideAll_size _ _
theorem Ar {h:Heap}{H:Hp}{b:Addr}{o:Obj}(e:h.get? b=some o)(n:H b=none):(qb h H).get? b=some o:=
 W.hideAll_get _ e λhm=>by
  have q:(H b).isSome=true:=(JJ.mp hm).2
  rw[n] at q;simp at q
theorem Ce {h:Heap}{H:Hp}{b:Addr}{o:Obj}(e:(qb h H).get? b=some o):h.get? b=some o/\H b=none:=by
 have e':h.get? b=some o:=W.of_hideAll (trk h H) e
 refine⟨e',?_⟩
 cases q:H b with
 |none=>rfl
 |some x=>
  have hm:b∈trk h H:=JJ.mpr ⟨JB.mpr (Ix e'),by simp[q]⟩
  have z:(qb h H).get? b=none:=W.hideAll_none (trk h H) hm
  rw[z] at e;cases e
structure Mod(K:Il)(mg:Str->Option Ia)(base:Heap):Prop where
 kin:K.In base
 glob:base.Ns Js mg
 blt: ∃mb,base.Ns PL mb/\ ∀x:Str,x≠"__name__"->mb x=J5 x
 nolimit:base.NoLimit
structure Cx where
 prog:IP
 w:Jo
 K:Il
 mg:Str->Option Ia
 base:Heap
 A:Jc
 N:List Str
 s₀:Ic
 H₀:Hp
 env:Env
 outer:List Env
 stack:List Env
 ex:List Addr
 fn:Str->Bool
 calm:Bool
 pn:List (Addr×Obj)
 xe:Ia->Ic->Prop
def frs(l:List Env):List Addr:=l.filterMap (·.frame)
abbrev Cx.fs(X:Cx):List Addr:=frs X.outer
def jw(sc:KO)(x:Str):Prop:=sc.names.lookup x=some .local\/sc.names.lookup x=some .cell\/sc.names.lookup x=some .free
def rO(sc:KO)(x:Str):Prop:=sc.names.lookup x=some .local\/sc.names.lookup x=some .cell
def Gr(env:Env)(h:Heap)(m:Str->Option Ia)(x:Str)(u:Ia):Prop:=
 (env.kindOf x=some .local/\m x=some u)\/((env.kindOf x=some .cell\/env.kindOf x=some .free)/\ ∃c,env.cells.lookup x=some c/\h.IsCell c (some u))
structure Cx.Ok(X:Cx):Prop where
 mod:Mod X.K X.mg X.base
 kind:X.env.scope.kind=.function
 glob:X.env.globals=Js
 blt:X.env.builtins=PL
 above:X.s₀.heap.objs.size<=X.env.locals
 inj: ∀x y c,X.env.cells.lookup x=some c->X.env.cells.lookup y=some c->x=y
 has: ∀x,(X.env.kindOf x=some .cell\/X.env.kindOf x=some .free)-> ∃c,X.env.cells.lookup x=some c
 cab: ∀x c,X.fn x=true->X.env.cells.lookup x=some c->X.s₀.heap.objs.size<=c
 hd:X.calm=true->X.A.handled=none
 frames:X.A.frames=some X.stack
 stk:X.stack=X.outer\/(X.stack=X.env::X.outer/\X.env.frame=some X.env.locals)
 exf: ∀b∈X.ex,b≠X.env.locals/\ ∀x c,X.env.cells.lookup x=some c->c≠b
 bs: ∀b o,X.base.get? b=some o->X.s₀.heap.get? b=some o/\X.H₀ b=none
 bsz:X.base.objs.size<=X.s₀.heap.objs.size
 noex: ∀b o,X.base.get? b=some o->b∉X.ex
 exfs: ∀b∈X.ex,b∉X.fs
 funs:X.s₀.heap.FunFrames X.base X.outer
 frf: ∀b∈X.fs,X.H₀ b=none
structure Inv(X:Cx)(aa:List (Addr×Obj))(σ:List (Option V))(H:Hp)(s:Ic):Prop where
 ok:X.Ok
 os:s.os=X.s₀.os
 bare:Mv s.gens
 base:Un X.fs X.ex X.H₀ H X.s₀.heap s.heap
 loc: ∃m,s.heap.Ns X.env.locals m/\ ∀(i:Nat) (x:Str) (v:V),X.N[i]? =some x->σ[i]? =some (some v)->jw X.env.scope x-> ∃u,RelV v u/\Gr X.env s.heap m x u
 cell: ∀x c,X.env.cells.lookup x=some c-> ∃v,s.heap.IsCell c v
 free:H X.env.locals=none
 freeC: ∀x c,X.env.cells.lookup x=some c->H c=none
 pin: ∀p∈X.pn++aa,s.heap.get? p.1=some p.2/\H p.1=none/\p.1≠X.env.locals/\p.1∉X.fs/\ ∀v,p.2.data≠ .cell v
 hok:HOk X.prog X.w H s.heap
 len:σ.length=X.N.length
section
variable {X:Cx}{aa:List (Addr×Obj)}{σ:List (Option V)}{H H':Hp}{s:Ic}{h':Heap}
theorem Cx.Ok.nofr(ok:X.Ok){b:Addr}{o:Obj}(e:X.base.get? b=some o):b∉X.fs:=λhb=>by
 have:=(ok.funs.mem hb).1
 rw[e] at this;cases this
theorem Inv.bs(I:Inv X aa σ H s): ∀b o,X.base.get? b=some o->s.heap.get? b=some o/\H b=none:=λb o e=>
 ⟨I.base.keep b o (I.ok.bs b o e).1 (I.ok.bs b o e).2 (I.ok.nofr e) (I.ok.noex b o e),I.base.free b o (I.ok.bs b o e).1 (I.ok.bs b o e).2 (I.ok.noex b o e)⟩
theorem Inv.bk(I:Inv X aa σ H s): ∀b o,X.base.get? b=some o->s.heap.get? b=some o:=λb o e=>(I.bs b o e).1
theorem Inv.mod(I:Inv X aa σ H s):Mod X.K X.mg X.base:=I.ok.mod
theorem Inv.kIn(I:Inv X aa σ H s):X.K.In s.heap:=I.ok.mod.kin.keeps I.bk
theorem Inv.fr(I:Inv X aa σ H s): ∃m,Fr X.base X.env.locals s.heap m:=
 let⟨m,hn,_⟩:=I.loc
 ⟨m,hn,I.bk,Jk I.ok.bsz I.ok.above⟩
theorem Inv.lt(I:Inv X aa σ H s):X.env.locals<s.heap.objs.size:=let⟨_,hn,_⟩:=I.loc;hn.lt
theorem Inv.sz(I:Inv X aa σ H s):X.s₀.heap.objs.size<=s.heap.objs.size:=Jk I.ok.above (Le I.lt)
theorem Inv.nofs(I:Inv X aa σ H s){a:Addr}(h:s.heap.objs.size<=a):a∉X.fs:=λhb=>by
 obtain⟨_,o,ho,_⟩:=I.ok.funs.mem hb
 exact absurd (IJ (Ix ho) (Jk I.sz h)) (Ku _)
theorem Inv.cne(I:Inv X aa σ H s): ∀x c,X.env.cells.lookup x=some c->c≠X.env.locals:=λx c e z=>by
 obtain⟨v,o,ho,hd⟩:=I.cell x c e
 obtain⟨m,⟨o',es,ep,ho',hd',_⟩,_⟩:=I.loc
 rw[z,ho'] at ho;cases ho;rw[hd'] at hd;cases hd
theorem Inv.funs(I:Inv X aa σ H s):s.heap.FunFrames X.base X.outer:=by
 have all: ∀(l:List Env),(∀b∈frs l,b∈X.fs)->X.s₀.heap.FunFrames X.base l->s.heap.FunFrames X.base l:=by
  intro l
  induction l with
  |nil=>intro _ _;trivial
  |cons env r ih=>
   intro hs hl;obtain⟨hk,⟨L,o,hf,hn,ho,hd⟩,hr⟩:=hl
   have hL:L∈X.fs:=hs L (by unfold frs;rw[Nf,hf];exact Is)
   obtain⟨sl,e⟩:=I.base.slot L o ho (I.ok.frf L hL) hL λz=>I.ok.exfs L z hL
   exact⟨hk,⟨L,_,hf,hn,e,hd⟩,ih (λb hb=>hs b (by unfold frs;rw[Nf,hf];exact Ii _ hb)) hr⟩
 exact all X.outer (λ_ hb=>hb) I.ok.funs
theorem Inv.stack(I:Inv X aa σ H s):s.heap.FunFrames X.base X.stack:=by
 rcases I.ok.stk with e|⟨e,hf⟩
 ·rw[e];exact I.funs
 ·rw[e]
  obtain⟨m,hn,_⟩:=I.loc
  refine .cons (by rw[I.ok.kind];decide) hf hn ?_ I.funs
  exact Heap.get?_none_of_le (Jk I.ok.bsz I.ok.above)
theorem Inv.stkSub(I:Inv X aa σ H s): ∀b∈frs X.stack,b∈X.env.locals::X.fs:=λb hb=>by
 rcases I.ok.stk with e|⟨e,hf⟩
 ·rw[e] at hb;exact Ii _ hb
 ·rw[e] at hb
  unfold frs at hb;rw[Nf,hf] at hb;exact hb
theorem Inv.stkFree(I:Inv X aa σ H s): ∀b∈frs X.stack,H b=none:=λb hb=>by
 rcases IC.mp (I.stkSub b hb) with e|hb
 ·rw[e];exact I.free
 ·obtain⟨_,o,ho,_⟩:=I.ok.funs.mem hb
  exact I.base.free b o ho (I.ok.frf b hb) λz=>I.ok.exfs b z hb
theorem Inv.step {g':Array GenState}{t':Nat}{d':Drawn}{ch:List Addr}(I:Inv X aa σ H s)
 (hch: ∀b∈ch,(b∈X.ex\/X.s₀.heap.objs.size<=b)/\b≠X.env.locals/\(∀x c,X.env.cells.lookup x=some c->c≠b)/\ ∀p∈X.pn++aa,p.1≠b)
 (keep: ∀b o,b≠X.env.locals->b∉X.fs->b∉ch->s.heap.get? b=some o->H b=none->h'.get? b=some o)
 (slot: ∀b o,b≠X.env.locals->b∈X.fs->b∉ch->s.heap.get? b=some o->H b=none-> ∃sl,h'.get? b=some {o with slots:=sl}) (free: ∀b o,b∉ch->s.heap.get? b=some o->H b=none->H' b=none)
 (there: ∀b o,b∉ch->s.heap.get? b=some o-> ∃o',h'.get? b=some o')
 (tups: ∀b xs,H b=some (.tup xs)->H' b=some (.tup xs)) (frzs: ∀b o u,H b=some (.frz o u)->H' b=some (.frz o u)) (tbls: ∀b ps,H b=some (.tbl ps)-> ∃more,H' b=some (.tbl (ps++more)))
 (ns: ∀m,s.heap.Ns X.env.locals m->h'.Ns X.env.locals m) (hok:HOk X.prog X.w H' h') (hg:Mv g'):
 Inv X aa σ H' {s with heap:=h',gens:=g',drawn:=d',toks:=t'}:=by
 have neL: ∀b o,X.s₀.heap.get? b=some o->b≠X.env.locals:=λb o e=>IV (IJ (Ix e) I.ok.above)
 have neC: ∀b o,X.s₀.heap.get? b=some o->b∉X.ex->b∉ch:=λb o e hx hb=>by
  rcases(hch b hb).1 with z|z
  ·exact hx z
  ·exact absurd (IJ (Ix e) z) (Ku _)
 have cellK: ∀x c,X.env.cells.lookup x=some c-> ∀v,s.heap.IsCell c v->h'.IsCell c v:=λx c e v hq_=>by
  obtain⟨o,ho,hd⟩:=hq_
  have nch:c∉ch:=λz=>(hch c z).2.2.1 x c e rfl
  by_cases hc:c∈X.fs
  ·obtain⟨sl,q⟩:=slot c o (I.cne x c e) hc nch ho (I.freeC x c e)
   exact⟨_,q,hd⟩
  ·exact⟨o,keep c o (I.cne x c e) hc nch ho (I.freeC x c e),hd⟩
 refine⟨I.ok,I.os,hg,⟨λb o e n hb hx=>?_,λb o e n hb hx=>?_,λb o e n hx=>?_,λb o e hx=>?_,λb xs e=>tups b xs (I.base.tups b xs e),λb o xs e=>frzs b o xs (I.base.frzs b o xs e),λb ps e=>?_⟩,?_,λx c e=>?_,?_,λx c e=>?_,λp hp=>?_,hok,I.len⟩
 ·exact keep b o (neL b o e) hb (neC b o e hx) (I.base.keep b o e n hb hx) (I.base.free b o e n hx)
 ·obtain⟨sl,e1⟩:=I.base.slot b o e n hb hx
  obtain⟨sl',e2⟩:=slot b _ (neL b o e) hb (neC b o e hx) e1 (I.base.free b o e n hx)
  exact⟨sl',e2⟩
 ·obtain⟨o',e1⟩:=I.base.there b o e hx
  exact free b o' (neC b o e hx) e1 (I.base.free b o e n hx)
 ·obtain⟨o',e1⟩:=I.base.there b o e hx
  exact there b o' (neC b o e hx) e1
 ·obtain⟨m1,e1⟩:=I.base.tbls b ps e
  obtain⟨m2,e2⟩:=tbls b _ e1
  exact⟨m1++m2,by rw[e2,PK]⟩
 ·obtain⟨m,hn,hl⟩:=I.loc
  refine⟨m,ns m hn,λi x v e1 e2 e3=>?_⟩
  obtain⟨u,r,l⟩:=hl i x v e1 e2 e3
  refine⟨u,r,?_⟩
  rcases l with l|⟨k,c,e,z⟩
  ·exact .inl l
  ·exact .inr ⟨k,c,e,cellK x c e _ z⟩
 ·obtain⟨v,z⟩:=I.cell x c e
  exact⟨v,cellK x c e v z⟩
 ·obtain⟨m,⟨o,_,_,ho,_⟩,_⟩:=I.loc
  exact free _ o (λz=>(hch _ z).2.1 rfl) ho I.free
 ·obtain⟨v,o,ho,hd⟩:=I.cell x c e
  exact free c o (λz=>(hch c z).2.2.1 x c e rfl) ho (I.freeC x c e)
 ·obtain⟨e,n,ne,nf,d⟩:=I.pin p hp
  have nch:p.1∉ch:=λz=>(hch p.1 z).2.2.2 p hp rfl
  exact⟨keep p.1 p.2 ne nf nch e n,free p.1 p.2 nch e n,ne,nf,d⟩
theorem Inv.un {t':Nat}(I:Inv X aa σ H s)(u:Un X.fs [] H H' s.heap h')(hok:HOk X.prog X.w H' h'):Inv X aa σ H' {s with heap:=h',toks:=t'}:=by
 obtain⟨m,⟨o,es,ep,ho,r⟩,_⟩:=id I.loc
 obtain⟨sl,hL⟩:=u.any ho I.free (by simp)
 exact I.step (g':=s.gens) (d':=s.drawn) (ch:=[]) (λ_ z=>nomatch z) (λb o _ hb _ e n=>u.keep b o e n hb (by simp)) (λb o _ hb _ e n=>u.slot b o e n hb (by simp)) (λb o _ e n=>u.free b o e n (by simp)) (λb o _ e=>u.there b o e (by simp)) u.tups u.frzs u.tbls (λm' hm=>by
  obtain⟨o',es',ep',ho',r'⟩:=hm
  rw[ho] at ho';cases ho';exact⟨_,es',ep',hL,r'⟩) hok I.bare
theorem Inv.call {g':Array GenState}{t':Nat}{d':Drawn}{ch:List Addr}(I:Inv X aa σ H s)(u:Un (frs X.stack) ch H H' s.heap h')(hok:HOk X.prog X.w H' h')(hg:Mv g')
 (hch: ∀b∈ch,(b∈X.ex\/X.s₀.heap.objs.size<=b)/\b≠X.env.locals/\(∀x c,X.env.cells.lookup x=some c->c≠b)/\ ∀p∈X.pn++aa,p.1≠b):
 Inv X aa σ H' {s with heap:=h',gens:=g',drawn:=d',toks:=t'}:=by
 obtain⟨m,⟨o,es,ep,ho,r⟩,_⟩:=id I.loc
 obtain⟨sl,hL⟩:=u.any ho I.free λz=>(hch _ z).2.1 rfl
 exact I.step (ch:=ch) hch (λb o hL hb hc e n=>u.keep b o e n (λz=>(IC.mp (I.stkSub b z)).elim hL hb) hc) (λb o _ _ hc e n=>u.any e n hc) (λb o hc e n=>u.free b o e n hc) (λb o hc e=>u.there b o e hc) u.tups u.frzs u.tbls (λm' hm=>by
  obtain⟨o',es',ep',ho',r'⟩:=hm
  rw[ho] at ho';cases ho';exact⟨_,es',ep',hL,r'⟩) hok hg
theorem Inv.turned {t':Nat}{it:Addr}(I:Inv X aa σ H s)(k: ∀b o,b≠it->s.heap.get? b=some o->h'.get? b=some o)(hn:H it=none)(hL:it≠X.env.locals)
 (h1:it∈X.ex\/X.s₀.heap.objs.size<=it) (h2: ∀x c,X.env.cells.lookup x=some c->c≠it) (h3: ∀p∈X.pn++aa,p.1≠it):Inv X aa σ H {s with heap:=h',toks:=t'}:=by
 have nit: ∀b u,H b=some u->b≠it:=λb u e z=>by rw[z,hn] at e;cases e
 refine I.step (g':=s.gens) (d':=s.drawn) (ch:=[it]) (λb hb=>?_) (λb o _ _ hc e _=>k b o (λz=>hc (by simp[z])) e) (λb o _ _ hc e _=>⟨o.slots,k b o (λz=>hc (by simp[z])) e⟩) (λ_ _ _ _ n=>n)
  (λb o hc e=>⟨o,k b o (λz=>hc (by simp[z])) e⟩) (λ_ _ e=>e) (λ_ _ _ e=>e) (λb ps e=>⟨#[],by rw[e];simp⟩) (λm hm=>?_) (λb u e=>?_) I.bare
 ·have e:b=it:=by simpa using hb
  subst e;exact⟨h1,hL,h2,h3⟩
 ·obtain⟨o,es,ep,ho,r⟩:=hm
  exact⟨o,es,ep,k _ o (IT hL) ho,r⟩
 ·refine(I.hok b u e).stay (λc v hc q=>k c v ?_ q) (λ_ q=>q) λ_ _ q=>q
  rcases hc with z|z
  ·rw[z];exact nit b u e
  ·exact nit c _ z
theorem Inv.tok(I:Inv X aa σ H s)(t:Nat):Inv X aa σ H {s with toks:=t}:=I.un (h':=s.heap) (t':=t) Un.refl I.hok
theorem Inv.kept {t':Nat}(I:Inv X aa σ H s)(k: ∀b u,s.heap.get? b=some u->h'.get? b=some u):Inv X aa σ H {s with heap:=h',toks:=t'}:=I.un (Un.kept k) (I.hok.kept k)
theorem Inv.laid {a:Addr}{o:HO}{t':Nat}(I:Inv X aa σ H s)(k: ∀b u,s.heap.get? b=some u->h'.get? b=some u)(hp:s.heap.objs.size<=a)(new:ObjOk X.prog X.w (aI H a o) h' a o):
 Inv X aa σ (aI H a o) {s with heap:=h',toks:=t'}:=I.un (Un.laid k hp (I.hok.fresh hp)) (I.hok.laid k hp new)
theorem Inv.write {x e:Addr}{o:HO}{t':Nat}(I:Inv X aa σ H s)(mu:BP (H x))(he:e=x\/H e=some (.own x))(k: ∀b u,b≠e->s.heap.get? b=some u->h'.get? b=some u)(heo: ∃u,h'.get? e=some u)
 (new:ObjOk X.prog X.w (aI H x o) h' x o):Inv X aa σ (aI H x o) {s with heap:=h',toks:=t'}:=I.un (Un.write mu he k heo) (I.hok.write mu he k heo new)
theorem Inv.pins_of {pins':List (Addr×Obj)}(I:Inv X aa σ H s)(h: ∀p∈pins',s.heap.get? p.1=some p.2/\H p.1=none/\p.1≠X.env.locals/\p.1∉X.fs/\ ∀v,p.2.data≠ .cell v):Inv X pins' σ H s:=
 ⟨I.ok,I.os,I.bare,I.base,I.loc,I.cell,I.free,I.freeC,λp hp=>(IM.mp hp).elim (λz=>I.pin p (Ja _ z)) (h p),I.hok,I.len⟩
theorem qK {N:List Str}(hN:N.Nodup){i j:Nat}{x:Str}(a:N[i]? =some x)(b:N[j]? =some x):i=j:=by
 obtain⟨h1,e1⟩:=IA.mp a
 obtain⟨h2,e2⟩:=IA.mp b
 exact(List.getElem_inj hN).mp (e1.trans e2.symm)
theorem kC {M:WN}{A:Jc}{E:Ia->Ic->Prop}{i:Nat}{x:Str}{v:V}{u:Ia}{Q:Unit->Ic->Prop}(I:Inv X aa σ H s)(hN:X.N.Nodup)(hi:X.N[i]? =some x)(hx:rO X.env.scope x)(r:RelV v u)
 (h: ∀s',Inv X aa (σ.set i (some v)) H s'->(∃a,J9 a s.heap s'.heap/\(a=X.env.locals\/X.env.cells.lookup x=some a))->Q () s') (hf:X.fn x=true\/X.env.scope.names.lookup x=some .local:=by first|exact .inl rfl|exact .inr rfl|assumption):II M A (storeName X.env x u) Q E s:=by
 obtain⟨m,hn,hl⟩:=id I.loc
 have hcls:(X.env.scope.kind== .class||(X.env.scope.kind== .module&&X.env.locals !=X.env.globals))=false:=by rw[I.ok.kind];rfl
 have hiσ:i<σ.length:=by rw[I.len];exact(IA.mp hi).1
 have cne:=I.cne
 have tracked: ∀ {a:Addr} {h':Heap},(∃o,s.heap.get? a=some o/\H a=none)->J9 a s.heap h'->HOk X.prog X.w H h':=λ{a h'} ha hs b ob e=>by
  obtain⟨_,_,hfree⟩:=ha
  refine(I.hok b ob e).stay (λc w' hc q=>(hs.2 c ?_).trans q) (λ_ q=>q) λ_ _ q=>q
  rintro rfl
  rcases hc with rfl|hc
  ·rw[hfree] at e;cases e
  ·rw[hfree] at hc;cases hc
 rcases hx with hk|hk
 ·refine wpAny_storeName_local hk hn (λh' hn' hs=>?_) hcls
  obtain⟨oL,_,_,hoL,_⟩:=id hn
  refine h _ ⟨I.ok,I.os,I.bare,⟨λb o e n hb hx=>?_,λb o e n hb hx=>?_,I.base.free,λb o e hx=>?_,I.base.tups,I.base.frzs,I.base.tbls⟩,⟨_,hn',λj y v' e1 e2 e3=>?_⟩,λy c e=>?_,I.free,I.freeC,λp hp=>?_,tracked ⟨oL,hoL,I.free⟩ hs,by simpa using I.len⟩ ⟨_,hs,.inl rfl⟩
  ·exact(hs.2 b (IV (IJ (Ix e) I.ok.above))).trans (I.base.keep b o e n hb hx)
  ·obtain⟨sl,e1⟩:=I.base.slot b o e n hb hx
   exact⟨sl,(hs.2 b (IV (IJ (Ix e) I.ok.above))).trans e1⟩
  ·obtain⟨o',e1⟩:=I.base.there b o e hx
   exact⟨o',(hs.2 b (IV (IJ (Ix e) I.ok.above))).trans e1⟩
  ·by_cases hj:j=i
   ·subst hj
    rw[hi] at e1;cases e1;rw[ID hiσ] at e2;cases e2
    exact⟨u,r,.inl ⟨hk,by simp⟩⟩
   ·rw[Iv (IT hj)] at e2
    obtain⟨u',r',q⟩:=hl j y v' e1 e2 e3
    refine⟨u',r',?_⟩
    rcases q with⟨k,e⟩|⟨k,c,e,z⟩
    ·refine .inl ⟨k,?_⟩
     have:y≠x:=λe=>hj (qK hN e1 (e▸hi))
     simp[this,e]
    ·exact .inr ⟨k,c,e,z.sameBut hs (cne y c e)⟩
  ·obtain⟨w',z⟩:=I.cell y c e
   exact⟨w',z.sameBut hs (cne y c e)⟩
  ·obtain⟨e,n,ne,nf,d⟩:=I.pin p hp
   exact⟨(hs.2 p.1 ne).trans e,n,ne,nf,d⟩
 ·have hfn:X.fn x=true:=by
   rcases hf with z|z
   ·exact z
   ·rw[z] at hk;cases hk
  obtain⟨c,hc⟩:=I.ok.has x (.inl hk)
  obtain⟨w',z⟩:=I.cell x c hc
  refine wpAny_storeName_cell I.ok.kind hk hc z (λh' hc' hs=>?_)
  obtain⟨oc,hoc,hocd⟩:=id z
  refine h {s with heap:=h'} ⟨I.ok,I.os,I.bare,⟨λb o e n hb hx=>?_,λb o e n hb hx=>?_,I.base.free,λb o e hx=>?_,I.base.tups,I.base.frzs,I.base.tbls⟩,⟨m,hn.sameBut hs (IT (cne x c hc)),λj y v' e1 e2 e3=>?_⟩,λy c' e=>?_,I.free,I.freeC,λp hp=>?_,tracked ⟨oc,hoc,I.freeC x c hc⟩ hs,by simpa using I.len⟩ ⟨c,hs,.inr hc⟩
  ·exact(hs.2 b (IV (IJ (Ix e) (I.ok.cab x c hfn hc)))).trans (I.base.keep b o e n hb hx)
  ·obtain⟨sl,e1⟩:=I.base.slot b o e n hb hx
   exact⟨sl,(hs.2 b (IV (IJ (Ix e) (I.ok.cab x c hfn hc)))).trans e1⟩
  ·obtain⟨o',e1⟩:=I.base.there b o e hx
   exact⟨o',(hs.2 b (IV (IJ (Ix e) (I.ok.cab x c hfn hc)))).trans e1⟩
  ·by_cases hj:j=i
   ·subst hj
    rw[hi] at e1;cases e1;rw[ID hiσ] at e2;cases e2
    exact⟨u,r,.inr ⟨.inl hk,c,hc,hc'⟩⟩
   ·rw[Iv (IT hj)] at e2
    obtain⟨u',r',q⟩:=hl j y v' e1 e2 e3
    refine⟨u',r',?_⟩
    rcases q with q|⟨k,c',e,z'⟩
    ·exact .inl q
    ·refine .inr ⟨k,c',e,z'.sameBut hs ?_⟩
     rintro rfl
     exact hj (qK hN e1 (I.ok.inj _ _ _ e hc▸hi))
  ·by_cases hcc:c'=c
   ·subst hcc;exact⟨_,hc'⟩
   ·obtain⟨w2,z2⟩:=I.cell y c' e
    exact⟨w2,z2.sameBut hs hcc⟩
  ·obtain⟨e,n,ne,nf,d⟩:=I.pin p hp
   refine⟨(hs.2 p.1 ?_).trans e,n,ne,nf,d⟩
   intro q;rw[q,hoc] at e;have q':oc=p.2:=Je e
   exact d w' (by rw[<-q'];exact hocd)
theorem qO {M:WN}{A:Jc}{E:Ia->Ic->Prop}{i:Nat}{x:Str}{v:V}{u:Ia}{Q:Unit->Ic->Prop}(I:Inv X aa σ H s)(hN:X.N.Nodup)(hi:X.N[i]? =some x)(hx:rO X.env.scope x)(r:RelV v u)
 (h: ∀s',Inv X aa (σ.set i (some v)) H s'->Q () s') (hf:X.fn x=true\/X.env.scope.names.lookup x=some .local:=by first|exact .inl rfl|exact .inr rfl|assumption):II M A (storeName X.env x u) Q E s:=
 kC I hN hi hx r (λs' I' _=>h s' I') hf
theorem Inv.call' {s':Ic}{ch:List Addr}(I:Inv X aa σ H s)(ho:s'.os=s.os)(u:Un (frs X.stack) ch H H' s.heap s'.heap)(hok:HOk X.prog X.w H' s'.heap)(hg:Mv s'.gens)
 (hch: ∀b∈ch,(b∈X.ex\/X.s₀.heap.objs.size<=b)/\b≠X.env.locals/\(∀x c,X.env.cells.lookup x=some c->c≠b)/\ ∀p∈X.pn++aa,p.1≠b):Inv X aa σ H' s':=by
 obtain⟨h',g',d',t',o'⟩:=s'
 have e:o'=s.os:=ho
 subst e;exact I.call (g':=g') (t':=t') (d':=d') u hok hg hch
end
abbrev XK:=Ia->Option Addr->Hp->Prop
abbrev St:=List (Option V)
abbrev VK:=V->Hp->Prop
abbrev TE:=St->Hp->VK->Prop
abbrev TT:=St->Hp->(Bool->Hp->Prop)->Prop
abbrev TA:=St->Hp->(List V->Hp->Prop)->Prop
structure Ends where
 nx:St->Hp->Prop
 rt:VK
 bk:St->Hp->Prop:=λ_ _=>False
 ct:St->Hp->Prop:=λ_ _=>False
abbrev TS:=Ends->St->Hp->Prop
def EP(X:Cx)(aa:List (Addr×Obj))(σ:St)(Q:VK)(u:Ia)(s':Ic):Prop:= ∃v H',Inv X aa σ H' s'/\RelV v u/\Q v H'
def TP(X:Cx)(aa:List (Addr×Obj))(σ:St)(Q:Bool->Hp->Prop)(b:Bool)(s':Ic):Prop:= ∃H',Inv X aa σ H' s'/\Q b H'
def AP(X:Cx)(aa:List (Addr×Obj))(σ:St)(Q:List V->Hp->Prop)(us:List Ia)(s':Ic):Prop:= ∃vs H',Inv X aa σ H' s'/\Vals vs us/\Q vs H'
def SP(X:Cx)(aa:List (Addr×Obj))(D:Ends)(f:Flow)(s':Ic):Prop:=
 match f with
 | .next=> ∃σ' H',Inv X aa σ' H' s'/\D.nx σ' H'
 | .brk=> ∃σ' H',Inv X aa σ' H' s'/\D.bk σ' H'
 | .cont=> ∃σ' H',Inv X aa σ' H' s'/\D.ct σ' H'
 | .ret u=> ∃v σ' H',Inv X aa σ' H' s'/\RelV v u/\D.rt v H'
def PE(X:Cx)(e:Expr)(t:TE):Prop:=
 ∀(aa:List (Addr×Obj)) (s:Ic) (σ:St) (H:Hp) (Q:VK),Inv X aa σ H s->t σ H Q->II (model X.prog X.w) X.A (eval e X.env) (EP X aa σ Q) X.xe s
def PT(X:Cx)(e:Expr)(t:TT):Prop:=
 ∀(aa:List (Addr×Obj)) (s:Ic) (σ:St) (H:Hp) (Q:Bool->Hp->Prop),Inv X aa σ H s->t σ H Q->II (model X.prog X.w) X.A (isTrue e X.env (eval e X.env)) (TP X aa σ Q) X.xe s
def PW(X:Cx)(e:Expr)(t:TT):Prop:=
 ∀(whole:Sem Ia) (aa:List (Addr×Obj)) (s:Ic) (σ:St) (H:Hp) (Q:Bool->Hp->Prop),Inv X aa σ H s->t σ H Q->II (model X.prog X.w) X.A (isTrue e X.env whole) (TP X aa σ Q) X.xe s
theorem PW.pt {X:Cx}{e:Expr}{t:TT}(h:PW X e t):PT X e t:=h _
def PA(X:Cx)(es:List Expr)(t:TA):Prop:=
 ∀(pos:Pos) (aa:List (Addr×Obj)) (s:Ic) (σ:St) (H:Hp) (Q:List V->Hp->Prop),Inv X aa σ H s->t σ H Q->II (model X.prog X.w) X.A (spliced (Ko pos (Iu es X.env))) (AP X aa σ Q) X.xe s
def PS(X:Cx)(st:Stmt)(t:TS):Prop:=
 ∀(aa:List (Addr×Obj)) (s:Ic) (σ:St) (H:Hp) (D:Ends),Inv X aa σ H s->t D σ H->II (model X.prog X.w) X.A (exec st X.env) (SP X aa D) X.xe s
def PSs(X:Cx)(st:List Stmt)(t:TS):Prop:=
 ∀(aa:List (Addr×Obj)) (s:Ic) (σ:St) (H:Hp) (D:Ends),Inv X aa σ H s->t D σ H->II (model X.prog X.w) X.A (execs st X.env) (SP X aa D) X.xe s
theorem bm {α:Type}{t:Sem α}{Q Q':α->Ic->Prop}{M:WN}{A:Jc}{E:Ia->Ic->Prop}{s:Ic}(h:II M A t Q E s)(hQ: ∀a s,Q a s->Q' a s):II M A t Q' E s:=Ji h hQ λ_ _ x=>x
section
variable {X:Cx}
def zN(i:Nat):TE:=λσ H Q=> ∃v,σ[i]? =some (some v)/\Q v H
def tC(v:V):TE:=λ_ H Q=>Q v H
theorem Ep {i:Nat}{x:Str}{pos:Pos}(hN:X.N[i]? =some x)(hv:jw X.env.scope x)(hd:(x==("__debug__":Str))=false:=by decide)(hcd:(x==("__classdict__":Str))=false:=by decide):PE X (.Name x pos) (zN i):=by
 intro aa s σ H Q I h;obtain⟨v,e,h⟩:=h
 obtain⟨m,hn,hl⟩:=I.loc
 obtain⟨u,r,l⟩:=hl i x v hN e hv
 have fin:EP X aa σ Q u s:=⟨v,H,I,r,h⟩
 rcases l with⟨hk,hm⟩|⟨hk,c,hc,hcell⟩
 ·exact Rf (wpAny_loadName_local I.ok.kind hk hn hm fin) hd
 ·rcases hk with hk|hk
  ·exact Rf (wpAny_loadName_cell I.ok.kind hk hc hcell fin) hd
  ·exact Rf (wpAny_loadName_free I.ok.kind hk hc hcell fin hcd) hd
theorem ux {i j pos}:PE X (.Constant (.int i) j pos) (tC (.int i)):=λ_ _ _ H _ I h=>wpAny_Constant_int ⟨.int i,H,I.tok _,⟨_,rfl⟩,h⟩
theorem Fa {b j pos}:PE X (.Constant (.bool b) j pos) (tC (.bl b)):=λ_ _ _ H _ I h=>Constant_bool ⟨.bl b,H,I,rfl,h⟩
def Gl(X:Cx)(x:Str):Prop:=X.env.kindOf x=some .globalImplicit
theorem B0 {E:Ia->Ic->Prop}{aa:List (Addr×Obj)}{s:Ic}{σ:St}{H:Hp}{x:Str}{u:Ia}{pos:Pos}{Q:Ia->Ic->Prop}(I:Inv X aa σ H s)(hg:Gl X x)(hm:X.mg x=some u)(h:Q u s)
 (hd:(x==("__debug__":Str))=false:=by decide):II (model X.prog X.w) X.A (eval (.Name x pos) X.env) Q E s:=
 Nl I.ok.kind hg (Calls.loadGlobal_global (by rw[I.ok.glob];exact I.mod.glob.keeps I.bk) hm h) hd
theorem jo {E:Ia->Ic->Prop}{aa:List (Addr×Obj)}{s:Ic}{σ:St}{H:Hp}{x:Str}{u:Ia}{pos:Pos}{Q:Ia->Ic->Prop}(I:Inv X aa σ H s)(hg:Gl X x)(hm:X.mg x=none)(hv:J5 x=some u)(h:Q u s)
 (hn:x≠"__name__":=by decide) (hd:(x==("__debug__":Str))=false:=by decide):II (model X.prog X.w) X.A (eval (.Name x pos) X.env) Q E s:=by
 obtain⟨mb,h1,h2⟩:=I.mod.blt
 exact Nl I.ok.kind hg (Calls.loadGlobal_builtin (by rw[I.ok.glob];exact I.mod.glob.keeps I.bk) hm (by rw[I.ok.blt];exact h1.keeps I.bk) ((h2 x hn).trans hv) h) hd
theorem BZ {x:Str}{v:V}{u:Ia}{pos:Pos}(hg:Gl X x)(hm:X.mg x=none)(hv:J5 x=some u)(r:RelV v u)(hn:x≠"__name__":=by decide)(hd:(x==("__debug__":Str))=false:=by decide):PE X (.Name x pos) (tC v):=
 λ_ _ _ H _ I h=>jo I hg hm hv ⟨v,H,I,r,h⟩ hn hd
variable {a b:Expr}{ta tb:TE}{pos:Pos}
variable {tA tB':TT}{rest:List Expr}
def Gs(t u:TT):TT:=λσ H Q=>t σ H λc H1=>if c=true then u σ H1 Q else Q false H1
def HJ(t u:TT):TT:=λσ H Q=>t σ H λc H1=>if c=true then Q true H1 else u σ H1 Q
def G3(t:TT):TT:=λσ H Q=>t σ H λc H1=>Q (!c) H1
theorem pw_and1(ha:PT X a tA):PW X (.BoolOp .And [a] pos) tA:=by
 intro wh aa s σ H Q I h;refine isTrue_and (bm (ha aa s σ H Q I h) λc s1 e=>?_)
 cases c with
 |true=>exact isTrue_and_nil e
 |false=>exact e
theorem pw_or1(ha:PT X a tA):PW X (.BoolOp .Or [a] pos) tA:=by
 intro wh aa s σ H Q I h;refine isTrue_or (bm (ha aa s σ H Q I h) λc s1 e=>?_)
 cases c with
 |false=>exact isTrue_or_nil e
 |true=>exact e
theorem pw_and(ha:PT X a tA)(hb:PW X (.BoolOp .And (b::rest) pos) tB'):PW X (.BoolOp .And (a::b::rest) pos) (Gs tA tB'):=by
 intro wh aa s σ H Q I h;refine isTrue_and (bm (ha aa s σ H _ I h) λc s1 hq_=>?_)
 obtain⟨H1,I1,q1⟩:=hq_
 cases c with
 |true=>exact hb wh aa s1 σ H1 Q I1 q1
 |false=>exact⟨H1,I1,q1⟩
theorem pw_or(ha:PT X a tA)(hb:PW X (.BoolOp .Or (b::rest) pos) tB'):PW X (.BoolOp .Or (a::b::rest) pos) (HJ tA tB'):=by
 intro wh aa s σ H Q I h;refine isTrue_or (bm (ha aa s σ H _ I h) λc s1 hq_=>?_)
 obtain⟨H1,I1,q1⟩:=hq_
 cases c with
 |true=>exact⟨H1,I1,q1⟩
 |false=>exact hb wh aa s1 σ H1 Q I1 q1
theorem Dw(ha:PT X a tA):PT X (.UnaryOp .Not a pos) (G3 tA):=by
 intro aa s σ H Q I h;exact isTrue_not (ha aa s σ H (λc H1=>Q (!c) H1) I h)
def Fq(ta tb:TE):TE:=λσ H Q=>ta σ H λx H1=> ∃c,x=.bl c/\if c=true then tb σ H1 Q else Q (.bl false) H1
def EV(ta:TE):TE:=λσ H Q=>ta σ H λx H1=> ∃c,x=.bl c/\Q (.bl (!c)) H1
theorem Ed {op}{t:TE}(h:PE X a t):PE X (.BoolOp op [a] pos) t:=λaa s σ H Q I hw=>BoolOp_one (h aa s σ H Q I hw)
theorem CQ(ha:PE X a ta)(hb:PE X (.BoolOp .And (b::rest) pos) tb):PE X (.BoolOp .And (a::b::rest) pos) (Fq ta tb):=by
 intro aa s σ H Q I h;refine BoolOp_and (bm (ha aa s σ H _ I h) λv s1 hq_=>?_)
 obtain⟨x,H1,I1,r1,q1⟩:=hq_
 obtain⟨c,rfl,q1⟩:=q1
 cases r1
 refine LQ ?_
 cases c with
 |true=>exact hb aa s1 σ H1 Q I1 q1
 |false=>exact⟨.bl false,H1,I1,rfl,q1⟩
theorem DY(ha:PE X a ta):PE X (.UnaryOp .Not a pos) (EV ta):=by
 intro aa s σ H Q I h;refine UnaryOp_ (bm (ha aa s σ H _ I h) λv s1 hq_=>?_)
 obtain⟨x,H1,I1,r1,q1⟩:=hq_
 obtain⟨c,rfl,q1⟩:=q1
 cases r1
 exact not_of (LQ ⟨.bl (!c),H1,I1,rfl,q1⟩)
def HX(t:TT)(ta tb:TE):TE:=λσ H Q=>t σ H λc H1=>if c=true then ta σ H1 Q else tb σ H1 Q
theorem Aq {c:Expr}(hc:PT X c tA)(ha:PE X a ta)(hb:PE X b tb):PE X (.IfExp c a b pos) (HX tA ta tb):=by
 intro aa s σ H Q I h;refine wpAny_IfExp (bm (hc aa s σ H _ I h) λd s1 hq_=>?_)
 obtain⟨H1,I1,q1⟩:=hq_
 cases d with
 |true=>exact ha aa s1 σ H1 Q I1 q1
 |false=>exact hb aa s1 σ H1 Q I1 q1
end
def SqL(K:Il)(H:Hp)(a:Addr)(xs:List V):Prop:=
 Rd H a (.lst xs)\/
  ∃(o:Obj) (its:Array Ia) (n:Nat),K.lookup a=some o/\o.cls=.type "list"/\o.dict=none/\o.data=.seq its n/\its.size<=Iy/\Vals xs its.toList
def SqT(K:Il)(H:Hp)(a:Addr)(xs:List V):Prop:=
 Rd H a (.tup xs)\/
  ∃(o:Obj) (its:Array Ia) (n:Nat),K.lookup a=some o/\o.cls=.type "tuple"/\o.data=.seq its n/\its.size<=Iy/\Vals xs its.toList/\o.dict=none
def Hm:Ia->Option V
 | .none=>some .non
 | .bool b=>some (.bl b)
 | .int i _=>some (.int i)
 | .str x _=>some (.str x)
 | .bytes b _=>some (.byt b)
 | .float b _=>some (.flt b)
 | .ref a=>some (.ref a)
 | .type n=>some (.ty n)
 |_=>none
theorem RelV.abs {x:V}{u:Ia}(r:RelV x u):Hm u=some x:=by
 cases x with
 |non=>cases r;rfl
 |bl _=>cases r;rfl
 |int _=>obtain⟨t,rfl⟩:=r;rfl
 |str _=>obtain⟨t,rfl⟩:=r;rfl
 |byt _=>obtain⟨t,rfl⟩:=r;rfl
 |flt _=>obtain⟨t,rfl⟩:=r;rfl
 |ref _=>cases r;rfl
 |ty _=>cases r;rfl
theorem RelV.inj {x y:V}{u:Ia}(r:RelV x u)(q:RelV y u):x=y:=Je (r.abs.symm.trans q.abs)
theorem Vals.inj: ∀ {xs ys:List V} {us:List Ia},Vals xs us->Vals ys us->xs=ys
 |_,_,_,.nil,.nil=>rfl
 |_,_,_,.cons r t,.cons r' t'=>by rw[r.inj r',Vals.inj t t']
section
variable {X:Cx}{aa:List (Addr×Obj)}{σ:St}{H:Hp}{s:Ic}{a:Addr}{xs ys:List V}
theorem SqL.of {K:Il}(h:H a=some (.lst xs)):SqL K H a xs:=.inl (.inl h)
theorem SqT.of {K:Il}(h:H a=some (.tup xs)):SqT K H a xs:=.inl (.inl h)
theorem Inv.list(I:Inv X aa σ H s)(h:SqL X.K H a xs): ∃its:List Ia,Vals xs its/\PlainL s.heap a its.toArray/\xs.length<=sizeLine:=by
 rcases h with h|⟨o,its,n,hk,hc,hd,hs,hz,r⟩
 ·obtain⟨z,its,n,r,e⟩:=h.ok I.hok
  exact⟨its,r,⟨_,n,e,rfl,rfl,rfl⟩,z⟩
 ·refine⟨its.toList,r,⟨o,n,I.kIn a o hk,hc,hd,by simpa using hs⟩,?_⟩
  have e:=r.length
  simp only[IW] at e;omega
theorem Inv.tuple(I:Inv X aa σ H s)(h:SqT X.K H a xs): ∃its:List Ia,Vals xs its/\Ug s.heap a its.toArray/\xs.length<=sizeLine:=by
 rcases h with h|⟨o,its,n,hk,hc,hs,hz,r,_⟩
 ·obtain⟨z,its,r,p,_⟩:=h.ok I.hok
  exact⟨its,r,p,z⟩
 ·refine⟨its.toList,r,⟨o,I.kIn a o hk,hc,n,by simpa using hs⟩,?_⟩
  have e:=r.length
  simp only[IW] at e;omega
theorem Inv.tupleN(I:Inv X aa σ H s)(h:SqT X.K H a xs):(∃o,s.heap.get? a=some o/\o.cls=.type "tuple")/\ ∃o,s.heap.get? a=some o/\o.dict=none:=by
 rcases h with h|⟨o,its,n,hk,hc,hs,hz,r,hd⟩
 ·obtain⟨z,its,r,⟨ob,e,c,_⟩,o2,e2,d2⟩:=h.ok I.hok
  exact⟨⟨ob,e,c⟩,o2,e2,d2⟩
 ·exact⟨⟨o,I.kIn a o hk,hc⟩,o,I.kIn a o hk,hd⟩
theorem Inv.list_inj(I:Inv X aa σ H s)(h:SqL X.K H a xs)(h':SqL X.K H a ys):xs=ys:=by
 obtain⟨its,r,⟨o,n,e,_,_,d⟩,_⟩:=I.list h
 obtain⟨its',r',⟨o',n',e',_,_,d'⟩,_⟩:=I.list h'
 rw[e] at e';cases e';rw[d] at d';injection d' with d1 _
 have:its=its':=by simpa using congrArg SG d1
 subst this;exact r.inj r'
theorem Inv.tuple_inj(I:Inv X aa σ H s)(h:SqT X.K H a xs)(h':SqT X.K H a ys):xs=ys:=by
 obtain⟨its,r,⟨o,e,_,n,d⟩,_⟩:=I.tuple h
 obtain⟨its',r',⟨o',e',_,n',d'⟩,_⟩:=I.tuple h'
 rw[e] at e';cases e';rw[d] at d';injection d' with d1 _
 have:its=its':=by simpa using congrArg SG d1
 subst this;exact r.inj r'
end
abbrev Cx.wish(X:Cx)(E:Ia->Ic->Prop):Cx:={X with xe:=E}
abbrev Cx.nox(X:Cx):Cx:=X.wish λ_ _=>False
theorem Cx.Ok.wish {X:Cx}(ok:X.Ok)(E:Ia->Ic->Prop):(X.wish E).Ok:=
 ⟨ok.mod,ok.kind,ok.glob,ok.blt,ok.above,ok.inj,ok.has,ok.cab,ok.hd,ok.frames,ok.stk,ok.exf,ok.bs,ok.bsz,ok.noex,ok.exfs,ok.funs,ok.frf⟩
theorem Cx.Ok.unwish {X:Cx}{E:Ia->Ic->Prop}(ok:(X.wish E).Ok):X.Ok:=
 ⟨ok.mod,ok.kind,ok.glob,ok.blt,ok.above,ok.inj,ok.has,ok.cab,ok.hd,ok.frames,ok.stk,ok.exf,ok.bs,ok.bsz,ok.noex,ok.exfs,ok.funs,ok.frf⟩
section
variable {X:Cx}{aa:List (Addr×Obj)}{σ:St}{H:Hp}{s:Ic}{E:Ia->Ic->Prop}
theorem Inv.wish(I:Inv X aa σ H s)(E:Ia->Ic->Prop):Inv (X.wish E) aa σ H s:=⟨I.ok.wish E,I.os,I.bare,I.base,I.loc,I.cell,I.free,I.freeC,I.pin,I.hok,I.len⟩
theorem Inv.unwish(I:Inv (X.wish E) aa σ H s):Inv X aa σ H s:=⟨I.ok.unwish,I.os,I.bare,I.base,I.loc,I.cell,I.free,I.freeC,I.pin,I.hok,I.len⟩
theorem SP.unwish {D:Ends}{f:Flow}{s':Ic}(h:SP (X.wish E) aa D f s'):SP X aa D f s':=by
 cases f with
 |next=>obtain⟨σ',H',I,q⟩:=h;exact⟨σ',H',I.unwish,q⟩
 |brk=>obtain⟨σ',H',I,q⟩:=h;exact⟨σ',H',I.unwish,q⟩
 |cont=>obtain⟨σ',H',I,q⟩:=h;exact⟨σ',H',I.unwish,q⟩
 |ret u=>obtain⟨v,σ',H',I,r,q⟩:=h;exact⟨v,σ',H',I.unwish,r,q⟩
theorem PSs.nox {st:List Stmt}{t:TS}(h:PSs X.nox st t):PSs X st t:=λaa s σ H D I hw=>
 Ji (h aa s σ H D (I.wish _) hw) (λ_ _ q=>q.unwish) λ_ _ z=>False.elim z
end
section
variable {X:Cx}{st:Stmt}{rest:List Stmt}{t u:TS}{e:Expr}{te:TE}{pos:Pos}
def F3:TS:=λD σ H=>D.nx σ H
def GQ(t u:TS):TS:=λD σ H=>t {D with nx:=u D} σ H
theorem Bg:PSs X [] F3:=λ_ _ σ H _ I h=>OH ⟨σ,H,I,h⟩
theorem jF(h1:PS X st t)(h2:PSs X rest u):PSs X (st::rest) (GQ t u):=by
 intro aa s σ H D I h;refine Qp (bm (h1 aa s σ H {D with nx:=u D} I h) λf s1 q=>?_)
 cases f with
 |next=>
  obtain⟨σ',H',I',q⟩:=q
  exact h2 aa s1 σ' H' D I' q
 |ret v=>exact q
 |brk=>exact q
 |cont=>exact q
theorem pj(h1:PS X st t):PSs X [st] t:=by
 intro aa s σ H D I h;refine Qp (bm (h1 aa s σ H D I h) λf s1 q=>?_)
 cases f with
 |next=>exact OH q
 |ret v=>exact q
 |brk=>exact q
 |cont=>exact q
theorem Inv.quiet {aa:List (Addr×Obj)}{σ:St}{H:Hp}{s:Ic}(I:Inv X aa σ H s):interactive X.env=false:=by simp[interactive,I.ok.kind]
def Ck(te:TE):TS:=λD σ H=>te σ H λ_ H1=>D.nx σ H1
theorem vd(he:PE X e te)(hs:JU e none pos.line X.env=pure false:=by rfl):PS X (.Expr e pos) (Ck te):=by
 intro aa s σ H D I h;exact wpAny_Expr_any (bm (he aa s σ H _ I h) λv s1 ⟨x,H1,I1,r1,q1⟩=>⟨σ,H1,I1,q1⟩) I.quiet hs
def Gu(te:TE):TS:=λD σ H=>te σ H D.rt
theorem zi(he:PE X e te):PS X (.Return (some e) pos) (Gu te):=by
 intro aa s σ H D I h;exact wpAny_Return_some (bm (he aa s σ H _ I h) λv s1 ⟨x,H1,I1,r1,q1⟩=>⟨x,σ,H1,I1,r1,q1⟩)
def G9(c:TT)(t u:TS):TS:=λD σ H=>c σ H λb H1=>if b=true then t D σ H1 else u D σ H1
theorem FZ {c:Expr}{a b:List Stmt}{tc:TT}(hc:PT X c tc)(ha:PSs X a t)(hb:PSs X b u):PS X (.If c a b pos) (G9 tc t u):=by
 intro aa s σ H D I h;refine wpAny_If (bm (hc aa s σ H _ I h) λd s1 hq_=>?_)
 obtain⟨H1,I1,q1⟩:=hq_
 cases d with
 |true=>exact ha aa s1 σ H1 D I1 q1
 |false=>exact hb aa s1 σ H1 D I1 q1
end
abbrev TG:=V->St->Hp->(St->Hp->Prop)->Prop
abbrev Az:=List V->St->Hp->(St->Hp->Prop)->Prop
def PG(X:Cx)(target:Expr)(t:TG):Prop:=
 ∀(aa:List (Addr×Obj)) (s:Ic) (σ:St) (H:Hp) (v:V) (u:Ia) (Q:St->Hp->Prop),Inv X aa σ H s->RelV v u->t v σ H Q->
  II (model X.prog X.w) X.A (LN target X.env u) (λ_ s'=> ∃σ' H',Inv X aa σ' H' s'/\Q σ' H') X.xe s
def PGs(X:Cx)(ts:List Expr)(t:Az):Prop:=
 ∀(aa:List (Addr×Obj)) (s:Ic) (σ:St) (H:Hp) (vs:List V) (us:List Ia) (Q:St->Hp->Prop),Inv X aa σ H s->Vals vs us->t vs σ H Q->
  II (model X.prog X.w) X.A (assignInOrder ((Lm ts X.env).map (·.2)) us) (λ_ s'=> ∃σ' H',Inv X aa σ' H' s'/\Q σ' H') X.xe s
abbrev Dh:=V->V->V->Hp->(Hp->Prop)->Prop
def Fm(X:Cx)(t:Dh):Prop:=
 ∀(aa:List (Addr×Obj)) (s:Ic) (σ:St) (H:Hp) (o i v:V) (ov iv u:Ia) (Q:Hp->Prop),Inv X aa σ H s->RelV o ov->RelV i iv->RelV v u->t o i v H Q->
  II (model X.prog X.w) X.A (SH ov iv u) (λ_ s'=> ∃H',Inv X aa σ H' s'/\Q H') X.xe s
section
variable {X:Cx}{pos:Pos}
def qE(i:Nat):TG:=λv σ H Q=>Q (σ.set i (some v)) H
theorem Cd {i:Nat}{x:Str}(hN:X.N.Nodup)(hi:X.N[i]? =some x)(hx:rO X.env.scope x)(hf:X.fn x=true\/X.env.scope.names.lookup x=some .local:=by first|exact .inl rfl|exact .inr rfl|assumption):PG X (.Name x pos) (qE i):=by
 intro aa s σ H v u Q I r h;exact NF (qO I hN hi hx r (λs' I'=>⟨_,H,I',h⟩) hf)
def G6:Az:=λvs σ H Q=>vs=[]/\Q σ H
def EO(t:TG)(u:Az):Az:=λvs σ H Q=> ∃v r,vs=v::r/\t v σ H λσ' H'=>u r σ' H' Q
theorem Bh:PGs X [] G6:=by
 intro aa s σ H vs us Q I r h;obtain⟨e,h⟩:=h
 subst e;cases r
 exact assignInOrder_nil ⟨σ,H,I,h⟩
theorem Al {e:Expr}{es:List Expr}{t:TG}{u:Az}(h1:PG X e t)(h2:PGs X es u)
 (hs:(Lm (e::es) X.env).map (·.2)=LN e X.env::(Lm es X.env).map (·.2):=by rfl):PGs X (e::es) (EO t u):=by
 intro aa s σ H vs us Q I r h;obtain⟨v,vr,e1,h⟩:=h
 subst e1;cases r with
 |cons r rr=>
  rw[hs];refine assignInOrder_cons (bm (h1 aa s σ H _ _ _ I r h) λ_ s1 hq_=>?_)
  obtain⟨σ1,H1,I1,q1⟩:=hq_
  exact h2 aa s1 σ1 H1 _ _ Q I1 rr q1
def GO(K:Il)(n:Nat)(t:Az):TG:=λv σ H Q=> ∃a xs,v=.ref a/\SqT K H a xs/\xs.length=n/\t xs σ H Q
theorem Dt {es:List Expr}{k:Nat}{t:Az}{n:Nat}(hc:X.calm=true)(h:PGs X es t)
 (hn:(Lm es X.env).length=n:=by rfl) (hst:(Lm es X.env).findIdx? (·.1)=none:=by rfl):PG X (.Tuple es k pos) (GO X.K n t):=by
 intro aa s σ H v u Q I r hw;obtain⟨a,xs,e1,hq,hl,hw⟩:=hw
 subst e1;cases r
 obtain⟨its,rv,ht,hz⟩:=I.tuple hq
 refine assign_Tuple_tuple (I.ok.hd hc) ht (by simp[hn,<-hl,rv.length]) hst λh' hx=>?_
 have I1:Inv X aa σ H {s with heap:=h'}:=I.kept (t':=s.toks) λb o e=>hx b o (IV (Ix e)) e
 exact h aa _ σ H xs _ Q I1 (by simpa using rv) hw
def GY(to ti:TE)(t:Dh):TG:=λv σ H Q=>to σ H λo H1=>ti σ H1 λi H2=>t o i v H2 λH3=>Q σ H3
theorem CK {o i:Expr}{to ti:TE}{t:Dh}(ho:PE X o to)(hi:PE X i ti)(hs:Fm X t)
 (ha: ∀v,LN (.Subscript o i pos) X.env v=(do
   let ov <-NG [v] (eval o X.env)
   let iv <-NG [v,ov] (eval i X.env)
   NH pos
   NG [v,ov,iv] (SH ov iv v)
   release [v,ov,iv] []):=by intro _;rfl):PG X (.Subscript o i pos) (GY to ti t):=by
 intro aa s σ H v u Q I r h;rw[ha];refine HZ (Kj (bm (ho aa s σ H _ I h) λov s1 hq_=>?_))
 obtain⟨x,H1,I1,r1,q1⟩:=hq_
 refine HZ (Kj (bm (hi aa s1 σ H1 _ I1 q1) λiv s2 hq_=>?_))
 obtain⟨y,H2,I2,r2,q2⟩:=hq_
 refine HZ (K2 (HZ (Kj (bm (hs aa s2 σ H2 x y v ov iv u _ I2 r1 r2 r q2) λ_ s3 hq_=>?_))))
 obtain⟨H3,I3,q3⟩:=hq_
 exact wpAny_release ⟨σ,H3,I3,q3⟩
def Bi(te:TE)(g:TG):TS:=λD σ H=>te σ H λx H1=>g x σ H1 D.nx
theorem Ew {tg e:Expr}{te:TE}{g:TG}(he:PE X e te)(hg:PG X tg g)(hs:RX [tg] e pos.line X.env=pure false:=by rfl)(hw:RY [tg] e X.env=pure none:=by rfl)
 (h1:(Lm [tg] X.env).map (·.2)=[LN tg X.env]:=by rfl):PS X (.Assign [tg] e pos) (Bi te g):=by
 intro aa s σ H D I h;refine wpAny_Assign_stores (bm (he aa s σ H _ I h) λv s1 ⟨x,H1,I1,r1,q1⟩=>?_) hs hw
 rw[h1];exact bm (hg aa s1 σ H1 x v _ I1 r1 q1) λ_ s2 q=>q
theorem fM {i:Nat}{x:Str}{e:Expr}{te:TE}{pos':Pos}(hN:X.N.Nodup)(hi:X.N[i]? =some x)(hx:rO X.env.scope x)(he:PE X e te)(hs:JU e (some (.Name x pos')) pos.line X.env=pure false:=by rfl)(hf:X.fn x=true\/X.env.scope.names.lookup x=some .local:=by first|exact .inl rfl|exact .inr rfl|assumption):
 PS X (.Assign [.Name x pos'] e pos) (Bi te (qE i)):=by
 intro aa s σ H D I h;refine wpAny_Assign_Name (bm (he aa s σ H _ I h) λv s1 ⟨y,H1,I1,r1,q1⟩=>?_) hs
 exact qO I1 hN hi hx r1 (λs2 I2=>⟨_,H1,I2,q1⟩) hf
end
structure It where
 go:Nat->Hp->Prop
 yld:Nat->Hp->V->Hp->Prop
 stop:Nat->Hp->Prop
def fN(X:Cx)(aa:List (Addr×Obj))(H:Hp)(b:Addr):Prop:=
 H b=none/\b≠X.env.locals/\b∉X.fs/\(b∈X.ex\/X.s₀.heap.objs.size<=b)/\(∀x c,X.env.cells.lookup x=some c->c≠b)/\ ∀p∈X.pn++aa,p.1≠b
theorem Inv.fpOk {X:Cx}{aa:List (Addr×Obj)}{σ:St}{H H':Hp}{s:Ic}{b:Addr}(I:Inv X aa σ H s)(hb:s.heap.objs.size<=b)(hn:H' b=none):fN X aa H' b:=by
 refine⟨hn,Kw (IJ I.lt hb),I.nofs hb,.inr (Jk I.sz hb),λx c e z=>?_,λp hp z=>?_⟩
 ·obtain⟨v,q⟩:=I.cell x c e
  exact absurd (IJ q.lt (by rw[z];exact hb)) (Ku _)
 ·exact absurd (IJ (Ix (I.pin p hp).1) (by rw[z];exact hb)) (Ku _)
structure Turn(P:IP)(w:Jo)(K:Il)(tg:Expr)(J:It)(fp:List Addr)(it:Addr)(tn:Nat->Heap->Prop):Prop where
 mem:it∈fp
 obj: ∀i h,tn i h-> ∀b∈fp,∃o,h.get? b=some o/\ ∀v,o.data≠ .cell v
 keep: ∀i h h',tn i h->(∀b∈fp,∀o,h.get? b=some o->h'.get? b=some o)->tn i h'
 item: ∀(X:Cx),X.prog=P->X.w=w->X.K=K->X.calm=true-> ∀(i:Nat) (aa:List (Addr×Obj)) (s:Ic) (σ:St) (H:Hp) (E:Ia->Ic->Prop),Inv X aa σ H s->(∀b∈fp,fN X aa H b)->tn i s.heap->J.go i H->
  II (model P w) X.A (MS (.ref it)) (λr s1=> ∃u,r=some u/\
   II (model P w) X.A (Lb tg (.ref it) u) (λ_ s2=> ∃x H',Inv X aa σ H' s2/\RelV x u/\J.yld i H x H'/\tn (i+1) s2.heap/\ ∀b∈fp,H' b=none) E s1) E s
 done: ∀(X:Cx),X.prog=P->X.w=w->X.K=K->X.calm=true-> ∀(i:Nat) (aa:List (Addr×Obj)) (s:Ic) (σ:St) (H:Hp) (E:Ia->Ic->Prop),Inv X aa σ H s->(∀b∈fp,fN X aa H b)->tn i s.heap->J.stop i H->
  II (model P w) X.A (MS (.ref it)) (λr s1=>r=none/\Inv X aa σ H s1) E s
 self: ∀(A:Jc) (i:Nat) (s:Ic) (Q:Ia->Ic->Prop) (E:Ia->Ic->Prop),tn i s.heap->Q (.ref it) s->II (model P w) A (PM (.ref it)) Q E s
abbrev TI:=St->Hp->(It->Hp->Prop)->Prop
def Hu(X:Cx)(aa:List (Addr×Obj))(σ:St)(tg:Expr)(R:It->Hp->Prop)(itv:Ia)(s2:Ic):Prop:=
 ∃(it:Addr) (fp:List Addr) (tn:Nat->Heap->Prop) (J:It) (H':Hp),itv=.ref it/\Inv X aa σ H' s2/\Turn X.prog X.w X.K tg J fp it tn/\tn 0 s2.heap/\(∀b∈fp,fN X aa H' b)/\R J H'
def PI(X:Cx)(tg iter:Expr)(wi:TI):Prop:=
 ∀(aa:List (Addr×Obj)) (s:Ic) (σ:St) (H:Hp) (R:It->Hp->Prop),Inv X aa σ H s->wi σ H R->
  II (model X.prog X.w) X.A (eval iter X.env) (λv s1=>II (model X.prog X.w) X.A (PM v) (Hu X aa σ tg R) X.xe s1) X.xe s
theorem qD {M:WN}{A:Jc}{E:Ia->Ic->Prop}{s:Ic}{tg:Expr}{it:Addr}{u:Ia}{o:Obj}{n:String}{vs:Array Ia}{Q:Unit->Ic->Prop}(ho:s.heap.get? it=some o)(hc:o.cls=.type n)(hd:o.data=.fields vs)
 (hn:["enumerate","zip","dict_itemiterator","dict_reverseitemiterator","odict_iterator","itertools.zip_longest","itertools.pairwise"].contains n=false) (hQ:Q () s):II M A (Lb tg (.ref it) u) Q E s:=by
 unfold Lb;cases tg<;>first
  |exact Ih hQ
  |(cases u<;>first
     |exact Ih hQ
     |(refine HZ (Oo ho ?_)
       rw[hc,hd];show II M A (if(["enumerate","zip","dict_itemiterator","dict_reverseitemiterator","odict_iterator","itertools.zip_longest","itertools.pairwise"].contains n&&vs[0]? ==some (MT _))=true then _ else _) Q E s
       rw[if_neg (by intro h;rw[hn,Bool.false_and] at h;cases h)]
       exact Ih hQ))
def GK(K:Il)(a:Addr):It:=
 ⟨λi H=> ∃xs x,SqL K H a xs/\xs[i]? =some x,λi H x H'=>H'=H/\ ∀xs,SqL K H a xs->xs[i]? =some x,λi H=> ∃xs,SqL K H a xs/\xs.length<=i⟩
def GI(K:Il)(a:Addr):It:=
 ⟨λi H=> ∃xs x,SqT K H a xs/\xs[i]? =some x,λi H x H'=>H'=H/\ ∀xs,SqT K H a xs->xs[i]? =some x,λi H=> ∃xs,SqT K H a xs/\xs.length<=i⟩
def Ge(lo:Int)(n:Nat):It:=⟨λi _=>i<n,λi H x H'=>H'=H/\x=.int (lo+i),λi _=>n<=i⟩
theorem wJ {P:IP}{w:Jo}{K:Il}{tg:Expr}(a it:Addr):Turn P w K tg (GK K a) [it] it (λi h=>h.IsListIter it a i) where
 mem:=by simp
 obj:=λi h st b hb=>by
  have e:b=it:=by simpa using hb
  subst e;obtain⟨o,e,c,d⟩:=st
  exact⟨o,e,λv z=>by rw[d] at z;cases z⟩
 keep:=λi h h' st k=>st.at λo e=>k it (by simp) o e
 item:=by
  intro X hP hw hK hc i aa s σ H E I hf st hg;subst hP hw hK;obtain⟨xs,x,hq,hx⟩:=hg
  obtain⟨its,rv,p,hz⟩:=I.list hq
  obtain⟨u,hu,ru⟩:=rv.get hx
  obtain⟨f0,f1,f2,f3,f4,f5⟩:=hf it (by simp)
  refine wpAny_pyNext_list_item st p.isList (x:=u) (by simpa using hu) λh' st' sb=>?_
  have I1:Inv X aa σ H {s with heap:=h'}:=I.turned (t':=s.toks) (λb o hb e=>(sb.2 b hb).trans e) f0 f1 f3 f4 f5
  obtain⟨o,e,c,d⟩:=id st'
  exact⟨u,rfl,qD (s:={s with heap:=h'}) e c d (by decide) ⟨x,H,I1,ru,⟨rfl,λys hy=>by rw[I.list_inj hy hq];exact hx⟩,st',λb hb=>(hf b hb).1⟩⟩
 done:=by
  intro X hP hw hK hc i aa s σ H E I hf st hg;subst hP hw hK;obtain⟨xs,hq,hx⟩:=hg
  obtain⟨its,rv,p,hz⟩:=I.list hq
  obtain⟨f0,f1,f2,f3,f4,f5⟩:=hf it (by simp)
  have hl:=rv.length
  exact wpAny_pyNext_list_end (I.ok.hd hc) st p.isList (by simp;omega) λh' eb=>⟨rfl,I.turned (t':=s.toks) (λb o hb e=>eb b o hb e) f0 f1 f3 f4 f5⟩
 self:=λ_ _ _ _ _ st h=>wpAny_pyIter_listiter st h
theorem ua {P:IP}{w:Jo}{K:Il}{tg:Expr}(a it:Addr):Turn P w K tg (GI K a) [it] it (λi h=>h.IsTupleIter it a i) where
 mem:=by simp
 obj:=λi h st b hb=>by
  have e:b=it:=by simpa using hb
  subst e;obtain⟨o,e,c,d⟩:=st
  exact⟨o,e,λv z=>by rw[d] at z;cases z⟩
 keep:=λi h h' st k=>st.at λo e=>k it (by simp) o e
 item:=by
  intro X hP hw hK hc i aa s σ H E I hf st hg;subst hP hw hK;obtain⟨xs,x,hq,hx⟩:=hg
  obtain⟨its,rv,p,hz⟩:=I.tuple hq
  obtain⟨u,hu,ru⟩:=rv.get hx
  obtain⟨f0,f1,f2,f3,f4,f5⟩:=hf it (by simp)
  refine wpAny_pyNext_tuple_item st (show s.heap.IsTuple a its.toArray from p) (x:=u) (by simpa using hu) λh' st' sb=>?_
  have I1:Inv X aa σ H {s with heap:=h'}:=I.turned (t':=s.toks) (λb o hb e=>(sb.2 b hb).trans e) f0 f1 f3 f4 f5
  obtain⟨o,e,c,d⟩:=id st'
  exact⟨u,rfl,qD (s:={s with heap:=h'}) e c d (by decide) ⟨x,H,I1,ru,⟨rfl,λys hy=>by rw[I.tuple_inj hy hq];exact hx⟩,st',λb hb=>(hf b hb).1⟩⟩
 done:=by
  intro X hP hw hK hc i aa s σ H E I hf st hg;subst hP hw hK;obtain⟨xs,hq,hx⟩:=hg
  obtain⟨its,rv,p,hz⟩:=I.tuple hq
  obtain⟨f0,f1,f2,f3,f4,f5⟩:=hf it (by simp)
  have hl:=rv.length
  exact wpAny_pyNext_tuple_end (I.ok.hd hc) st (show s.heap.IsTuple a its.toArray from p) (by simp;omega) λh' eb=>⟨rfl,I.turned (t':=s.toks) (λb o hb e=>eb b o hb e) f0 f1 f3 f4 f5⟩
 self:=λ_ _ _ _ _ st h=>wpAny_pyIter_tupleiter st h
theorem uC {P:IP}{w:Jo}{K:Il}{tg:Expr}(it:Addr)(lo:Int)(n:Nat):Turn P w K tg (Ge lo n) [it] it (λi h=>IsRangeIter h it (lo+(i:Nat)*1) ((n:Int) - (i:Nat)) 1) where
 mem:=by simp
 obj:=λi h st b hb=>by
  have e:b=it:=by simpa using hb
  subst e;exact⟨_,st,λv z=>by
   have z':Data.fields _=Data.cell v:=z
   cases z'⟩
 keep:=λi h h' st k=>k it (by simp) _ st
 item:=by
  intro X hP hw hK hc i aa s σ H E I hf st hg;subst hP hw hK;obtain⟨f0,f1,f2,f3,f4,f5⟩:=hf it (by simp)
  have W:=Walks.range (prog:=X.prog) (w:=X.w) (I.ok.hd hc) it lo 1 n
  refine W.item i s _ _ hg st λv h' tk hv st' kk=>?_
  obtain⟨t,rfl⟩:=hv
  have I1:Inv X aa σ H {s with heap:=h',toks:=tk}:=I.turned (λb o hb e=>kk b o (by simpa using hb) e) f0 f1 f3 f4 f5
  refine⟨_,rfl,qD (s:={s with heap:=h',toks:=tk}) (n:="range_iterator") st' rfl rfl (by decide) ⟨.int (lo+i),H,I1,⟨t,?_⟩,⟨rfl,rfl⟩,st',λb hb=>(hf b hb).1⟩⟩
  rw[Um]
 done:=by
  intro X hP hw hK hc i aa s σ H E I hf st hg;subst hP hw hK;obtain⟨f0,f1,f2,f3,f4,f5⟩:=hf it (by simp)
  exact wpAny_pyNext_range_end (I.ok.hd hc) st (by have:n<=i:=hg;omega) λh' eb=>⟨rfl,I.turned (t':=s.toks) (λb o hb e=>eb b o hb e) f0 f1 f3 f4 f5⟩
 self:=λ_ _ _ _ _ st h=>wpAny_pyIter_rangeiter st h
section
variable {X:Cx}{tg:Expr}
def EN(K:Il)(tl:TE):TI:=λσ H R=>tl σ H λx H1=> ∃a,x=.ref a/\(∃xs,SqL K H1 a xs)/\R (GK K a) H1
def Hg(K:Il)(tl:TE):TI:=λσ H R=>tl σ H λx H1=> ∃a,x=.ref a/\(∃xs,SqT K H1 a xs)/\R (GI K a) H1
theorem AG {l:Expr}{tl:TE}(hl:PE X l tl):PI X tg l (EN X.K tl):=by
 intro aa s σ H R I h;refine bm (hl aa s σ H _ I h) λv s1 hq_=>?_
 obtain⟨x,H1,I1,r1,q1⟩:=hq_
 obtain⟨a,e,⟨xs,hq⟩,q⟩:=q1
 subst e;cases r1
 obtain⟨its,rv,p,hz⟩:=I1.list hq
 refine P1 p.isList ?_
 refine⟨s1.heap.objs.size,[s1.heap.objs.size],_,_,H1,rfl,I1.kept (t':=s1.toks) λb o e=>Ib _ e,wJ a _,⟨_,Io _ rfl,rfl,rfl⟩,λb hb=>?_,q⟩
 have e:b=s1.heap.objs.size:=by simpa using hb
 subst e;exact I1.fpOk (Ie _) (I1.hok.fresh (Ie _))
theorem Eo {l:Expr}{tl:TE}(hl:PE X l tl):PI X tg l (Hg X.K tl):=by
 intro aa s σ H R I h;refine bm (hl aa s σ H _ I h) λv s1 hq_=>?_
 obtain⟨x,H1,I1,r1,q1⟩:=hq_
 obtain⟨a,e,⟨xs,hq⟩,q⟩:=q1
 subst e;cases r1
 obtain⟨its,rv,p,hz⟩:=I1.tuple hq
 refine Mm (show s1.heap.IsTuple a its.toArray from p) ?_
 refine⟨s1.heap.objs.size,[s1.heap.objs.size],_,_,H1,rfl,I1.kept (t':=s1.toks) λb o e=>Ib _ e,ua a _,⟨_,Io _ rfl,rfl,rfl⟩,λb hb=>?_,q⟩
 have e:b=s1.heap.objs.size:=by simpa using hb
 subst e;exact I1.fpOk (Ie _) (I1.hok.fresh (Ie _))
theorem x6 {aa:List (Addr×Obj)}{σ:St}{H:Hp}{s:Ic}{R:It->Hp->Prop}{E:Ia->Ic->Prop}{lo hi:Int}{t u v:Tok}{tk:Nat}(I:Inv X aa σ H s)(h1: -(2^62)<=lo)(h2:lo<2^62)(h3: -(2^62)<=hi)(h4:hi<2^62)
 (q:R (Ge lo (hi-lo).toNat) H):II (model X.prog X.w) X.A (PM (.ref s.heap.objs.size)) (Hu X aa σ tg R) E {s with heap:=s.heap.push {cls:=.type "range",data:=.fields #[.int lo t,.int hi u,.int 1 v]},toks:=tk}:=by
 refine wpAny_pyIter_range (IsRange.new ..) (small_one h1 h2 h3 h4) ?_
 have I1:Inv X aa σ H {s with heap:=s.heap.push {cls:=.type "range",data:=.fields #[.int lo t,.int hi u,.int 1 v]},toks:=tk}:=I.kept λb o e=>Ib _ e
 refine⟨(s.heap.push {cls:=.type "range",data:=.fields #[.int lo t,.int hi u,.int 1 v]}).objs.size,[(s.heap.push {cls:=.type "range",data:=.fields #[.int lo t,.int hi u,.int 1 v]}).objs.size],_,_,H,rfl,
  I1.kept (t':=tk) λb o e=>Ib _ e,uC _ lo (hi-lo).toNat,?_,λb hb=>?_,q⟩
 ·have e1:lo+((0:Nat):Int)*1=lo:=by simp
  have e2:(((hi-lo).toNat:Nat):Int) - ((0:Nat):Int)=Kr lo hi 1:=by rw[rangeSize_one];split<;>omega
  show IsRangeIter _ _ (lo+((0:Nat):Int)*1) ((((hi-lo).toNat:Nat):Int) - ((0:Nat):Int)) 1;rw[e1,e2];exact Io _ rfl
 ·have e:b=(s.heap.push {cls:=.type "range",data:=.fields #[.int lo t,.int hi u,.int 1 v]}).objs.size:=by simpa using hb
  subst e;exact I1.fpOk (Ie _) (I1.hok.fresh (Ie _))
def Fb(ta:TA):TI:=λσ H R=>ta σ H λvs H1=> ∃j:Int,vs=[.int j]/\ -(2^62)<=j/\j<2^62/\R (Ge 0 j.toNat) H1
theorem oH {a:Expr}{ta:TA}{p pos:Pos}(hg:Gl X "range")(hm:X.mg "range"=none)(ha:PA X [a] ta)(hs:Iu [a] X.env=[(false,eval a X.env)]:=by rfl):PI X tg (.Call (.Name "range" p) [a] [] pos) (Fb ta):=by
 intro aa s σ H R I h;refine Call_ (jo I hg hm boot_range (Kt (bm (ha pos aa s σ H _ I h) λus s1 ⟨vs,H1,I1,r1,q1⟩=>?_) hs rfl))
 obtain⟨j,e,q1,q2,q⟩:=q1
 subst e;cases r1 with
 |cons r rr=>
  cases rr
  obtain⟨t,rfl⟩:=r
  exact call_range_1 (x6 I1 (by omega) (by omega) q1 q2 (by simpa using q))
def GT(wi:TI)(g:TG)(tb:TS):TS:=λD σ H=>wi σ H λJ H1=> ∃W:Nat->Nat->St->Hp->Prop,(∃m,W 0 m σ H1)/\ ∀i m σ H,W i m σ H->
 (J.stop i H/\D.nx σ H)\/(J.go i H/\ ∃N:St->Hp->Prop,(∀σ' H',N σ' H'-> ∃m',m'<m/\W (i+1) m' σ' H')/\ ∀x H',J.yld i H x H'->g x σ H' λσ2 H2=>tb {D with nx:=N,ct:=N,bk:=D.nx} σ2 H2)
def jn(fp:List Addr)(h:Heap):List (Addr×Obj):=fp.filterMap λb=>(h.get? b).map λo=>(b,o)
theorem cg {fp:List Addr}{h:Heap}{b:Addr}{o:Obj}(hb:b∈fp)(e:h.get? b=some o):(b,o)∈jn fp h:=PN.mpr ⟨b,hb,by rw[e];rfl⟩
theorem xG {fp:List Addr}{h:Heap}{p:Addr×Obj}(hp:p∈jn fp h):p.1∈fp/\h.get? p.1=some p.2:=by
 obtain⟨b,hb,e⟩:=PN.mp hp
 cases q:h.get? b with
 |none=>rw[q] at e;cases e
 |some o=>
  rw[q] at e;have e':(b,o)=p:=Je e
  subst e';exact⟨hb,q⟩
theorem Inv.pinned {aa:List (Addr×Obj)}{σ:St}{H:Hp}{s:Ic}{fp:List Addr}(I:Inv X aa σ H s)(hf: ∀b∈fp,fN X aa H b)(ho: ∀b∈fp,∃o,s.heap.get? b=some o/\ ∀v,o.data≠ .cell v):Inv X (aa++jn fp s.heap) σ H s:=
 I.pins_of λp hp=>(IM.mp hp).elim (λz=>I.pin p (Iw _ z)) λz=>by
  obtain⟨hb,e⟩:=xG z
  obtain⟨f0,f1,f2,_⟩:=hf p.1 hb
  obtain⟨o,e',d⟩:=ho p.1 hb
  rw[e] at e';cases e';exact⟨e,f0,f1,f2,d⟩
theorem Inv.unpinned {aa pl:List (Addr×Obj)}{σ:St}{H:Hp}{s:Ic}(I:Inv X (aa++pl) σ H s):Inv X aa σ H s:=I.pins_of λp hp=>I.pin p (Iw _ (Ja _ hp))
theorem CO {iter:Expr}{body:List Stmt}{wi:TI}{g:TG}{tb:TS}{pos:Pos}(hp:PassesOwn (model X.prog X.w) X.A X.env X.xe)(hc:X.calm=true)(hi:PI X tg iter wi)(hg:PG X tg g)(hb:PSs X body tb)
 (hs: ∀x,JE iter X.env x=pure x:=by intro _;rfl):PS X (.For tg iter body [] pos) (GT wi g tb):=by
 intro aa s σ H D I h;refine wpAny_For (bm (hi aa s σ H _ I h) λv s1 h1=>bm h1 λitv s2 h2=>?_) hs
 obtain⟨it,fp,tn,J,H2,e,I2,T,st2,f2,W,⟨m0,w0⟩,turn⟩:=h2
 subst e;have stat: ∀ {H':Hp},(∀b∈fp,H' b=none)-> ∀b∈fp,fN X aa H' b:=λhn b hb=>⟨hn b hb,(f2 b hb).2⟩
 refine codeAny_forLoop_any (λn s'=> ∃i σ' H',Inv X aa σ' H' s'/\tn i s'.heap/\(∀b∈fp,H' b=none)/\W i n σ' H') ?_ m0 ⟨0,σ,H2,I2,st2,λb hb=>(f2 b hb).1,w0⟩
 rintro n s3 ⟨i,σ3,H3,I3,st3,fr3,w3⟩
 rcases turn i n σ3 H3 w3 with⟨stop,qn⟩|⟨go,N,hN,step⟩
 ·refine Mi hp (bm (T.done X rfl rfl rfl hc i aa s3 σ3 H3 X.xe I3 (stat fr3) st3 stop) λr s4 hq_=>?_)
  obtain⟨hr,I4⟩:=hq_
  subst hr;exact OH ⟨σ3,H3,I4,qn⟩
 ·refine Mi hp (bm (T.item X rfl rfl rfl hc i aa s3 σ3 H3 X.xe I3 (stat fr3) st3 go) λr s4 hq_=>?_)
  obtain⟨u,hr,h4⟩:=hq_
  subst hr;refine Mi hp (bm h4 λ_ s5 hq_=>?_)
  obtain⟨x,H5,I5,r5,y5,st5,fr5⟩:=hq_
  have I5':=I5.pinned (stat fr5) (T.obj _ _ st5)
  refine Mi hp (bm (hg _ s5 σ3 H5 x u _ I5' r5 (step x H5 y5)) λ_ s6 hq_=>?_)
  obtain⟨σ6,H6,I6,q6⟩:=hq_
  refine Mi hp (bm (hb _ s6 σ6 H6 _ I6 q6) λf s7 q7=>?_)
  have OI: ∀ {σ7:St} {H7:Hp},Inv X (aa++jn fp s5.heap) σ7 H7 s7->N σ7 H7-> ∃m,m<n/\ ∃i σ' H',Inv X aa σ' H' s7/\tn i s7.heap/\(∀b∈fp,H' b=none)/\W i m σ' H':=λ{σ7 H7} I7 n7=>by
   obtain⟨m',hm,w7⟩:=hN σ7 H7 n7
   refine⟨m',hm,i+1,σ7,H7,I7.unpinned,T.keep _ _ _ st5 λb hb o e=>(I7.pin (b,o) (Iw _ (Iw _ (cg hb e)))).1,λb hb=>?_,w7⟩
   obtain⟨o,e,d⟩:=T.obj _ _ st5 b hb
   exact(I7.pin (b,o) (Iw _ (Iw _ (cg hb e)))).2.1
  cases f with
  |next=>obtain⟨σ7,H7,I7,n7⟩:=q7;exact OI I7 n7
  |cont=>obtain⟨σ7,H7,I7,n7⟩:=q7;exact OI I7 n7
  |brk=>obtain⟨σ7,H7,I7,q7⟩:=q7;exact⟨σ7,H7,I7.unpinned,q7⟩
  |ret v=>obtain⟨x7,σ7,H7,I7,r7,q7⟩:=q7;exact⟨x7,σ7,H7,I7.unpinned,r7,q7⟩
end
abbrev R2:=V->V->Hp->VK->Prop
def k8(X:Cx)(f:Ia->Ia->Sem Ia)(r:R2):Prop:=
 ∀(aa:List (Addr×Obj)) (s:Ic) (σ:St) (H:Hp) (x y:V) (v u:Ia) (Q:VK),Inv X aa σ H s->RelV x v->RelV y u->r x y H Q->
  II (model X.prog X.w) X.A (f v u) (EP X aa σ Q) X.xe s
def Hh(X:Cx)(f:Ia->Sem Ia)(r:V->Hp->VK->Prop):Prop:=
 ∀(aa:List (Addr×Obj)) (s:Ic) (σ:St) (H:Hp) (x:V) (v:Ia) (Q:VK),Inv X aa σ H s->RelV x v->r x H Q->
  II (model X.prog X.w) X.A (f v) (EP X aa σ Q) X.xe s
def eG(X:Cx)(f:Ia)(r:List V->Hp->VK->Prop):Prop:=
 ∀(aa:List (Addr×Obj)) (s:Ic) (σ:St) (H:Hp) (xs:List V) (us:List Ia) (Q:VK),Inv X aa σ H s->Vals xs us->r xs H Q->
  II (model X.prog X.w) X.A (call f us) (EP X aa σ Q) X.xe s
def G7(X:Cx)(r:V->Hp->(Bool->Hp->Prop)->Prop):Prop:=
 ∀(aa:List (Addr×Obj)) (s:Ic) (σ:St) (H:Hp) (x:V) (v:Ia) (Q:Bool->Hp->Prop),Inv X aa σ H s->RelV x v->r x H Q->
  II (model X.prog X.w) X.A (truthy v) (TP X aa σ Q) X.xe s
def EI(r:R2)(ta tb:TE):TE:=λσ H Q=>ta σ H λx H1=>tb σ H1 λy H2=>r x y H2 Q
def HR(r:V->Hp->VK->Prop)(ta:TE):TE:=λσ H Q=>ta σ H λx H1=>r x H1 Q
def rI(C:Int->Int->Prop)(g:Int->Int->V):R2:=λx y H Q=> ∃i j,x=.int i/\y=.int j/\C i j/\Q (g i j) H
def A7(g:Int->Int->V):R2:=λx y H Q=> ∃i j,x=.int i/\y=.int j/\Q (g i j) H
def rU(g:Int->V):V->Hp->VK->Prop:=λx H Q=> ∃i,x=.int i/\Q (g i) H
section
variable {X:Cx}{a b c:Expr}{ta tb tc:TE}{pos:Pos}
theorem D7(ha:PE X a ta)(hb:PE X b tb){aa:List (Addr×Obj)}{s:Ic}{σ:St}{H:Hp}{R:V->V->Hp->Prop}(I:Inv X aa σ H s)
 (h:ta σ H λx H1=>tb σ H1 λy H2=>R x y H2) {Q:Ia->Ic->Prop} {f:Ia->Ia->Sem Ia}
 (hf: ∀v u s2 x y H2,Inv X aa σ H2 s2->RelV x v->RelV y u->R x y H2->II (model X.prog X.w) X.A (f v u) Q X.xe s2):
 II (model X.prog X.w) X.A (eval a X.env) (λv s₁=>II (model X.prog X.w) X.A (eval b X.env) (λu s₂=>II (model X.prog X.w) X.A (f v u) Q X.xe s₂) X.xe s₁) X.xe s:=by
 refine bm (ha aa s σ H _ I h) λv s1 hq_=>?_
 obtain⟨x,H1,I1,r1,q1⟩:=hq_
 refine bm (hb aa s1 σ H1 _ I1 q1) λu s2 hq_=>?_
 obtain⟨y,H2,I2,r2,q2⟩:=hq_
 exact hf v u s2 x y H2 I2 r1 r2 q2
theorem Cj {op:Uo}{r:R2}(ho:k8 X (LI op) r)(ha:PE X a ta)(hb:PE X b tb):PE X (.BinOp a op b pos) (EI r ta tb):=by
 intro aa s σ H Q I h;exact wpAny_BinOp (D7 ha hb I h λv u s2 x y H2 I2 rx ry q=>ho aa s2 σ H2 x y v u Q I2 rx ry q)
theorem FD {op:UnaryOp}{r:V->Hp->VK->Prop}(ho:Hh X (unaryOp op) r)(ha:PE X a ta):PE X (.UnaryOp op a pos) (HR r ta):=by
 intro aa s σ H Q I h;exact UnaryOp_ (bm (ha aa s σ H _ I h) λv s1 ⟨x,H1,I1,r1,q1⟩=>ho aa s1 σ H1 x v Q I1 r1 q1)
theorem Gg {f:Ia->Ia->Sem Ia}{C:Int->Int->Prop}{g:Int->Int->Int}
 (rule: ∀(i j:Int) (t u:Tok) (s:Ic) (Q:Ia->Ic->Prop) (E:Ia->Ic->Prop),C i j->Q (.int (g i j) s.toks) {s with toks:=s.toks+1}->II (model X.prog X.w) X.A (f (.int i t) (.int j u)) Q E s):
 k8 X f (rI C λi j=>.int (g i j)):=by
 intro aa s σ H x y v u Q I rx ry h;obtain⟨i,j,rfl,rfl,hc,q⟩:=h
 obtain⟨t,rfl⟩:=rx
 obtain⟨t',rfl⟩:=ry
 exact rule i j t t' s _ _ hc ⟨.int (g i j),H,I.tok _,⟨_,rfl⟩,q⟩
theorem EW {f:Ia->Ia->Sem Ia}{g:Int->Int->Int}
 (rule: ∀(i j:Int) (t u:Tok) (s:Ic) (Q:Ia->Ic->Prop) (E:Ia->Ic->Prop),Q (.int (g i j) s.toks) {s with toks:=s.toks+1}->II (model X.prog X.w) X.A (f (.int i t) (.int j u)) Q E s):
 k8 X f (A7 λi j=>.int (g i j)):=by
 intro aa s σ H x y v u Q I rx ry h;obtain⟨i,j,rfl,rfl,q⟩:=h
 obtain⟨t,rfl⟩:=rx
 obtain⟨t',rfl⟩:=ry
 exact rule i j t t' s _ _ ⟨.int (g i j),H,I.tok _,⟨_,rfl⟩,q⟩
theorem EE {f:Ia->Ia->Sem Ia}{g:Int->Int->Bool}
 (rule: ∀(i j:Int) (t u:Tok) (s:Ic) (Q:Ia->Ic->Prop) (E:Ia->Ic->Prop),Q (.bool (g i j)) s->II (model X.prog X.w) X.A (f (.int i t) (.int j u)) Q E s):
 k8 X f (A7 λi j=>.bl (g i j)):=by
 intro aa s σ H x y v u Q I rx ry h;obtain⟨i,j,rfl,rfl,q⟩:=h
 obtain⟨t,rfl⟩:=rx
 obtain⟨t',rfl⟩:=ry
 exact rule i j t t' s _ _ ⟨.bl (g i j),H,I,rfl,q⟩
def FY(i j:Int):Prop:=0<=j/\j<=1000000/\i.natAbs<2^64
theorem xN:k8 X (LI .Add) (A7 λi j=>.int (i+j)):=EW λ_ _ _ _ _ _ _ q=>add_int q
theorem yi:k8 X (LI .Sub) (A7 λi j=>.int (i-j)):=EW λ_ _ _ _ _ _ _ q=>sub_int q
theorem Dd:k8 X (LI .Mod) (rI (λ_ j=>0<j) λi j=>.int (i % j)):=Gg λi j _ _ _ _ _ hc q=>by
 have h1:(0:Int)<j:=hc
 exact mod_int' (by omega) (by rw[Int.fmod_eq_emod_of_nonneg i (by omega)];exact q)
theorem DN:k8 X (LI .Pow) (rI FY λi j=>.int (i^j.toNat)):=Gg λ_ _ _ _ _ _ _ hc q=>pow_int_small hc.1 hc.2.1 hc.2.2 q
theorem HI {f:Ia->Sem Ia}{g:Int->Int}
 (rule: ∀(i:Int) (t:Tok) (s:Ic) (Q:Ia->Ic->Prop) (E:Ia->Ic->Prop),Q (.int (g i) s.toks) {s with toks:=s.toks+1}->II (model X.prog X.w) X.A (f (.int i t)) Q E s):
 Hh X f (rU λi=>.int (g i)):=by
 intro aa s σ H x v Q I rx h;obtain⟨i,rfl,q⟩:=h
 obtain⟨t,rfl⟩:=rx
 exact rule i t s _ _ ⟨.int (g i),H,I.tok _,⟨_,rfl⟩,q⟩
theorem Ee:Hh X (unaryOp .USub) (rU λi=>.int (-i)):=HI λ_ _ _ _ _ q=>neg_int q
end
section
variable {X:Cx}{a b c:Expr}{ta tb tc:TE}{pos:Pos}
theorem vO:k8 X (L5 .Lt) (A7 λi j=>.bl (decide (i<j))):=EE λ_ _ _ _ _ _ _ q=>lt_int q
theorem CC:k8 X (L5 .Gt) (A7 λi j=>.bl (decide (j<i))):=EE λ_ _ _ _ _ _ _ q=>gt_int q
theorem ET:k8 X (L5 .GtE) (A7 λi j=>.bl (decide (j<=i))):=EE λ_ _ _ _ _ _ _ q=>ge_int q
theorem bU(b:Expr){op:WR}(h:op≠ .In:=by decide)(h2:op≠ .NotIn:=by decide):Mc op b=false:=by
 have e1:(op==CmpOp.In)=false:=by cases op<;>first|rfl|exact absurd rfl h
 have e2:(op==CmpOp.NotIn)=false:=by cases op<;>first|rfl|exact absurd rfl h2
 cases b<;>simp[Mc,e1,e2]
theorem Bk {op:WR}{r:R2}(ho:k8 X (L5 op) r)(ha:PE X a ta)(hb:PE X b tb)(hm:Mc op b=false):PE X (.Compare a [op] [b] pos) (EI r ta tb):=by
 intro aa s σ H Q I h;exact wpAny_Compare1 (D7 ha hb I h λv u s2 x y H2 I2 rx ry q=>ho aa s2 σ H2 x y v u Q I2 rx ry q) hm
def Gb(t:TE):TT:=λσ H Q=>t σ H λx H'=> ∃k,x=.bl k/\Q k H'
theorem BI {op:WR}{r:R2}(ho:k8 X (L5 op) r)(ha:PE X a ta)(hb:PE X b tb)(hm:Mc op b=false):PT X (.Compare a [op] [b] pos) (Gb (EI r ta tb)):=by
 intro aa s σ H Q I h;refine wpAny_isTrue_Compare1 (bm (ha aa s σ H _ I h) λv s1 ⟨x,H1,I1,r1,q1⟩=>bm (hb aa s1 σ H1 _ I1 q1) λu s2 ⟨y,H2,I2,r2,q2⟩=>
  bm (ho aa s2 σ H2 x y v u _ I2 r1 r2 q2) λc s3 ⟨z,H3,I3,r3,k,e,q3⟩=>?_) hm
 subst e;cases r3
 exact LQ ⟨H3,I3,q3⟩
def DR(K:Il)(x:V)(H:Hp)(k:Bool):Prop:=
 match x with
 | .non=>k=false
 | .bl b=>k=b
 | .int i=>k=(i !=0)
 | .str y=>y.length<=Iy/\k=((y.length:Int) !=0)
 | .byt y=>y.size<=Iy/\k=((y.size:Int) !=0)
 | .ref p=>(∃xs,SqL K H p xs/\k= !xs.isEmpty)\/(∃xs,SqT K H p xs/\k= !xs.isEmpty)\/ ∃kvs,H p=some (.dK kvs)/\k= !kvs.isEmpty
 |_=>False
theorem tX {κ:Type}{kvs:List (κ×V)}{vs:List (κ×Ia)}(r:KV kvs vs):(!vs.isEmpty)= !kvs.isEmpty:=by
 cases r<;>rfl
theorem lL {xs:List V}{its:List Ia}(r:Vals xs its):(!its.toArray.isEmpty)= !xs.isEmpty:=by
 cases r<;>simp
theorem kL:(Iy:Nat)<2^63:=by rw[JY];decide
theorem Eh:G7 X (λx H Q=> ∃k,DR X.K x H k/\Q k H):=by
 intro aa s σ H x v Q I rx h;obtain⟨k,e,q⟩:=h
 have hl:=kL
 have hs:Iy=16777216:=JY
 cases x with
 |non=>
  cases rx
  have e':k=false:=e
  subst e';exact truthy_none ⟨H,I,q⟩
 |bl b=>
  cases rx
  have e':k=b:=e
  subst e';exact LQ ⟨H,I,q⟩
 |int i=>
  obtain⟨t,rfl⟩:=rx
  have e':k=(i !=0):=e
  subst e';exact PySem.P.truthy_int ⟨H,I,q⟩
 |str y=>
  obtain⟨t,rfl⟩:=rx
  obtain⟨hy,e'⟩:y.length<=Iy/\k=((y.length:Int) !=0):=e
  subst e';exact PySem.P.truthy_str (by omega) ⟨H,I.tok _,q⟩
 |byt y=>
  obtain⟨t,rfl⟩:=rx
  obtain⟨hy,e'⟩:y.size<=Iy/\k=((y.size:Int) !=0):=e
  subst e';exact W.truthy_bytes (by omega) ⟨H,I.tok _,q⟩
 |ref p=>
  cases rx
  have e':(∃xs,SqL X.K H p xs/\k= !xs.isEmpty)\/(∃xs,SqT X.K H p xs/\k= !xs.isEmpty)\/ ∃kvs,H p=some (.dK kvs)/\k= !kvs.isEmpty:=e
  rcases e' with⟨xs,hx,e'⟩|⟨xs,hx,e'⟩|⟨kvs,hx,e'⟩
  ·subst e'
   obtain⟨its,r,pl,hz⟩:=I.list hx
   have hlen:=r.length
   exact wpAny_truthy_list pl.isList (by simp only[IF];omega) ⟨H,I.tok _,by rw[lL r];exact q⟩
  ·subst e'
   obtain⟨its,r,pl,hz⟩:=I.tuple hx
   have hlen:=r.length
   exact truthy_tuple pl (by simp only[IF];omega) ⟨H,I.tok _,by rw[lL r];exact q⟩
  ·subst e'
   obtain⟨hz,hS,vs,r,m⟩:kvs.length<=Iy/\(p==Kn)=false/\ ∃vs,KV kvs vs/\s.heap.DictOf (aZ X.prog X.w) p vs:=I.hok p _ hx
   have hlen:kvs.length=vs.length:=Ll r
   exact wpAny_truthy_dict hS m (by omega) ⟨H,I.tok _,by rw[tX r];exact q⟩
 |_=>exact(show False from e).elim
theorem z7(ha:PE X a ta)(he: ∀whole,isTrue a X.env whole=(do let v <-whole;NH a.pos;NG [v] (truthy v))):
 PT X a (λσ H Q=>ta σ H λx H'=> ∃k,DR X.K x H' k/\Q k H'):=by
 intro aa s σ H Q I h;exact isTrue_plain (bm (ha aa s σ H _ I h) λv s1 ⟨x,H1,I1,r1,q1⟩=>Eh aa s1 σ H1 x v Q I1 r1 q1) (he _)
theorem jc {x:V}{us:List Ia}(r:Vals [x] us): ∃u,us=[u]/\RelV x u:=by
 cases r with
 |cons r1 r2=>cases r2;exact⟨_,rfl,r1⟩
theorem Cp {x y:V}{us:List Ia}(r:Vals [x,y] us): ∃u w',us=[u,w']/\RelV x u/\RelV y w':=by
 cases r with
 |cons r1 r2=>
  cases r2 with
  |cons r3 r4=>cases r4;exact⟨_,_,rfl,r1,r3⟩
theorem rS:eG X (.builtin "abs") (λxs H Q=> ∃i,xs=[.int i]/\Q (.int (if i<0 then -i else i)) H):=by
 intro aa s σ H xs us Q I r h;obtain⟨i,rfl,q⟩:=h
 obtain⟨u,rfl,t,rfl⟩:=jc r
 exact call_abs_int λu tk=>⟨.int (if i<0 then -i else i),H,I.tok _,⟨_,rfl⟩,q⟩
theorem wQ(hc:X.calm=true):eG X (.builtin "min") (λxs H Q=> ∃i j,xs=[.int i,.int j]/\Q (.int (if j<i then j else i)) H):=by
 intro aa s σ H xs us Q I r h;obtain⟨i,j,rfl,q⟩:=h
 obtain⟨u,w',rfl,⟨t,rfl⟩,⟨t',rfl⟩⟩:=Cp r
 refine min_two_ints (I.ok.hd hc) λh' tk k=>⟨_,H,I.kept k,?_,q⟩
 by_cases hj:j<i
 ·rw[if_pos hj,if_pos hj];exact⟨_,rfl⟩
 ·rw[if_neg hj,if_neg hj];exact⟨_,rfl⟩
end
theorem RelO.some_of {v:V}{o:Option Ia}(r:RelO (some v) o): ∃u,o=some u/\RelV v u:=by
 cases o with
 |none=>exact(show False from r).elim
 |some u=>exact⟨u,rfl,r⟩
structure Room(k:Nat)(A:Jc):Prop where
 hd:A.handled=none
 dp:A.depth+3*k+5<Rh
 un:A.units+16*k+200<Ke
theorem Room.mono {j k:Nat}{A:Jc}(r:Room k A)(h:j<=k):Room j A:=⟨r.hd,by have:=r.dp;omega,by have:=r.un;omega⟩
theorem Room.deeper {k:Nat}{A:Jc}(r:Room (k+1) A)(env:Env):Room k (A.deeper env):=
 ⟨r.hd,by have:=r.dp;show A.depth+1+3*k+5<_;omega,by have:=r.un;show A.units+3+16*k+200<_;omega⟩
theorem Room.depth {k:Nat}{A:Jc}(r:Room k A):A.depth<recursionLimit:=by have:=r.dp;omega
theorem Room.units {k:Nat}{A:Jc}(r:Room k A):A.units+64<cLine:=by have:=r.un;omega
def BD:TA:=λ_ H Q=>Q [] H
def FU(ta:TE)(tr:TA):TA:=λσ H Q=>ta σ H λx H1=>tr σ H1 λxs H2=>Q (x::xs) H2
section
variable {X:Cx}{e:Expr}{es:List Expr}{te:TE}{t:TA}{pos:Pos}
theorem cy:PA X [] BD:=λ_ _ _ _ H Q I h=>NI ⟨[],H,I,.nil,h⟩
theorem be(ha:PE X e te)(hr:PA X es t)(hs:Iu (e::es) X.env=(false,eval e X.env)::Iu es X.env:=by rfl):PA X (e::es) (FU te t):=by
 intro pos aa s σ H Q I h;rw[hs];show II _ _ (spliced ((false,eval e X.env)::Ko pos (Iu es X.env))) _ _ s;refine Ly (bm (ha aa s σ H _ I h) λu s1 hq_=>?_)
 obtain⟨x,H1,I1,r1,q1⟩:=hq_
 exact bm (hr pos aa s1 σ H1 _ I1 q1) λus s2 ⟨xs,H2,I2,r2,q2⟩=>⟨x::xs,H2,I2,.cons r1 r2,q2⟩
def AE(t:TA):TE:=λσ H Q=>t σ H λxs H1=>xs.length<=Iy/\ ∀p,H1 p=none->Q (.ref p) (aI H1 p (.tup xs))
def Gz(t:TA):TE:=λσ H Q=>t σ H λxs H1=>xs.length<=Iy/\ ∀p,H1 p=none->Q (.ref p) (aI H1 p (.lst xs))
theorem tS {x1}(h:PA X es t):PE X (.Tuple es x1 pos) (AE t):=by
 intro aa s σ H Q I hq;refine wpAny_Tuple_spliced (bm (h pos aa s σ H _ I hq) λus s1 ⟨xs,H1,I1,r,z,q⟩=>⟨by rw[<-r.length];exact z,?_⟩)
 have hf:H1 s1.heap.objs.size=none:=I1.hok.fresh (Ie _)
 refine⟨.ref s1.heap.objs.size,aI H1 s1.heap.objs.size (.tup xs),I1.laid (t':=s1.toks) (λb u e=>Ib _ e) (Ie _) ?_,rfl,q _ hf⟩
 exact⟨z,us,r,⟨_,Io _ rfl,rfl,_,rfl⟩,_,Io _ rfl,rfl⟩
theorem Ef(h:PA X es t):PE X (.List es pos) (Gz t):=by
 intro aa s σ H Q I hq;refine wpAny_List_spliced (bm (h pos aa s σ H _ I hq) λus s1 ⟨xs,H1,I1,r,z,q⟩=>⟨by rw[<-r.length];exact z,?_⟩)
 have hf:H1 s1.heap.objs.size=none:=I1.hok.fresh (Ie _)
 refine⟨.ref s1.heap.objs.size,aI H1 s1.heap.objs.size (.lst xs),I1.laid (t':=s1.toks) (λb u e=>Ib _ e) (Ie _) ?_,rfl,q _ hf⟩
 exact⟨z,us,0,r,Io _ rfl⟩
end
abbrev Sp:=List V->Hp->VK->XK->Prop
abbrev yq:=List Env->Hp->Ic->XK->Ia->Ic->Prop
structure Env0(P:IP)(w:Jo)(K:Il)(mg:Str->Option Ia)(base:Heap)(A:Jc)(outer:List Env)(s:Ic)(H:Hp):Prop where
 frames:A.frames=some outer
 mod:Mod K mg base
 bs: ∀b o,base.get? b=some o->s.heap.get? b=some o/\H b=none
 bsz:base.objs.size<=s.heap.objs.size
 funs:s.heap.FunFrames base outer
 frf: ∀b∈frs outer,H b=none
 hok:HOk P w H s.heap
 bare:Mv s.gens
def CE(outer:List Env)(P:IP)(w:Jo)(H:Hp)(s:Ic)(Q:VK)(u:Ia)(s':Ic):Prop:=
 ∃v H',s'.os=s.os/\Mv s'.gens/\Un (frs outer) [] H H' s.heap s'.heap/\HOk P w H' s'.heap/\RelV v u/\Q v H'
def CR(CX:yq)(outer:List Env)(P:IP)(w:Jo)(H:Hp)(s:Ic)(Q:VK)(E:XK)(r:Nm)(s':Ic):Prop:=
 match r with
 | .ok (.ret u)=>CE outer P w H s Q u s'
 | .ok _=>False
 | .error e=>CX outer H s E e s'
structure FnOk(P:IP)(w:Jo)(K:Il)(mg:Str->Option Ia)(base:Heap)(CX:yq)(k:Nat)(f:Addr)(fd:K6)(ps:List Str)(sp:Sp):Prop where
 len: ∀vs H Q E,sp vs H Q E->vs.length=ps.length
 run: ∀(A:Jc) (outer:List Env) (s:Ic) (H:Hp) (args:Args) (us:List Ia) (vs:List V) (Q:VK) (E:XK),Room k A->Env0 P w K mg base A outer s H->P2 s fd args (ps.zip us)->Vals vs us->sp vs H Q E->
  KZ (model P w) A (.call (.ref f) args) (CR CX outer P w H s Q E) s
theorem FnOk.imp {P:IP}{w:Jo}{K:Il}{mg:Str->Option Ia}{base:Heap}{CX:yq}{k:Nat}{f:Addr}{fd:K6}{ps:List Str}{sp sp':Sp}(F:FnOk P w K mg base CX k f fd ps sp)
 (h: ∀vs H Q E,sp' vs H Q E->sp vs H Q E):FnOk P w K mg base CX k f fd ps sp':=
 ⟨λvs H Q E q=>F.len vs H Q E (h _ _ _ _ q),λA outer s H args us vs Q E hr he hb hv hs=>F.run A outer s H args us vs Q E hr he hb hv (h _ _ _ _ hs)⟩
section
variable {X:Cx}{aa:List (Addr×Obj)}{σ:St}{H:Hp}{s s':Ic}
theorem Inv.env0(I:Inv X aa σ H s):Env0 X.prog X.w X.K X.mg X.base X.A X.stack s H:=
 ⟨I.ok.frames,I.ok.mod,I.bs,Jk I.ok.bsz I.sz,I.stack,I.stkFree,I.hok,I.bare⟩
theorem Inv.after {Q:VK}{u:Ia}(I:Inv X aa σ H s)(h:CE X.stack X.prog X.w H s Q u s'):EP X aa σ Q u s':=by
 obtain⟨v,H',os,bare,un,hok,r,q⟩:=h
 obtain⟨hh,g,d,t,os'⟩:=s'
 obtain rfl:os'=s.os:=os
 exact⟨v,H',I.call (h':=hh) (g':=g) (d':=d) (t':=t) (ch:=[]) un hok bare (λb z=>absurd z (by simp)),r,q⟩
end
def Cy(sp:Sp)(dvs:List V)(E:XK)(t:TA):TE:=λσ H Q=>t σ H λvs H1=>sp (vs++dvs) H1 Q E
def Binds(K:Il)(fd:K6)(ps:List Str)(ds:List Ia):Prop:=
 ∀(s:Ic) (us:List Ia),K.In s.heap->(us++ds).length=ps.length->P2 s fd ⟨us,[]⟩ (ps.zip (us++ds))
theorem Binds.all {K:Il}{fd:K6}{ps:List Str}(h: ∀us:List Ia,us.length=ps.length->Up fd ⟨us,[]⟩=pure (ps.zip us)):Binds K fd ps []:=λs us _ hl=>by
 rw[JF] at hl⊢;exact .of_eq (h us hl)
def tu(CX:yq)(X:Cx)(E:XK):Prop:= ∀(aa:List (Addr×Obj)) (σ:St) (H:Hp) (s:Ic) (e:Ia) (s':Ic),Inv X aa σ H s->CX X.stack H s E e s'->X.xe e s'
section
variable {X:Cx}{CX:yq}{k:Nat}{f C:Addr}{fd:K6}{ps:List Str}{sp:Sp}{dvs:List V}{ds:List Ia}{E:XK}{x m:Str}{p pos apos:Pos}{e o:Expr}{es:List Expr}{ta:TE}{t:TA}
theorem EC {aa:List (Addr×Obj)}{σ:St}{H:Hp}{s:Ic}{Q:VK}{us:List Ia}{vs:List V}(F:FnOk X.prog X.w X.K X.mg X.base CX k f fd ps sp)(hr:Room k X.A)(hb:Binds X.K fd ps ds)(hd:Vals dvs ds)(hx:tu CX X E)
 (I:Inv X aa σ H s) (r:Vals vs us) (h:sp (vs++dvs) H Q E):II (model X.prog X.w) X.A (call (.ref f) us) (EP X aa σ Q) X.xe s:=by
 have r2:Vals (vs++dvs) (us++ds):=r.append hd
 have hl:(us++ds).length=ps.length:=by rw[<-r2.length];exact F.len _ _ _ _ h
 refine wpAny_call (L6 (F.run X.A X.stack s H ⟨us,[]⟩ (us++ds) (vs++dvs) Q E hr I.env0 (hb s us I.kIn hl) r2 h) λr s' hq=>?_)
 cases r with
 |error e=>exact hx aa σ H s e s' I hq
 |ok fl=>
  cases fl with
  |ret u=>exact I.after hq
  |next=>exact False.elim hq
  |brk=>exact False.elim hq
  |cont=>exact False.elim hq
theorem iX(F:FnOk X.prog X.w X.K X.mg X.base CX k f fd ps sp)(hr:Room k X.A)(hg:Gl X x)(hm:X.mg x=some (.ref f))(hk:Nn X.K (.ref f)=true)(hb:Binds X.K fd ps ds)(hd:Vals dvs ds)(hx:tu CX X E)
 (ha:PA X (e::es) t) (hdb:(x==("__debug__":Str))=false:=by decide) (he:Iu (e::es) X.env=(false,eval e X.env)::Iu es X.env:=by rfl) (hpl:(Ko pos (Iu es X.env)).any (·.1)=false:=by rfl):
 PE X (.Call (.Name x p) (e::es) [] pos) (Cy sp dvs E t):=by
 intro aa s σ H Q I h;refine No (B0 I hg hm ?_ hdb)
 refine W.callWith_K (h₀:=X.base) I.ok.mod.kin hk (bm (ha pos aa s σ H _ I h) λus s1 ⟨vs,H1,I1,r,q⟩=>⟨I1.kIn,?_⟩) he hpl
 exact EC F hr hb hd hx I1 r q
end
structure FnScope(N P:List Str)(sc:KO):Prop where
 kind:sc.kind=.function
 co:sc.isCoroutine=false
 gen:sc.isGenerator=false
 nd:N.Nodup
 pre:N.take P.length=P
 par: ∀x∈P,sc.names.lookup x=some .local\/sc.names.lookup x=some .cell
 nofree: ∀y∈sc.names,y.2≠ .free
theorem nY {kindOf:Str->Option KW}{x:Str}: ∀ {binds:List (Str×Ia)} {m:Str->Option Ia},(∀v,(x,v)∉binds)->Ri kindOf binds m x=m x
 | [],_,_=>rfl
 |(n,v)::r,m,h=>by
  unfold Ri;rw[nY λw hw=>h w (Ii _ hw)]
  split
  ·have:x≠n:=by rintro rfl;exact h v Is
   simp[this]
  ·rfl
theorem oI {kindOf:Str->Option KW}{x:Str}: ∀ {binds:List (Str×Ia)} {m:Str->Option Ia},(∀v,(x,v)∉binds)->Rj kindOf binds m x=m x
 | [],_,_=>rfl
 |(n,v)::r,m,h=>by
  unfold Rj;rw[oI λw hw=>h w (Ii _ hw)]
  split
  ·rfl
  ·have:x≠n:=by rintro rfl;exact h v Is
   simp[this]
theorem og {kindOf:Str->Option KW}{x:Str}{v:Ia}: ∀ {P:List Str} {vs:List Ia} {i:Nat} {m:Str->Option Ia},P.Nodup->P[i]? =some x->vs[i]? =some v->kindOf x=some .local->
 Ri kindOf (P.zip vs) m x=some v
 | [],_,_,_,_,h,_,_=>by simp at h
 |_::_,[],_,_,_,_,h,_=>by simp at h
 |p::P,w::vs,0,m,nd,h1,h2,hk=>by
  simp at h1 h2;subst h1;subst h2;show Ri kindOf ((p,w)::P.zip vs) m p=_;unfold Ri;rw[nY λv hv=>(Jq.mp nd).1 (M8 hv).1,if_pos hk]
  simp
 |p::P,w::vs,i+1,m,nd,h1,h2,hk=>by
  show Ri kindOf ((p,w)::P.zip vs) m x=_;unfold Ri;exact og (i:=i) (Jq.mp nd).2 (by simpa using h1) (by simpa using h2) hk
theorem oG {kindOf:Str->Option KW}{x:Str}{v:Ia}: ∀ {P:List Str} {vs:List Ia} {i:Nat} {m:Str->Option Ia},P.Nodup->P[i]? =some x->vs[i]? =some v->kindOf x≠some .local->
 Rj kindOf (P.zip vs) m x=some v
 | [],_,_,_,_,h,_,_=>by simp at h
 |_::_,[],_,_,_,_,h,_=>by simp at h
 |p::P,w::vs,0,m,nd,h1,h2,hk=>by
  simp at h1 h2;subst h1;subst h2;show Rj kindOf ((p,w)::P.zip vs) m p=_;unfold Rj;rw[oI λv hv=>(Jq.mp nd).1 (M8 hv).1,if_neg hk]
  simp
 |p::P,w::vs,i+1,m,nd,h1,h2,hk=>by
  show Rj kindOf ((p,w)::P.zip vs) m x=_;unfold Rj;exact oG (i:=i) (Jq.mp nd).2 (by simpa using h1) (by simpa using h2) hk
def eC(N:List Str)(vs:List V):St:=vs.map some++Im (N.length-vs.length) none
def lq(CX:yq)(P:IP)(w:Jo)(K:Il)(mg:Str->Option Ia)(base:Heap)(N:List Str)(qual:Str)(scope:KO)(f:Addr)(cd:Ia)(A:Jc)(outer:List Env)(s:Ic)(H:Hp)(E:XK):Cx where
 prog:=P
 w:=w
 K:=K
 mg:=mg
 base:=base
 A:=A.deeper (Mw qual scope s.heap.objs.size f cd)
 N:=N
 s₀:=s
 H₀:=H
 env:=Mw qual scope s.heap.objs.size f cd
 outer:=outer
 stack:=Mw qual scope s.heap.objs.size f cd::outer
 ex:=[]
 calm:=true
 fn:=λ_=>true
 pn:=[]
 xe:=λe s'=>II (model P w) (A.deeper (Mw qual scope s.heap.objs.size f cd)) (leaving (Mw qual scope s.heap.objs.size f cd) e) (λ_ s''=>CX outer H s E e s'') (λe' s''=>CX outer H s E e' s'') s'
theorem rm {sc:KO}{n:Nat}{x:Str}(h:sc.names.lookup x=some .cell): ∃c,(KA n sc.names []).lookup x=some c:=by
 have q:=Qq sc.names n [] (.inl h)
 exact Option.isSome_iff_exists.mp q
theorem xI {CX:yq}{P:IP}{w:Jo}{K:Il}{mg:Str->Option Ia}{base:Heap}{N ps:List Str}{qual:Str}{scope:KO}{f:Addr}{cd:Ia}{A:Jc}{outer:List Env}{s s1:Ic}{H:Hp}{E:XK}{us:List Ia}{vs:List V}
 (S:FnScope N ps scope) (hd:A.handled=none) (e0:Env0 P w K mg base A outer s H) (hl:vs.length=ps.length) (r:Vals vs us)
 (x:InCallC s s.heap.objs.size (Ri (Mw qual scope s.heap.objs.size f cd).kindOf (ps.zip us) λ_=>none) (KA (s.heap.objs.size+1) scope.names []) (Rj (Mw qual scope s.heap.objs.size f cd).kindOf (ps.zip us) λ_=>none) s1):
 Inv (lq CX P w K mg base N qual scope f cd A outer s H E) [] (eC N vs) H s1:=by
 have hpl:ps.length<=N.length:=by have:=congrArg LY S.pre;rw[L7] at this;omega
 obtain⟨h1,tk,rfl,hk⟩:=x.done
 have noA: ∀b:Addr,b∉(lq CX P w K mg base N qual scope f cd A outer s H E).ex:=λb z=>absurd (show b∈([]:List Addr) from z) (by simp)
 refine⟨⟨e0.mod,S.kind,rfl,rfl,Ie _,λy z c h1 h2=>?_,λy hy=>?_,λy c _ h=>?_,λ_=>hd,Around.frames_deeper e0.frames,.inr ⟨rfl,rfl⟩,λb z=>absurd z (noA b),e0.bs,e0.bsz,λb _ _=>noA b,λb z=>absurd z (noA b),e0.funs,e0.frf⟩,
  rfl,e0.bare,Un.kept hk,⟨_,x.toInCall.ns,λi y v h1 h2 h3=>?_⟩,λy c h=>⟨_,x.cell y c h⟩,e0.hok.fresh (Ie _),λy c h=>?_,λp hp=>absurd (show p∈([]:List (Addr×Obj)) from hp) (by simp),e0.hok.kept hk,?_⟩
 ·exact name_of_addr x.apart (Jy h1) (Jy h2)
 ·have hy:scope.names.lookup y=some .cell\/scope.names.lookup y=some .free:=hy
  rcases hy with hy|hy
  ·exact rm hy
  ·exact absurd rfl (S.nofree _ (Jy hy))
 ·exact Le (x.above y c (Jy h))
 ·have hi:i<vs.length:=by
   unfold eC at h2
   by_cases hi:i<vs.length
   ·exact hi
   ·rw[IX (by simpa using hi)] at h2
    rw[Jj] at h2;split at h2<;>cases h2
  have ha:vs[i]? =some v:=by
   unfold eC at h2;rw[Jg (by simpa using hi),Jd] at h2
   cases e:vs[i]? with
   |none=>rw[e] at h2;cases h2
   |some a=>rw[e] at h2;cases h2;rfl
  obtain⟨u,hu,rv⟩:=r.get ha
  have hp:ps[i]? =some y:=by
   rw[<-S.pre,Ln (by omega)];exact h1
  have ndP:ps.Nodup:=by rw[<-S.pre];exact S.nd.sublist (LR _ _)
  refine⟨u,rv,?_⟩
  rcases S.par y (KJ hp) with k|k
  ·exact .inl ⟨k,og ndP hp hu k⟩
  ·obtain⟨c,e⟩:=rm (n:=s.heap.objs.size+1) k
   refine .inr ⟨.inl k,c,e,?_⟩
   have q:=x.cell y c e
   rw[oG ndP hp hu (by show scope.names.lookup y≠_;rw[k];decide)] at q
   exact q
 ·exact e0.hok.fresh (Le (x.above y c (Jy h)))
 ·unfold eC
  show _=N.length;rw[Jf,Ir,OP];omega
theorem ES {CX:yq}{P:IP}{w:Jo}{K:Il}{mg:Str->Option Ia}{base:Heap}{k:Nat}{f:Addr}{name qual:Str}{params:Arguments}{body:List Stmt}{scope:KO}{dV kV doc pm cdv ct oc:Ia}{an od:Option Addr}
 {osl:Array (Option Ia)} {N ps:List Str} {sp:Sp} (lk:K.lookup f=some ⟨oc,od,.func (Op name qual params body scope dV kV doc pm an cdv ct),osl⟩) (hcd:P3 K cdv qual=true) (S:FnScope N ps scope)
 (len: ∀vs H Q E,sp vs H Q E->vs.length=ps.length)
 (hbody: ∀(A:Jc) (outer:List Env) (s:Ic) (H:Hp) (vs:List V) (Q:VK) (E:XK),Room k (A.deeper (Mw qual scope s.heap.objs.size f cdv))->sp vs H Q E->
   ∃t,PSs (lq CX P w K mg base N qual scope f cdv A outer s H E) body t/\t {nx:=λ_ H'=>Q .non H',rt:=Q} (eC N vs) H):
 FnOk P w K mg base CX (k+1) f (Op name qual params body scope dV kV doc pm an cdv ct) ps sp:=by
 refine⟨len,λA outer s H args us vs Q E hr e0 hb r hsp=>?_⟩
 have hl:=len _ _ _ _ hsp
 have KX:K.In s.heap:=e0.mod.kin.keeps λb o e=>(e0.bs b o e).1
 have lim:s.heap.NoLimit:=e0.mod.nolimit.keeps λb o e=>(e0.bs b o e).1
 have hkind: ∀y∈ps.zip us,scope.names.lookup y.1=some .local\/(scope.names.lookup y.1=some .cell/\((KA (s.heap.objs.size+1) scope.names []).lookup y.1).isSome=true):=λ⟨n,v⟩ hy=>by
  rcases S.par n (M8 hy).1 with q|q
  ·exact .inl q
  ·exact .inr ⟨q,Qq _ _ _ (.inl q)⟩
 refine codeAny_call_function hr.depth (KX _ _ lk) rfl S.co S.gen rfl (W.codeRec_of KX hcd) (hb _ _ _ _ ?_)
 refine wpAny_newFunctionEnv_cells S.kind hkind λenv he s1 x=>?_
 subst he;refine⟨lim.keeps x.toInCall.keep,codeAny_func ?_⟩
 obtain⟨t,ht,hq⟩:=hbody A outer s H vs Q E (hr.deeper _) hsp
 have I:Inv (lq CX P w K mg base N qual scope f cdv A outer s H E) [] (eC N vs) H s1:=xI S hr.hd e0 hl r x
 refine Ji (ht [] s1 (eC N vs) H _ I hq) (λfl s' hs=>?_) λe s' hs=>hs
 have fin: ∀ {σ':St} {H':Hp} {v:V} {u:Ia},Inv (lq CX P w K mg base N qual scope f cdv A outer s H E) [] σ' H' s'->RelV v u->Q v H'->CE outer P w H s Q u s':=
  λ{σ' H' v u} J rv q=>⟨v,H',J.os,J.bare,J.base,J.hok,rv,q⟩
 cases fl with
 |ret u=>
  obtain⟨v,σ',H',J,rv,q⟩:=hs
  exact fin J rv q
 |next=>
  obtain⟨σ',H',J,q⟩:=hs
  exact fin (v:=V.non) (u:=Jm) J rfl q
 |brk=>
  obtain⟨_,_,_,q⟩:=hs
  exact False.elim q
 |cont=>
  obtain⟨_,_,_,q⟩:=hs
  exact False.elim q
section
variable {X:Cx}{x:Str}{p pos:Pos}{e:Expr}{es:List Expr}{t:TA}{id T:String}{r:List V->Hp->VK->Prop}
def GS(r:List V->Hp->VK->Prop)(t:TA):TE:=λσ H Q=>t σ H λvs H1=>r vs H1 Q
theorem mO(hc:eG X (.builtin id) r)(hg:Gl X x)(hm:X.mg x=none)(hv:J5 x=some (.builtin id))(ha:PA X (e::es) t)(hn:x≠"__name__":=by decide)(hdb:(x==("__debug__":Str))=false:=by decide)
 (he:Iu (e::es) X.env=(false,eval e X.env)::Iu es X.env:=by rfl) (hpl:(Ko pos (Iu es X.env)).any (·.1)=false:=by rfl):PE X (.Call (.Name x p) (e::es) [] pos) (GS r t):=by
 intro aa s σ H Q I h;refine No (jo I hg hm hv ?_ hn hdb)
 exact Qr (bm (ha pos aa s σ H _ I h) λus s1 ⟨vs,H1,I1,r1,q1⟩=>hc aa s1 σ H1 vs us Q I1 r1 q1) he hpl
theorem fU(hc:eG X (.type T) r)(hg:Gl X x)(hm:X.mg x=none)(hv:J5 x=some (.type T))(ha:PA X (e::es) t)(hn:x≠"__name__":=by decide)(hdb:(x==("__debug__":Str))=false:=by decide)
 (he:Iu (e::es) X.env=(false,eval e X.env)::Iu es X.env:=by rfl) (hpl:(Ko pos (Iu es X.env)).any (·.1)=false:=by rfl):PE X (.Call (.Name x p) (e::es) [] pos) (GS r t):=by
 intro aa s σ H Q I h;refine No (jo I hg hm hv ?_ hn hdb)
 exact Kt (bm (ha pos aa s σ H _ I h) λus s1 ⟨vs,H1,I1,r1,q1⟩=>hc aa s1 σ H1 vs us Q I1 r1 q1) he hpl
end
end L2
namespace HT
open PySem PyProof.Rows
section
variable {prog:IP}{w:Jo}{A:Jc}{E:Ia->Ic->Prop}{s:Ic}
theorem cat_tup {t b:Addr}{vs ws:List Ia}{Q:Ia->Ic->Prop}(ht:Ug s.heap t vs.toArray)(hb:Ug s.heap b ws.toArray)(hv:vs≠[])
 (h1:ws=[]->Q (.ref t) s) (h2:ws≠[]->Q (.ref s.heap.objs.size) {s with heap:=s.heap.push {cls:=.type "tuple",data:=.seq (vs++ws).toArray}})
 (hsz:vs.length+ws.length<=Iy):II (model prog w) A (LI .Add (.ref t) (.ref b)) Q E s:=by
 obtain⟨⟨cls,dd,data,sl⟩,ho,hc,n,hd⟩:=id ht
 obtain⟨⟨cls2,dd2,data2,sl2⟩,ho2,hc2,n2,hd2⟩:=id hb
 simp only at hc hd hc2 hd2;subst hc hd hc2 hd2;have e:vs.toArray++ws.toArray=(vs++ws).toArray:=by simp
 by_cases hw:ws=[]
 ·exact P4 ⟨_,ho,rfl⟩ ⟨_,ho2,rfl⟩ Qs R0 Oq N3 (NV _ _)
   (tuple_addW1 t b vs.toArray ws.toArray n n2 dd dd2 sl sl2 (by simpa using hv) (by simp[hw])) ⟨ho,ho2,h1 hw⟩
 ·refine P4 ⟨_,ho,rfl⟩ ⟨_,ho2,rfl⟩ Qs R0 Oq N3 (NV _ _)
   (tuple_addW2 t b vs.toArray ws.toArray n n2 dd dd2 sl sl2 (by simpa using hv) (by simpa using hw) (by rw[IF,IF];exact hsz)) ⟨ho,ho2,?_⟩
  rw[e];exact h2 hw
def sIx(n d:Nat):Option Int->Nat
 |none=>d
 |some v=>if v<0 then(v+(n:Int)).toNat else min v.toNat n
theorem sIx_none(n d:Nat):sIx n d none=d:=rfl
theorem sIx_nat(n d k:Nat):sIx n d (some (k:Int))=min k n:=by
 show(if(k:Int)<0 then((k:Int)+(n:Int)).toNat else min (k:Int).toNat n)=min k n
 rw[if_neg (by omega),KP]
theorem Ev(n d:Nat)(hd:d<=n)(o:Option Int):sIx n d o<=n:=by
 cases o with
 |none=>exact hd
 |some v=>
  show(if v<0 then(v+(n:Int)).toNat else min v.toNat n)<=n
  by_cases hv:v<0
  ·rw[if_pos hv];omega
  ·rw[if_neg hv];exact Nat.min_le_right _ _
theorem vt(v:Int)(n d:Nat):(if v<0 then max (v+(n:Int)) 0 else min v (n:Int))=((sIx n d (some v):Nat):Int):=by
 show(if v<0 then max (v+(n:Int)) 0 else min v (n:Int))=(((if v<0 then(v+(n:Int)).toNat else min v.toNat n):Nat):Int)
 by_cases hv:v<0
 ·simp only[if_pos hv];omega
 ·simp only[if_neg hv];omega
theorem uj(lo hi:Option Int)(n:Nat):L9 lo hi 1 (n:Int)=(((sIx n 0 lo:Nat):Int),((sIx n n hi:Nat):Int)):=by
 have h1: ¬((1:Int)<0):=by omega
 unfold L9;simp only[h1,if_false];refine Prod.ext ?_ ?_
 ·cases lo with
  |none=>rfl
  |some v=>exact vt v n 0
 ·cases hi with
  |none=>rfl
  |some v=>exact vt v n n
theorem tL(i j:Nat):K9 (i:Int) (j:Int) 1=j-i:=by
 unfold K9;have h1:(1:Int)>0:=by omega
 simp only[h1,if_true,SQ];split<;>omega
theorem mL {v:Ia}{o:Option Int}{Q:Option Int->Ic->Prop}(p:Os v o)(h:Q o s):II (model prog w) A (QX v) Q E s:=by
 cases p with
 |none=>exact Rl h
 |int i t=>exact slicePart_int h
theorem fW {sl:Addr}{vl vu:Ia}{lo hi:Option Int}{n:Nat}{Q:Int×Int×Nat->Ic->Prop}(hs:s.heap.IsSliceOf sl vl vu .none)(pl:Os vl lo)(pu:Os vu hi)
 (h:Q (((sIx n 0 lo:Nat):Int),1,sIx n n hi-sIx n 0 lo) s):II (model prog w) A (Np (.ref sl) (pure (n:Int))) Q E s:=by
 obtain⟨os,hos,hcs,hds⟩:=id hs
 unfold Np RL;refine HZ (HZ (KC hos hds (x:=vl) rfl (HZ (KC hos hds (x:=vu) rfl (HZ (KC hos hds (x:=.none) rfl (Ih ?_)))))))
 refine HZ (Rl ?_)
 show II _ _ (if((1:Int)==0)=true then _ else _) _ _ s
 rw[if_neg (by decide)]
 refine HZ (mL pl (HZ (mL pu (HZ (Ih ?_)))))
 show II _ _ (match L9 lo hi 1 (n:Int) with|(lo,hi)=>pure (lo,(1:Int),K9 lo hi 1)) _ _ s
 rw[uj lo hi n];show II _ _ (pure (((sIx n 0 lo:Nat):Int),(1:Int),K9 ((sIx n 0 lo:Nat):Int) ((sIx n n hi:Nat):Int) 1)) _ _ s;rw[tL];exact Ih h
theorem yj(xs:Array Ia)(i k:Nat):((Iz k).filterMap λ(m:Nat)=>xs[((i:Int)+(m:Int)*1).toNat]?).toArray=((xs.toList.drop i).take k).toArray:=by
 have e:(λ(m:Nat)=>xs[((i:Int)+(m:Int)*1).toNat]?)=λm=>xs[i+m]? :=by
  funext m;have:((i:Int)+(m:Int)*1).toNat=i+m:=by omega
  rw[this]
 rw[e];have:=pick_run xs i k
 rw[List.filterMap_map] at this;have e2:((λx=>xs[x]?)∘λx=>i+x)=λm=>xs[i+m]? :=rfl
 rw[e2] at this;rw[this]
theorem getItem_tuple_cut {t sl:Addr}{items:Array Ia}{vl vu:Ia}{lo hi:Option Int}{Q:Ia->Ic->Prop}(ht:Ug s.heap t items)(hs:s.heap.IsSliceOf sl vl vu .none)(pl:Os vl lo)(pu:Os vu hi)
 (hw: ¬(sIx items.size 0 lo=0/\sIx items.size items.size hi=items.size))
 (h:Q (.ref s.heap.objs.size) {s with heap:=s.heap.push {cls:=.type "tuple",data:=.seq ((items.toList.drop (sIx items.size 0 lo)).take (sIx items.size items.size hi-sIx items.size 0 lo)).toArray}})
 (hsz:items.size<=Iy):II (model prog w) A (MY (.ref t) (.ref sl)) Q E s:=by
 have htake:sizeOk (.seq ((items.toList.drop (sIx items.size 0 lo)).take (sIx items.size items.size hi-sIx items.size 0 lo)).toArray):=by
  show((items.toList.drop (sIx items.size 0 lo)).take (sIx items.size items.size hi-sIx items.size 0 lo)).toArray.size<=Iy;rw[IF,L7,N4,IW];omega
 have hj:sIx items.size items.size hi<=items.size:=Ev _ _ (Ie _) hi
 obtain⟨os,hos,hcs,hds⟩:=id hs
 have hTs:s.TypeIs (.ref sl) "slice":=⟨os,hos,hcs⟩
 unfold MY
 try with_reducible refine Kj ?_
 first|refine HZ (Ih ?_)|skip
 refine HZ (P5 ht.typeIs (by decide) ?_)
 refine HZ (JS (name:=Lz "__getitem__") ht.typeIs JM
  (JX JM ht.typeIs Pp ?_ (PP _ _)))
 show II _ _ (Nq (.ref t)>>=_) _ _ s;refine HZ (R5 ht ?_)
 refine HZ (Ot hTs ?_)
 rw[if_pos (by decide)]
 refine HZ (fW hs pl pu ?_)
 have hno: ¬((((sIx items.size 0 lo:Nat):Int)==0&&(1:Int)==1&&(sIx items.size items.size hi-sIx items.size 0 lo)==items.size)=true):=by
  intro q;rw[Jn,Jn] at q;have q1:((sIx items.size 0 lo:Nat):Int)=0:=eq_of_beq q.1.1
  have q2:sIx items.size items.size hi-sIx items.size 0 lo=items.size:=eq_of_beq q.2
  exact hw ⟨by omega,by omega⟩
 show II _ _ (if(((sIx items.size 0 lo:Nat):Int)==0&&(1:Int)==1&&(sIx items.size items.size hi-sIx items.size 0 lo)==items.size)=true then _ else _) _ _ s
 rw[if_neg hno,yj]
 first
  |exact HZ (m:=Kk _) (Jw (Ih ⟨_,rfl,Ih h⟩) htake)
  |exact HZ (m:=Kk _) (Jw (HZ (Ih (Ih ⟨_,rfl,Ih h⟩))) htake)
  |exact HZ (HZ (m:=Kk _) (Jw (Ih (Ih ⟨_,rfl,Ih h⟩)) htake))
  |exact HZ (HZ (m:=Kk _) (Jw (Ih ⟨_,rfl,Ih h⟩) htake))
end
end HT
namespace L2
open PySem PySem.Spec PyProof.Rows
abbrev TO:=St->Hp->(Option Int->Hp->Prop)->Prop
def PO(X:Cx)(e:Option Expr)(t:TO):Prop:=
 ∀(aa:List (Addr×Obj)) (s:Ic) (σ:St) (H:Hp) (Q:Option Int->Hp->Prop),Inv X aa σ H s->t σ H Q->
  II (model X.prog X.w) X.A (evalPart e X.env) (λu s'=> ∃o H',Inv X aa σ H' s'/\Os u o/\Q o H') X.xe s
def Bw:TO:=λ_ H Q=>Q none H
def FJ(t:TE):TO:=λσ H Q=>t σ H λx H1=> ∃i,x=.int i/\Q (some i) H1
section
variable {X:Cx}{e:Expr}{te:TE}{lo hi:Option Expr}{tl th:TO}{pos p2:Pos}
theorem BS:PO X none Bw:=by
 intro aa s σ H Q I h;rw[R6];exact Ih ⟨none,H,I,.none,h⟩
theorem A4(h:PE X e te):PO X (some e) (FJ te):=by
 intro aa s σ H Q I hw;rw[evalPart_some];refine bm (h aa s σ H _ I hw) λu s1 hq_=>?_
 obtain⟨x,H1,I1,r1,q1⟩:=hq_
 obtain⟨i,rfl,q⟩:=q1
 obtain⟨t,rfl⟩:=r1
 exact⟨some i,H1,I1,.int i t,q⟩
def SlR(X:Cx)(r:V->Option Int->Option Int->Hp->VK->Prop):Prop:=
 ∀(aa:List (Addr×Obj)) (s:Ic) (σ:St) (H:Hp) (x:V) (v vl vu:Ia) (lo hi:Option Int) (sl:Addr) (Q:VK),Inv X aa σ H s->RelV x v->s.heap.IsSliceOf sl vl vu .none->Os vl lo->Os vu hi->r x lo hi H Q->
  ∃T id,typeLookup (.type T) "__getitem__"=pure (some (.builtin id))/\s.TypeIs v T/\II (model X.prog X.w) X.A (MY v (.ref sl)) (EP X aa σ Q) X.xe s
theorem SlR.or {r r':V->Option Int->Option Int->Hp->VK->Prop}(h:SlR X r)(h':SlR X r'):SlR X (λx lo hi H Q=>r x lo hi H Q\/r' x lo hi H Q):=by
 intro aa s σ H x v vl vu lo hi sl Q I rx hs pl pu q;rcases q with q|q
 ·exact h aa s σ H x v vl vu lo hi sl Q I rx hs pl pu q
 ·exact h' aa s σ H x v vl vu lo hi sl Q I rx hs pl pu q
def HQ(r:V->Option Int->Option Int->Hp->VK->Prop)(te:TE)(tl th:TO):TE:=λσ H Q=>te σ H λx H1=>tl σ H1 λl H2=>th σ H2 λu H3=>r x l u H3 Q
theorem qf {r:V->Option Int->Option Int->Hp->VK->Prop}(hr:SlR X r)(he:PE X e te)(hl:PO X lo tl)(hu:PO X hi th):PE X (.Subscript e (.Slice lo hi none p2) pos) (HQ r te tl th):=by
 intro aa s σ H Q I h;refine Rm (bm (he aa s σ H _ I h) λv s1 hq_=>?_)
 obtain⟨x,H1,I1,r1,q1⟩:=hq_
 refine wpAny_Slice (bm (hl aa s1 σ H1 _ I1 q1) λvl s2 ⟨l,H2,I2,pl,q2⟩=>bm (hu aa s2 σ H2 _ I2 q2) λvu s3 hq_=>?_)
 obtain⟨u,H3,I3,pu,q3⟩:=hq_
 rw[R6];refine Ih ?_
 have I4:Inv X aa σ H3 {s3 with heap:=s3.heap.push {cls:=.type "slice",data:=.fields #[vl,vu,.none]}}:=I3.kept (t':=s3.toks) λb ob q=>Ib _ q
 obtain⟨T,id,hT,ht,hg⟩:=hr aa {s3 with heap:=s3.heap.push {cls:=.type "slice",data:=.fields #[vl,vu,.none]}} σ H3 x v vl vu l u s3.heap.objs.size Q I4 r1 (V8 ..) pl pu q3
 show II (model X.prog X.w) X.A (Pz e (.Slice lo hi none p2) v (.ref s3.heap.objs.size)) (EP X aa σ Q) X.xe {s3 with heap:=s3.heap.push {cls:=.type "slice",data:=.fields #[vl,vu,.none]}}
 exact tail_any (ops:=[.ref s3.heap.objs.size,v]) ht hT hg (by with_unfolding_all rfl)
def rA(xs:List V)(lo hi:Option Int):List V:=(xs.drop (HT.sIx xs.length 0 lo)).take (HT.sIx xs.length xs.length hi-HT.sIx xs.length 0 lo)
theorem kX(xs:List V)(lo hi:Option Int):(rA xs lo hi).length<=xs.length:=by
 unfold rA;rw[L7,N4];omega
def GN(K:Il):V->Option Int->Option Int->Hp->VK->Prop:=λx lo hi H Q=> ∃a xs,x=.ref a/\SqT K H a xs/\
 ¬(HT.sIx xs.length 0 lo=0/\HT.sIx xs.length xs.length hi=xs.length)/\ ∀p,H p=none->Q (.ref p) (aI H p (.tup (rA xs lo hi)))
theorem Ek:SlR X (GN X.K):=by
 intro aa s σ H x v vl vu lo hi sl Q I rx hs pl pu h;obtain⟨a,xs,rfl,hx,hw,q⟩:=h
 cases rx
 obtain⟨its,r,ht,hz⟩:=I.tuple hx
 have hlen:its.toArray.size=xs.length:=by rw[IF];exact r.length.symm
 refine⟨"tuple",_,JM.lookup,ht.typeIs,?_⟩
 refine HT.getItem_tuple_cut ht hs pl pu (by rw[hlen];exact hw) ?_ (by rw[hlen];exact hz)
 rw[hlen];refine⟨.ref s.heap.objs.size,_,I.laid (t':=s.toks) (o:=.tup (rA xs lo hi)) (λb ob q=>Ib _ q) (Ie _) ?_,rfl,q _ (I.hok.fresh (Ie _))⟩
 exact⟨Jk (kX xs lo hi) hz,_,(r.drop (HT.sIx xs.length 0 lo)).take (HT.sIx xs.length xs.length hi-HT.sIx xs.length 0 lo),Qt _ _,_,Io _ rfl,rfl⟩
def FL(K:Il):R2:=λx y H Q=> ∃a b xs ys,x=.ref a/\y=.ref b/\SqT K H a xs/\SqT K H b ys/\xs≠[]/\xs.length+ys.length<=Iy/\
 (ys=[]->Q (.ref a) H)/\(ys≠[]-> ∀p,H p=none->Q (.ref p) (aI H p (.tup (xs++ys))))
theorem Vals.nil_iff {xs:List V}{us:List Ia}(r:Vals xs us):us=[]↔xs=[]:=by
 cases r with
 |nil=>simp
 |cons _ _=>simp
theorem BE:k8 X (LI .Add) (FL X.K):=by
 intro aa s σ H x y v u Q I rx ry h;obtain⟨a,b,xs,ys,rfl,rfl,ha,hb,hx,hz,q1,q2⟩:=h
 cases rx
 cases ry
 obtain⟨its,r1,p1,_⟩:=I.tuple ha
 obtain⟨its2,r2,p2,_⟩:=I.tuple hb
 refine HT.cat_tup p1 p2 (λz=>hx (r1.nil_iff.mp z)) (λz=>⟨.ref a,H,I,rfl,q1 (r2.nil_iff.mp z)⟩) (λz=>?_) (by rw[<-r1.length,<-r2.length];exact hz)
 refine⟨.ref s.heap.objs.size,_,I.laid (t':=s.toks) (o:=.tup (xs++ys)) (λb ob q=>Ib _ q) (Ie _) ?_,rfl,q2 (λw=>z (r2.nil_iff.mpr w)) _ (I.hok.fresh (Ie _))⟩
 exact⟨by rw[Jf];exact hz,_,r1.append r2,Qt _ _,_,Io _ rfl,rfl⟩
end
def wl(n:Nat)(i:Int):Option Nat:=if 0<=i then(if i<n then some i.toNat else none) else if -(n:Int)<=i then some (i+n).toNat else none
def rG {α:Type}(xs:List α)(i:Int):Option α:=(wl xs.length i).bind λj=>xs[j]?
theorem vQ {n:Nat}{i:Int}{j:Nat}(h:wl n i=some j):seqIndex? i n=some j/\j<n/\ -(n:Int)<=i/\i<n:=by
 unfold wl at h
 by_cases h0:0<=i
 ·rw[if_pos h0] at h
  by_cases h1:i<n
  ·rw[if_pos h1] at h
   have e:i.toNat=j:=Je h
   exact⟨by rw[QN h0 h1,e],by omega,by omega,h1⟩
  ·rw[if_neg h1] at h;cases h
 ·rw[if_neg h0] at h
  by_cases h1: -(n:Int)<=i
  ·rw[if_pos h1] at h
   have e:(i+n).toNat=j:=Je h
   exact⟨by rw[P6 (by omega) h1,e],by omega,h1,by omega⟩
  ·rw[if_neg h1] at h;cases h
theorem pi {α:Type}{xs:List α}{i:Int}{v:α}(h:rG xs i=some v): ∃j,seqIndex? i xs.length=some j/\xs[j]? =some v/\j<xs.length/\ -(xs.length:Int)<=i/\i<xs.length:=by
 unfold rG at h;cases e:wl xs.length i with
 |none=>rw[e] at h;cases h
 |some j=>
  rw[e] at h;obtain⟨h1,h2,h3,h4⟩:=vQ e
  exact⟨j,h1,h,h2,h3,h4⟩
theorem vG {α:Type}{xs:List α}{j:Nat}{v:α}(h:xs[j]? =some v):rG xs (j:Int)=some v:=by
 have hj:j<xs.length:=(IA.mp h).1
 have e:wl xs.length (j:Int)=some j:=by
  unfold wl;rw[if_pos (by omega),if_pos (by omega)];simp
 unfold rG;rw[e];exact h
def oT(b:Expr):Prop:= ∀o i,O1 b false o i=operate [o,i] (MY o i)
def IxR(X:Cx)(r:R2):Prop:=
 ∀(value slice:Expr) (aa:List (Addr×Obj)) (s:Ic) (σ:St) (H:Hp) (x y:V) (v u:Ia) (Q:VK),Inv X aa σ H s->RelV x v->RelV y u->r x y H Q->
  O1 slice false v u=operate [v,u] (MY v u)->II (model X.prog X.w) X.A (Pz value slice v u) (EP X aa σ Q) X.xe s
def HY(X:Cx)(id:String)(r:V->List V->Hp->VK->Prop):Prop:=
 ∀(aa:List (Addr×Obj)) (s:Ic) (σ:St) (H:Hp) (x:V) (xs:List V) (v:Ia) (us:List Ia) (Q:VK),Inv X aa σ H s->RelV x v->Vals xs us->r x xs H Q->
  II (model X.prog X.w) X.A (call (.builtin id) (v::us)) (EP X aa σ Q) X.xe s
section
variable {X:Cx}{a b:Expr}{ta tb:TE}{pos:Pos}
theorem IxR.or {r r':R2}(h:IxR X r)(h':IxR X r'):IxR X (λx y H Q=>r x y H Q\/r' x y H Q):=by
 intro value slice aa s σ H x y v u Q I rx ry q hs;rcases q with q|q
 ·exact h value slice aa s σ H x y v u Q I rx ry q hs
 ·exact h' value slice aa s σ H x y v u Q I rx ry q hs
theorem CD {r:R2}(hr:IxR X r)(ha:PE X a ta)(hb:PE X b tb)(hs:oT b):PE X (.Subscript a b pos) (EI r ta tb):=by
 intro aa s σ H Q I h;exact Rm (D7 ha hb I h λv u s2 x y H2 I2 rx ry q=>hr a b aa s2 σ H2 x y v u Q I2 rx ry q (hs _ _))
def Fg(K:Il):R2:=λx y H Q=> ∃p xs i v,x=.ref p/\y=.int i/\SqL K H p xs/\rG xs i=some v/\Q v H
def EU(K:Il):R2:=λx y H Q=> ∃p xs i v,x=.ref p/\y=.int i/\SqT K H p xs/\rG xs i=some v/\Q v H
def E6:R2:=λx y H Q=> ∃z i c,x=.str z/\y=.int i/\z.length<=Iy/\rG z.cps.toList i=some c/\Q (.str ⟨#[c]⟩) H
theorem ix_list:IxR X (Fg X.K):=by
 intro value slice aa s σ H x y v u Q I rx ry h hs;obtain⟨p,xs,i,z,rfl,rfl,hq,he,q⟩:=h
 cases rx
 obtain⟨t,rfl⟩:=ry
 obtain⟨its,r,pl,hz⟩:=I.list hq
 obtain⟨j,h1,h2,h3,h4,h5⟩:=pi he
 obtain⟨w,ew,rw'⟩:=r.get h2
 have hl:=r.length
 have hn:=kL
 have fin:EP X aa σ Q w s:=⟨z,H,I,rw',q⟩
 by_cases h0:0<=i
 ·have hj:i.toNat=j:=by
   rw[QN h0 h5] at h1;exact Je h1
  exact item_listR pl.isList h0 (by omega) (by rw[hj];simpa using ew) fin hs
 ·have hj:(i+(its.toArray.size:Int)).toNat=j:=by
   rw[P6 (by omega) h4] at h1
   rw[IF,<-hl];exact Je h1
  exact Ou (x:=w) pl.isList.typeIs P7.lookup
   (wpAny_getItem_list_neg (Q:=λr s'=>r=w/\EP X aa σ Q r s') pl.isList (by omega) (by rw[IF]<;>omega) (by omega) (by rw[hj];simpa using ew) ⟨rfl,fin⟩) hs
theorem ix_tup:IxR X (EU X.K):=by
 intro value slice aa s σ H x y v u Q I rx ry h hs;obtain⟨p,xs,i,z,rfl,rfl,hq,he,q⟩:=h
 cases rx
 obtain⟨t,rfl⟩:=ry
 obtain⟨its,r,pl,hz⟩:=I.tuple hq
 obtain⟨j,h1,h2,h3,h4,h5⟩:=pi he
 obtain⟨w,ew,rw'⟩:=r.get h2
 have hl:=r.length
 have hn:=kL
 have fin:EP X aa σ Q w s:=⟨z,H,I,rw',q⟩
 exact Ou (x:=w) pl.typeIs JM.lookup
  (getItem_tuple (j:=j) (Q:=λr s'=>r=w/\EP X aa σ Q r s') pl (by omega) (by omega) (by rw[IF,<-hl];exact h1) (by simpa using ew) ⟨rfl,fin⟩) hs
theorem CL:IxR X E6:=by
 intro value slice aa s σ H x y v u Q I rx ry h hs;obtain⟨z,i,c,rfl,rfl,hz,he,q⟩:=h
 obtain⟨t,rfl⟩:=rx
 obtain⟨t',rfl⟩:=ry
 obtain⟨j,h1,h2,h3,h4,h5⟩:=pi he
 have hl:z.cps.toList.length=z.length:=by simp[Str.length]
 rw[hl] at h1 h4 h5;have hn:=kL
 exact tail_any (typeIs_str s z t) slot_str_getitem.lookup (getItem_str (c:=c) (by
  have e1:decide (i< -(2^63:Int))=false:=decide_eq_false (by omega)
  have e2:decide (i≥2^63)=false:=decide_eq_false (by omega)
  rw[e1,e2,R9]) (by rw[h1];simpa using h2) ⟨.str ⟨#[c]⟩,H,I.tok _,⟨_,rfl⟩,q⟩) hs
def HC(K:Il):R2:=λx y H Q=>Fg K x y H Q\/EU K x y H Q\/E6 x y H Q
theorem bO:IxR X (HC X.K):=ix_list.or (ix_tup.or CL)
theorem tW(its:List Ia)(n j:Nat)(u:Ia):Kp (·.setIfInBounds j u) {cls:=.type "list",data:=.seq its.toArray n}={cls:=.type "list",data:=.seq (its.set j u).toArray n}:=by
 simp[Kp]
theorem Inv.lst {aa:List (Addr×Obj)}{σ:St}{H:Hp}{s:Ic}{p:Addr}{xs:List V}(I:Inv X aa σ H s)(h:H p=some (.lst xs)):
 ∃(its:List Ia) (n:Nat),Vals xs its/\s.heap.get? p=some {cls:=.type "list",data:=.seq its.toArray n}/\xs.length<=sizeLine:=by
 obtain⟨z,its,n,r,e⟩:=I.hok p _ h
 exact⟨its,n,r,e,z⟩
theorem Inv.lstUpd {aa:List (Addr×Obj)}{σ:St}{H:Hp}{s:Ic}{p:Addr}{xs ys:List V}{its its':List Ia}{n n':Nat}{f:Obj->Obj}(I:Inv X aa σ H s)(h:H p=some (.lst xs))
 (ho:s.heap.get? p=some {cls:=.type "list",data:=.seq its.toArray n}) (hf:f {cls:=.type "list",data:=.seq its.toArray n}={cls:=.type "list",data:=.seq its'.toArray n'}) (r:Vals ys its') (hz:ys.length<=Iy) (t:Nat):
 Inv X aa σ (aI H p (.lst ys)) {s with heap:=s.heap.update p f,toks:=t}:=by
 have e:(s.heap.update p f).get? p=some {cls:=.type "list",data:=.seq its'.toArray n'}:=by
  rw[Ki f ho (by rw[hf]<;>rfl),hf]
 refine I.write (x:=p) (e:=p) (by rw[h];trivial) (.inl rfl) (λb u hb q=>(Ka _ _ (IT hb)).trans q) ⟨_,e⟩ ?_
 exact⟨hz,its',n',r,e⟩
def Fi:V->V->V->Hp->(Hp->Prop)->Prop:=λo i v H Q=> ∃p xs k j,o=.ref p/\i=.int k/\H p=some (.lst xs)/\wl xs.length k=some j/\Q (aI H p (.lst (xs.set j v)))
theorem Ac:Fm X Fi:=by
 intro aa s σ H o i v ov iv u Q I ro ri rv h;obtain⟨p,xs,k,j,rfl,rfl,hp,hj,q⟩:=h
 cases ro
 obtain⟨t,rfl⟩:=ri
 obtain⟨its,n,r,ho,hz⟩:=I.lst hp
 obtain⟨h1,h2,h3,h4⟩:=vQ hj
 have hl:=r.length
 have hn:=kL
 have I':Inv X aa σ (aI H p (.lst (xs.set j v))) {s with heap:=s.heap.update p (Kp (·.setIfInBounds j u))}:=
  I.lstUpd hp ho (tW its n j u) (r.set rv j) (by rw[Mj];exact hz) s.toks
 by_cases h0:0<=k
 ·have hk:k.toNat=j:=by
   rw[QN h0 h4] at h1;exact Je h1
  exact W.ki_setAt ho h0 (by omega) (by rw[IF,<-hl];exact h4) (by rw[hk];exact⟨_,I',q⟩)
 ·have hk:(k+(its.toArray.size:Int)).toNat=j:=by
   rw[P6 (by omega) h3] at h1
   rw[IF,<-hl];exact Je h1
  exact W.ki_setBack ho (by omega) (by rw[IF,<-hl];exact h3) (by omega) (by rw[hk];exact⟨_,I',q⟩)
theorem oY(lo hi:Option Int)(n:Nat):(Mq lo hi none n).1=((HT.sIx n 0 lo:Nat):Int)/\(Mq lo hi none n).2.1=((HT.sIx n n hi:Nat):Int)/\(Mq lo hi none n).2.2=1:=by
 refine⟨?_,?_,rfl⟩
 ·cases lo with
  |none=>simp[Mq,HT.sIx]
  |some i=>
   simp only[Mq,HT.sIx,Qu,show(1:Int)>0 by decide,if_true]
   by_cases h:i<0
   ·simp only[h,if_true]<;>omega
   ·simp only[h,if_false]<;>omega
 ·cases hi with
  |none=>simp[Mq,HT.sIx]
  |some i=>
   simp only[Mq,HT.sIx,Qu,show(1:Int)>0 by decide,if_true]
   by_cases h:i<0
   ·simp only[h,if_true]<;>omega
   ·simp only[h,if_false]<;>omega
theorem nu(its:List Ia)(lo hi:Option Int):slicePick its.toArray lo hi none=((its.drop (HT.sIx its.length 0 lo)).take (HT.sIx its.length its.length hi-HT.sIx its.length 0 lo)).toArray:=by
 obtain⟨h1,h2,h3⟩:=oY lo hi its.toArray.size
 unfold slicePick;rw[h1,h2,h3];simp only[sliceRange_one,pick_run,IF]<;>rfl
def Hc(K:Il):V->Option Int->Option Int->Hp->VK->Prop:=λx lo hi H Q=> ∃a xs,x=.ref a/\SqL K H a xs/\ ∀p,H p=none->Q (.ref p) (aI H p (.lst (rA xs lo hi)))
theorem Bb:SlR X (Hc X.K):=by
 intro aa s σ H x v vl vu lo hi sl Q I rx hs pl pu h;obtain⟨a,xs,rfl,hx,q⟩:=h
 cases rx
 obtain⟨its,r,ht,hz⟩:=I.list hx
 have hlen:=r.length
 refine⟨"list",_,P7.lookup,ht.isList.typeIs,?_⟩
 refine wpAny_getItem_list_slice ht.isList hs pl pu .none (by simp) ?_ (by rw[IF]<;>omega)
 rw[nu,<-hlen];refine⟨.ref s.heap.objs.size,_,I.laid (t':=s.toks) (o:=.lst (rA xs lo hi)) (λb ob q=>Ib _ q) (Ie _) ?_,rfl,q _ (I.hok.fresh (Ie _))⟩
 exact⟨Jk (kX xs lo hi) hz,_,0,(r.drop (HT.sIx xs.length 0 lo)).take (HT.sIx xs.length xs.length hi-HT.sIx xs.length 0 lo),Io _ rfl⟩
theorem bW:eG X (.builtin "len") (λxs H Q=> ∃p ys,xs=[.ref p]/\(SqL X.K H p ys\/SqT X.K H p ys)/\Q (.int ys.length) H):=by
 intro aa s σ H xs us Q I r h;obtain⟨p,ys,rfl,hq,q⟩:=h
 obtain⟨u,rfl,rx⟩:=jc r
 cases rx
 have hn:=kL
 rcases hq with hq|hq
 ·obtain⟨its,r',pl,hz⟩:=I.list hq
  have hlen:=r'.length
  exact Calls.call_len_list pl.isList (by simp only[IF]<;>omega) ⟨.int ys.length,H,I.tok _,⟨s.toks+1,by rw[IF,hlen]⟩,q⟩
 ·obtain⟨its,r',pl,hz⟩:=I.tuple hq
  have hlen:=r'.length
  exact len_tuple pl (by simp only[IF]<;>omega) ⟨.int ys.length,H,I.tok _,⟨s.toks+1,by rw[IF,hlen]⟩,q⟩
theorem pW:eG X (.type "list") (λxs H Q=> ∃p ys,xs=[.ref p]/\(SqL X.K H p ys\/SqT X.K H p ys)/\ ∀l,H l=none->Q (.ref l) (aI H l (.lst ys))):=by
 intro aa s σ H xs us Q I r h;obtain⟨p,ys,rfl,hq,q⟩:=h
 obtain⟨u,rfl,rx⟩:=jc r
 cases rx
 have fin: ∀(its:List Ia),Vals ys its->ys.length<=Iy-> ∀(h':Heap) (c':Nat),(∀b o',s.heap.get? b=some o'->h'.get? b=some o')->
  h'.get? s.heap.objs.size=some {cls:=.type "list",dict:=none,data:=.seq its.toArray c',slots:= #[]}->EP X aa σ Q (.ref s.heap.objs.size) {s with heap:=h'}:=λits r' hz h' c' kp e=>
  ⟨.ref s.heap.objs.size,_,I.laid (t':=s.toks) kp (Ie _) (show ObjOk X.prog X.w _ h' _ (.lst ys) from⟨hz,its,c',r',e⟩),rfl,q _ (I.hok.fresh (Ie _))⟩
 rcases hq with hq|hq
 ·obtain⟨its,r',pl,hz⟩:=I.list hq
  have hlen:=r'.length
  obtain⟨o,ho,hc,n,hd⟩:=pl.isList
  exact Sb p (.inl rfl) ho hc hd (λh' c' kp e=>fin its r' hz h' c' kp e) (by simp only[IF]<;>omega)
 ·obtain⟨its,r',pl,hz⟩:=I.tuple hq
  have hlen:=r'.length
  obtain⟨o,ho,hc,n,hd⟩:=pl
  exact Sb p (.inr rfl) ho hc hd (λh' c' kp e=>fin its r' hz h' c' kp e) (by simp only[IF]<;>omega)
theorem nG:eG X (.type "tuple") (λxs H Q=> ∃p ys,xs=[.ref p]/\((SqL X.K H p ys/\ ∀l,H l=none->Q (.ref l) (aI H l (.tup ys)))\/(SqT X.K H p ys/\Q (.ref p) H))):=by
 intro aa s σ H xs us Q I r h;obtain⟨p,ys,rfl,h⟩:=h
 obtain⟨u,rfl,rx⟩:=jc r
 cases rx
 rcases h with⟨hq,q⟩|⟨hq,q⟩
 ·obtain⟨its,r',pl,hz⟩:=I.list hq
  have hlen:=r'.length
  refine call_tuple_list pl.isList (λh' kp=>?_) (by simp only[IF]<;>omega)
  have I1:Inv X aa σ H {s with heap:=h'}:=I.kept (t':=s.toks) kp
  have I2:Inv X aa σ (aI H h'.objs.size (.tup ys)) {s with heap:=h'.push {cls:=.type "tuple",data:=.seq its.toArray}}:=
   I1.laid (t':=s.toks) (λb o e=>Ib _ e) (Ie _) (show ObjOk X.prog X.w _ _ _ (.tup ys) from⟨hz,its,r',Qt _ _,_,Io _ rfl,rfl⟩)
  exact⟨.ref h'.objs.size,_,I2,rfl,q _ (I1.hok.fresh (Ie _))⟩
 ·obtain⟨its,r',pl,hz⟩:=I.tuple hq
  exact call_tuple_same pl ⟨.ref p,H,I,rfl,q⟩
def HE(K:Il)(T:String)(x:V)(H:Hp):Prop:=match x with
 | .str _=>T="str"
 | .int _=>T="int"
 | .ref p=>(T="list"/\ ∃xs,SqL K H p xs)\/(T="tuple"/\ ∃xs,SqT K H p xs)\/
    (T="dict"/\((∃kvs,H p=some (.dK kvs))\/ ∃kvs,H p=some (.dT kvs)))\/(T="set"/\ ∃S n,H p=some (.set S n))\/(T="set"/\ ∃xs,H p=some (.tst xs))
 |_=>False
theorem D3 {aa:List (Addr×Obj)}{σ:St}{H:Hp}{s:Ic}{T:String}{x:V}{v:Ia}(I:Inv X aa σ H s)(r:RelV x v)(ty:HE X.K T x H):
 s.TypeIs v T/\ ∀a,v=.ref a-> ∃ob,s.heap.get? a=some ob/\ob.dict=none:=by
 cases x with
 |str z=>
  obtain⟨t,rfl⟩:=r
  cases (show T="str" from ty)
  exact⟨typeIs_str s z t,λ_ e=>nomatch e⟩
 |int i=>
  obtain⟨t,rfl⟩:=r
  cases (show T="int" from ty)
  exact⟨typeIs_int s i t,λ_ e=>nomatch e⟩
 |ref p=>
  cases r
  rcases ty with⟨rfl,xs,hq⟩|⟨rfl,xs,hq⟩|⟨rfl,hk⟩|⟨rfl,S,n,hk⟩|⟨rfl,xs,hk⟩
  ·obtain⟨its,_,pl,_⟩:=I.list hq
   refine⟨pl.isList.typeIs,λa e=>?_⟩
   cases e
   obtain⟨o,n,e,c,hd,_⟩:=pl
   exact⟨o,e,hd⟩
  ·obtain⟨⟨ob,ho,hc⟩,o2,h2,hd⟩:=I.tupleN hq
   refine⟨⟨ob,ho,hc⟩,λa e=>?_⟩
   cases e
   exact⟨o2,h2,hd⟩
  ·have z: ∃o,s.heap.get? p=some o/\o.ExactDict:=by
    rcases hk with⟨kvs,hk⟩|⟨kvs,hk⟩
    ·obtain⟨_,_,_,_,o,_,_,e,ex,_⟩:=I.hok p _ hk
     exact⟨o,e,ex⟩
    ·obtain⟨_,_,_,_,o,_,_,e,ex,_⟩:=I.hok p _ hk
     exact⟨o,e,ex⟩
   obtain⟨o,e,ex⟩:=z
   refine⟨⟨o,e,ex.1⟩,λa e2=>?_⟩
   cases e2
   exact⟨o,e,ex.2.1⟩
  ·obtain⟨o,_,_,_,e,ex,_⟩:=I.hok p _ hk
   refine⟨⟨o,e,ex.1⟩,λa e2=>?_⟩
   cases e2
   exact⟨o,e,ex.2.1⟩
  ·obtain⟨o,_,_,_,e,ex⟩:=I.hok p _ hk
   refine⟨⟨o,e,ex.ex.1⟩,λa e2=>?_⟩
   cases e2
   exact⟨o,e,ex.ex.2.1⟩
 |_=>exact False.elim ty
def HU(K:Il)(T:String)(r:V->List V->Hp->VK->Prop)(to:TE)(t:TA):TE:=λσ H Q=>to σ H λx H1=>HE K T x H1/\t σ H1 λxs H2=>r x xs H2 Q
variable {o e:Expr}{es:List Expr}{to:TE}{t:TA}{name:Str}{apos cpos:Pos}{T id:String}{r:V->List V->Hp->VK->Prop}
theorem zE(pa:PlainAttrs T)(slot:Slot T name id)(hty:typeOf (.builtin id)=pure (.type "method_descriptor"))(hm:HY X id r)(ho:PE X o to)(ha:PA X (e::es) t)
 (hbase:LK o name X.env (eval o X.env)=eval o X.env:=by rfl)
 (hfew:((Ko cpos (Iu (e::es) X.env)).all (λx=> !x.1)&&(P8 cpos (NJ [] X.env)).all (λx=>x.1.isSome)
   &&decide ((e::es).length+([]:List Nh).length+(if([]:List Nh).isEmpty then 0 else 1)<30))=true:=by rfl)
 (hline:(apos.endLine==cpos.line)=true:=by rfl) (hs:Iu (e::es) X.env=(false,eval e X.env)::Iu es X.env:=by rfl) (hplain:(Ko cpos (Iu es X.env)).any (·.1)=false:=by rfl):
 PE X (.Call (.Attribute o name apos) (e::es) [] cpos) (HU X.K T r to t):=by
 intro aa s σ H Q I h;refine wpAny_Call_method_late hbase hfew hline rfl (bm (ho aa s σ H _ I h) λv s1 hq_=>?_)
 obtain⟨x,H1,I1,r1,ty,q1⟩:=hq_
 obtain⟨h1,h2⟩:=D3 I1 r1 ty
 refine⟨T,id,pa,slot,hty,h1,h2,?_⟩
 have hA:=ha cpos aa s1 σ H1 _ I1 q1
 rw[hs] at hA⊢;refine LA (by show(false||(Ko cpos (Iu es X.env)).any (·.1))=false;rw[hplain]<;>rfl) (M0 ?_)
 exact bm hA λus s2 ⟨vs,H2,I2,r2,q2⟩=>hm aa s2 σ H2 x vs v us Q I2 r1 r2 q2
end
def Hi(X:Cx)(id:String)(r:V->List V->Hp->VK->Prop):Prop:=
 ∀(aa:List (Addr×Obj)) (s:Ic) (σ:St) (H:Hp) (x:V) (xs:List V) (v:Ia) (us:List Ia) (Q:VK),Inv X aa σ H s->RelV x v->Vals xs us->r x xs H Q->
  II (model X.prog X.w) X.A (call (.builtin id) (v::us)) (EP X aa σ Q) X.xe s
theorem Vals.one: ∀ {x:V} {us:List Ia},Vals [x] us-> ∃u,us=[u]/\RelV x u
 |_,_,.cons r .nil=>⟨_,rfl,r⟩
section
variable {X:Cx}{aa:List (Addr×Obj)}{σ:St}{H:Hp}{s:Ic}{l b:Addr}{xs ys zs:List V}
theorem Inv.lset {its its':List Ia}{n:Nat}{f:Array Ia->Array Ia}{t':Nat}(I:Inv X aa σ H s)(hH:H l=some (.lst xs))
 (e:s.heap.get? l=some {cls:=.type "list",data:=.seq its.toArray n}) (hf:f its.toArray=its'.toArray) (hv:Vals ys its') (hz:ys.length<=Iy):
 Inv X aa σ (aI H l (.lst ys)) {s with heap:=s.heap.update l (Kp f),toks:=t'}:=by
 have q:=PySem.IsL.update e f
 rw[hf] at q;refine I.write (x:=l) (e:=l) (by rw[hH];exact trivial) (.inl rfl) (λb' u hb hu=>(Ka s.heap (Kp f) (IT hb)).trans hu) ⟨_,q⟩ ?_
 exact⟨hz,its',_,hv,q⟩
theorem Inv.lnew {its:List Ia}{t':Nat}(I:Inv X aa σ H s)(hv:Vals ys its)(hz:ys.length<=Iy):
 Inv X aa σ (aI H s.heap.objs.size (.lst ys)) {s with heap:=s.heap.push {cls:=.type "list",data:=.seq its.toArray},toks:=t'}:=
 I.laid (λ_ _ q=>Ib _ q) (Ie _) ⟨hz,its,0,hv,Io _ rfl⟩
theorem Inv.fresh(I:Inv X aa σ H s):H s.heap.objs.size=none:=I.hok.fresh (Ie _)
theorem Inv.lstM(I:Inv X aa σ H s)(hH:H l=some (.lst xs)):xs.length<=Iy/\ ∃(its:List Ia) (n:Nat),Vals xs its/\xs.length=its.length/\s.heap.get? l=some {cls:=.type "list",data:=.seq its.toArray n}:=by
 obtain⟨z,its,n,r,e⟩:=I.hok l _ hH
 exact⟨z,its,n,r,r.length,e⟩
theorem zh {n:Nat}(h:n<=Iy):Md n=false:=by
 unfold Md;exact decide_eq_false (by omega)
end
section
variable {X:Cx}
def u9:V->List V->Hp->VK->Prop:=λx vs H Q=> ∃l xs y,x=.ref l/\vs=[y]/\H l=some (.lst xs)/\xs.length<Iy/\Q .non (aI H l (.lst (xs++[y])))
theorem fR:Hi X "list.append" u9:=by
 intro aa s σ H x vs v us Q I rx rv h;obtain⟨l,xs,y,rfl,rfl,hH,hz,q⟩:=h
 cases rx
 obtain⟨u,rfl,ru⟩:=rv.one
 obtain⟨z,its,n,r,hl,e⟩:=I.lstM hH
 refine call_meets N1 ⟨_,e,rfl⟩ F.entry_list_append (F.args_list_append_2 _ _) (PySem.list_append l its.toArray n u (by rw[IF];omega)) ⟨e,?_⟩
 refine⟨.non,_,I.lset (its':=its++[u]) hH e (by simp) (r.append (.cons ru .nil)) ?_,rfl,q⟩
 rw[Jf,List.length_singleton];omega
def Cc:V->List V->Hp->VK->Prop:=λx vs H Q=> ∃l b xs zs,x=.ref l/\vs=[.ref b]/\H l=some (.lst xs)/\H b=some (.lst zs)/\xs.length+zs.length<=Iy/\Q .non (aI H l (.lst (xs++zs)))
theorem om:Hi X "list.extend" Cc:=by
 intro aa s σ H x vs v us Q I rx rv h;obtain⟨l,b,xs,zs,rfl,rfl,hH,hB,hz,q⟩:=h
 cases rx
 obtain⟨u,rfl,ru⟩:=rv.one
 cases ru
 obtain⟨z,its,n,r,hl,e⟩:=I.lstM hH
 obtain⟨z2,its2,n2,r2,hl2,e2⟩:=I.lstM hB
 have hsz:its.toArray.size+its2.toArray.size<=sizeLine:=by rw[IF,IF];omega
 have hlong: ¬(!its.toArray.isEmpty&&Md (its.toArray.size+its2.toArray.size))=true:=by
  rw[zh hsz,Bool.and_false];exact Kq
 refine call_meets NY ⟨_,e,rfl⟩ F.entry_list_extend (F.args_list_extend_2 _ _)
  (AutoSeq1.list_extend_list_list_0 l its.toArray n b its2.toArray n2 hlong (by rw[IF];omega) (by omega)) ⟨e,e2,?_⟩
 refine⟨.non,_,I.lset (its':=its++its2) hH e (by simp) (r.append r2) ?_,rfl,q⟩
 rw[Jf];omega
end
end L2
namespace Att
open PySem PySem.W PySem.Calls PyProof.Rows
theorem lg {P:Wb}{h:Heap}: ∀(ns:List Int) (vs:List Ia),WellAll P h vs (ns.map Xp)->Rc vs ns:=by
 intro ns
 induction ns with
 |nil=>
  intro vs w;rw[Mx] at w;cases w
  exact .nil
 |cons n ns ih=>
  intro vs w;rw[Ip] at w;cases w with
  |cons a b=>
   cases a
   exact .cons _ _ (ih _ b)
theorem xC {l:Su}{n:Nat}(hn:l.most=some n){P:Wb}{h:Heap}{args:List WData}{vals:List Ia}
 (hpre:l.row.toRowW.claim.pre args=true) (hwl:WellAll P h vals args):
 ∃a vs ns,vals=[JD a]/\args=[WData.list (ns.map Xp)]/\h.get? a=some {cls:=.type "list",data:=.seq vs.toArray}/\Rc vs ns/\ns.length<=n:=by
 have hsh:WShape.hasAll [] args [.list .int]=true:=(pre_splitW hpre).1
 have hc:l.pre.holds [] {args:=args}=true:=(pre_splitW hpre).2
 obtain⟨d,r,rfl,h1,h2⟩:=hasAllW_cons hsh
 obtain rfl:=hasAllW_nil h2
 obtain⟨xs,rfl,h3⟩:=hasW_list h1
 obtain⟨ns,rfl⟩:=items_int h3
 have hlen:ns.length<=n:=by
  unfold OpenLaw.pre at hc;have h4:(WTm.not (.lt (.lit (.int (n:Int))) (.len (.arg 0)))).holds [] {args:=[.list (ns.map .int)]}=true:=by
   have h4:=(holds_andW hc).1
   rw[hn] at h4;exact h4
  have h5:=condW_of h4 (w_not (w_lt w_lit (w_len_list (w_arg rfl))))
  rw[Ir] at h5;refine Nat.le_of_not_lt λq=>?_
  have q':(n:Int)<((ns.length:Nat):Int):=by omega
  first
   |(rw[decide_eq_true q'] at h5;exact absurd h5 (by decide))
   |(simp at h5;omega)
 cases hwl with
 |cons w1 w2=>
  cases w2
  cases w1 with
  |list ho hall=>exact⟨_,_,ns,rfl,rfl,ho,lg ns _ hall,hlen⟩
theorem wN(l:Su)(args:List WData):l.row.toRowW.claim.post args (.bool true) args=true:=
 postW_of (r:=l.row.toRowW) (X:=(true==true))
  (show Wd [] (.bool true) .bool=true by first|rfl|decide|simp[Wd,WShape.arms,WShape.armsAll])
  (show(WTm.eq .res (.lit (.bool true))).value [] {args:=args,res:=some (.bool true),after:=args}=some (.bool (true==true)) from w_eq_bool (w_res rfl) w_lit) rfl
theorem attach_call {l:Su}{n:Nat}{q:IP}{loose:List Str}{XP:(Str->Option Ia)->Heap->Prop}{YP:Jo->Heap->Prop}{d:DefRec}
 (hn:l.most=some n) (hdf:d.params.defaults=[])
 (call: ∀(w:Jo) (s₀ s₁:Ic) (mg mb:Str->Option Ia) (fa:Addr) (o:Obj) (pm cd doc:Ia) (a:Addr) (vs:List Ia) (ns:List Int),
   Ground q loose [] XP w s₀ mg mb s₁.heap->YP w s₁.heap->
   s₁.heap.get? fa=some o->o.data=.func (docDef d.name d.params d.body d.scope pm cd doc)->s₁.heap.CodeRec cd d.name->mg d.name=some (.ref fa)->
   s₁.heap.get? a=some {cls:=.type "list",data:=.seq vs.toArray}->Rc vs ns->ns.length<=n->s₁.gens= #[]->
   KZ (model l.prog w) Ov (.call (.ref fa) ⟨[.ref a],[]⟩) (λr s'=>r=.ok (.ret (.bool true))/\OldK s₁.heap s'.heap/\s'.os=s₁.os/\Mv s'.gens) s₁):
 WalkO q loose XP YP l.row.toRowW d [] (λf vs=>Ro f vs):=by
 intro w s₀ s₁ mg mb G Y fa o pm cd doc dV kV ho hd hcd hD hmg hg args vals as hpre hlay hrd hwl hlo;obtain rfl:dV=.none:=Dflts.none hD hdf
 obtain rfl:kV=.none:=Dflts.noKw hD
 obtain⟨a,vs,ns,rfl,rfl,hobj,hints,hlen⟩:=xC hn hpre hwl
 refine enter_call (L6 (call w s₀ s₁ mg mb fa o pm cd doc a vs ns G Y ho (fd_plain hd) hcd hmg hobj hints hlen hg) λr s' hq=>?_)
 obtain⟨rfl,h2,h3,h4⟩:=hq
 exact⟨.inl ⟨.bool true,.bool true,[],rfl,λ_=>rfl,.bool true,wN l _,λ_=>⟨Qa,λ_ hm=>(nomatch hm)⟩⟩,h2,h3,h4⟩
end Att
namespace L2
open PySem PySem.Spec PyProof.Rows
theorem nV: ∀ {vs:List Ia} {ns:List Int},Rc vs ns->Vals (ns.map V.int) vs
 |_,_,.nil=>.nil
 |_,_,.cons n t h=>.cons ⟨t,rfl⟩ (nV h)
def DJ(H:Hp):Prop:= ∀b,H b=none\/ ∃o xs,H b=some (.frz o (.lst xs))
theorem yc {P:IP}{w:Jo}{K:Il}{mg mb:Str->Option Ia}{CX:yq}{k:Nat}{fa a:Addr}{fd:K6}{x:Str}{sp:Sp}{s₁:Ic}{vs:List Ia}{ns:List Int}
 (KX:K.In s₁.heap) (hns:s₁.heap.Ns Js mg) (hb:s₁.heap.Ns PL mb) (hbb: ∀x:Str,x≠"__name__"->mb x=J5 x) (hlim:s₁.heap.NoLimit) (hg:s₁.gens= #[])
 (ha:s₁.heap.get? a=some {cls:=.type "list",data:=.seq vs.toArray}) (hi:Rc vs ns) (hl:ns.length<=Iy) (hr:Room k Ov)
 (F: ∀base:Heap,K.In base->base.Ns Js mg->FnOk P w K mg base CX k fa fd [x] sp) (hbind: ∀(s:Ic) (u:Ia),P2 s fd ⟨[u],[]⟩ [(x,u)])
 (hsp: ∀H:Hp,DJ H->SqL K H a (ns.map V.int)->sp [.ref a] H (λv _=>v=.bl true) λ_ _ _=>False)
 (hCX: ∀H e s',CX [] H s₁ (λ_ _ _=>False) e s'->False):
 KZ (model P w) Ov (.call (.ref fa) ⟨[.ref a],[]⟩) (λr s'=>r=.ok (.ret (.bool true))/\OldK s₁.heap s'.heap/\s'.os=s₁.os/\Mv s'.gens) s₁:=by
 have rv:=nV hi
 have lenV:=hi.length
 have core: ∀H:Hp,DJ H->SqL K H a (ns.map V.int)->HOk P w H s₁.heap->(∀b,H b≠none->b=a)->(H a≠none->K.lookup a=none)->
  KZ (model P w) Ov (.call (.ref fa) ⟨[.ref a],[]⟩) (λr s'=>r=.ok (.ret (.bool true))/\OldK s₁.heap s'.heap/\s'.os=s₁.os/\Mv s'.gens) s₁:=by
  intro H hO hS hok hA hK;have base_of: ∀ {b:Addr} {o:Obj},s₁.heap.get? b=some o->H b=none->(qb s₁.heap H).get? b=some o:=λe n=>Ar e n
  have noA: ∀ {b:Addr} {o:Obj} {es:Array N5} {ep:Nat},s₁.heap.get? b=some o->o.data=.dict es ep->H b=none:=λ{b o es ep} e d=>by
   cases q:H b with
   |none=>rfl
   |some u=>
    have e':b=a:=hA b (by rw[q];simp)
    subst e';rw[ha] at e;cases e;have d':Ut vs.toArray _=Data.dict es ep:=d
    cases d'
  have nsK: ∀ {b:Addr} {m:Str->Option Ia},s₁.heap.Ns b m->(qb s₁.heap H).Ns b m:=λ{b m} ⟨o,es,ep,e,d,r⟩=>⟨o,es,ep,base_of e (noA e d),d,r⟩
  have hKb:K.In (qb s₁.heap H):=λb o e=>base_of (KX b o e) (by
   cases q:H b with
   |none=>rfl
   |some u=>
    have e':b=a:=hA b (by rw[q];simp)
    subst e';rw[hK (by rw[q];simp)] at e;cases e)
  have hM:Mod K mg (qb s₁.heap H):=⟨hKb,nsK hns,⟨mb,nsK hb,hbb⟩,let⟨mc,h1,h2⟩:=hlim;⟨mc,nsK h1,h2⟩⟩
  have e0:Env0 P w K mg (qb s₁.heap H) Ov [] s₁ H:=⟨rfl,hM,λb o e=>Ce e,Nat.le_of_eq (wC _ _),trivial,λb hb=>absurd (show b∈([]:List Addr) from hb) (by simp),hok,.of_eq hg⟩
  refine L6 ((F _ hKb (nsK hns)).run Ov [] s₁ H ⟨[.ref a],[]⟩ [.ref a] [.ref a] _ _ hr e0 (hbind s₁ (.ref a)) (.cons rfl .nil) (hsp H hO hS)) λr s' h=>?_
  cases r with
  |error e=>exact(hCX H e s' h).elim
  |ok fl=>
   cases fl with
   |next=>exact False.elim h
   |brk=>exact False.elim h
   |cont=>exact False.elim h
   |ret u=>
    obtain⟨v,H',os,bare,un,hok',r',q⟩:=h
    have q':v=.bl true:=q
    subst q';obtain rfl:u=VW true:=r'
    refine⟨rfl,OldK.of_keep λb o e=>?_,os,bare⟩
    cases q:H b with
    |none=>exact un.keep b o e q (by intro z;exact absurd (show b∈([]:List Addr) from z) (by simp)) (by simp)
    |some u=>
     rcases hO b with z|⟨ob,xs,z⟩
     ·rw[q] at z;cases z
     ·have z2:=un.frzs b ob _ z
      obtain⟨e1,_⟩:=hok b _ z
      obtain⟨e2,_⟩:=hok' b _ z2
      rw[e] at e1;cases e1;exact e2
 cases hk:K.lookup a with
 |some o=>
  have e:=KX a o hk
  rw[ha] at e;cases e
  refine core (λ_=>none) (λ_=>.inl rfl) (.inr ⟨_,vs.toArray,_,hk,rfl,rfl,rfl,by rw[IF,lenV];exact hl,by simpa using rv⟩) (λb u z=>by have z':(none:Option HO)=some u:=z;cases z') (λb z=>absurd rfl z) λz=>absurd rfl z
 |none=>
  refine core (λb=>if b=a then some (.frz {cls:=.type "list",data:=.seq vs.toArray} (.lst (ns.map V.int))) else none) (λb=>?_) (.inl (.inr ⟨{cls:=.type "list",data:=.seq vs.toArray},if_pos rfl⟩)) (λb u z=>?_) (λb z=>?_) λ_=>hk
  ·by_cases hb:b=a
   ·exact .inr ⟨_,_,if_pos hb⟩
   ·exact .inl (if_neg hb)
  ·by_cases hb:b=a
   ·have z':=(if_pos hb).symm.trans z
    cases z'
    subst hb;exact⟨ha,by rw[Ir];exact hl,vs,_,rv,ha⟩
   ·have z':=(if_neg hb).symm.trans z
    cases z'
  ·by_cases hb:b=a
   ·exact hb
   ·exact absurd (if_neg hb) z
theorem walk_of {l:Su}{n k:Nat}{q:IP}{loose:List Str}{XP:(Str->Option Ia)->Heap->Prop}{YP:Jo->Heap->Prop}{d:DefRec}{K:Wb->Il}{CX:Jo->yq}{sp:Jo->Sp}{x:Str}
 (hn:l.most=some n) (hn2:n<=Iy) (hdf:d.params.defaults=[]) (hr:Room k Ov)
 (hY: ∀(w:Jo) (h:Heap),YP w h->(K w.params).In h)
 (F: ∀(w:Jo) (mg:Str->Option Ia) (fa:Addr) (h:Heap),(K w.params).In h->h.Ns Js mg->mg d.name=some (.ref fa)->
   ∃fd:K6,(∀(s:Ic) (u:Ia),P2 s fd ⟨[u],[]⟩ [(x,u)])/\
    ∀base:Heap,(K w.params).In base->base.Ns Js mg->FnOk l.prog w (K w.params) mg base (CX w) k fa fd [x] (sp w))
 (hsp: ∀(w:Jo) (H:Hp) (a:Addr) (ns:List Int),ns.length<=n->DJ H->SqL (K w.params) H a (ns.map V.int)->sp w [.ref a] H (λv _=>v=.bl true) λ_ _ _=>False)
 (hCX: ∀(w:Jo) (H:Hp) (s:Ic) (e:Ia) (s':Ic),CX w [] H s (λ_ _ _=>False) e s'->False):
 W.WalkO q loose XP YP l.row.toRowW d [] (λf vs=>Ro f vs):=by
 refine Att.attach_call hn hdf λw s₀ s₁ mg mb fa o pm cd doc a vs ns G Y ho hd hcd hmg hobj hints hlen hg=>?_
 have KX:=hY w _ Y
 obtain⟨fd,hb,hF⟩:=F w mg fa _ KX G.T.g hmg
 exact yc KX G.T.g G.T.b G.T.builtins G.T.nolimit hg hobj hints (Jk hlen hn2) hr hF hb (λH hO hS=>hsp w H a ns hlen hO hS) λH e s'=>hCX w H s₁ e s'
def fy(s:Stmt):Arguments:=match s with
 | .FunctionDef _ a _ _ _ _ _ _ _ _=>a
 |_=>{posonlyargs:=[],args:=[],vararg:=none,kwonlyargs:=[],kw_defaults:=[],kwarg:=none,defaults:=[]}
def bV(s:Stmt):List Stmt:=match s with
 | .FunctionDef _ _ b _ _ _ _ _ _ _=>b
 |_=>[]
def av(s:Stmt):Scope:=match s with
 | .FunctionDef _ _ _ _ _ _ sc _ _ _=>sc
 |_=>{kind:=.function,names:=[],isGenerator:=false,isCoroutine:=false}
abbrev oA:yq:=λ_ _ _ _ _ _=>False
abbrev E0:XK:=λ_ _ _=>False
theorem nW {X:Cx}:tu oA X E0:=λ_ _ _ _ _ _ _ h=>h.elim
structure Fun(K:Il)(x qual:Str)(st:Stmt)(f:Addr)(fd:K6):Prop where
 ex: ∃(oc:Ia) (od:Option Addr) (kV doc pm:Ia) (an:Option Addr) (cdv ct:Ia) (osl:Array (Option Ia)),
  fd=Op x qual (fy st) (bV st) (av st) .none kV doc pm an cdv ct/\K.lookup f=some ⟨oc,od,.func fd,osl⟩/\P3 K cdv qual=true
 kp:Nn K (.ref f)=true
section
variable {P:IP}{w:Jo}{K:Il}{mg:Str->Option Ia}{base:Heap}
theorem Fun.ok {x qual:Str}{st:Stmt}{f:Addr}{fd:K6}{N ps:List Str}{k:Nat}{sp:Sp}(F:Fun K x qual st f fd)(S:FnScope N ps (av st))(len: ∀vs H Q E,sp vs H Q E->vs.length=ps.length)
 (hbody: ∀(cdv:Ia) (A:Jc) (outer:List Env) (s:Ic) (H:Hp) (vs:List V) (Q:VK) (E:XK),Room k (A.deeper (Mw qual (av st) s.heap.objs.size f cdv))->sp vs H Q E->
   ∃t,PSs (lq oA P w K mg base N qual (av st) f cdv A outer s H E).nox (bV st) t/\t {nx:=λ_ H'=>Q .non H',rt:=Q} (eC N vs) H):FnOk P w K mg base oA (k+1) f fd ps sp:=by
 obtain⟨oc,od,kV,doc,pm,an,cdv,ct,osl,rfl,lk,hcd⟩:=F.ex
 refine ES lk hcd S len λA outer s H vs Q E hr hsp=>?_
 obtain⟨t,h,q⟩:=hbody cdv A outer s H vs Q E hr hsp
 exact⟨t,h.nox,q⟩
theorem Fun.binds {x qual:Str}{st:Stmt}{f:Addr}{fd:K6}{ps:List Str}(F:Fun K x qual st f fd)
 (h: ∀(kV doc pm:Ia) (an:Option Addr) (cdv ct:Ia) (us:List Ia),us.length=ps.length->Up (Op x qual (fy st) (bV st) (av st) .none kV doc pm an cdv ct) ⟨us,[]⟩=pure (ps.zip us)):Binds K fd ps []:=by
 obtain⟨oc,od,kV,doc,pm,an,cdv,ct,osl,rfl,lk,hcd⟩:=F.ex
 exact .all (h kV doc pm an cdv ct)
theorem tV {x qual:Str}{st:Stmt}{f:Addr}{oc:Ia}{od an:Option Addr}{osl:Array (Option Ia)}{kV doc pm cdv ct:Ia}(l:K.lookup f=some ⟨oc,od,.func (Op x qual (fy st) (bV st) (av st) .none kV doc pm an cdv ct),osl⟩)
 (c:P3 K cdv qual=true) (k:Nn K (.ref f)=true):Fun K x qual st f (Op x qual (fy st) (bV st) (av st) .none kV doc pm an cdv ct):=⟨⟨oc,od,kV,doc,pm,an,cdv,ct,osl,rfl,l,c⟩,k⟩
end
theorem eW {A:Jc}{k:Nat}(hr:Room k A):A.units+1<cLine:=JA (Nat.add_le_add_left (by decide:1<=64) _) hr.units
theorem fT {n:Nat}(h:n<=1000):n<sizeLine:=JA h (by decide)
section
variable {X:Cx}
theorem pv(i:Nat){x:Str}{pos:Pos}(hN:X.N[i]? =some x:=by rfl)(hv:jw X.env.scope x:=by first|exact Jp rfl|exact IQ (Jp rfl)|exact IQ (IQ rfl))(hd:(x==("__debug__":Str))=false:=by decide)
 (hcd:(x==("__classdict__":Str))=false:=by decide):PE X (.Name x pos) (zN i):=Ep hN hv hd hcd
end
theorem zu {A B:Prop}(h:B):if false=true then A else B:=by
 rw[if_neg Kq];exact h
theorem yu {A B:Prop}(h:A):if true=true then A else B:=by
 rw[if_pos rfl];exact h
def Same(H H':Hp):Prop:= ∀b o,H b=some o->H' b=some o
theorem Same.refl(H:Hp):Same H H:=λ_ _ h=>h
theorem Same.trans {H H1 H2:Hp}(a:Same H H1)(b:Same H1 H2):Same H H2:=λc o h=>b c o (a c o h)
theorem Same.free {H H':Hp}(e:Same H H'){l:Addr}(h:H' l=Uu):H l=Option.none:=by
 cases q:H l with
 |none=>rfl
 |some o=>
  rw[e l o q] at h;cases h
theorem Same.seq {K:Il}{H H':Hp}{a:Addr}{xs:List V}(e:Same H H')(h:SqL K H a xs):SqL K H' a xs:=by
 rcases h with(h|⟨o,h⟩)|h
 ·exact .inl (.inl (e _ _ h))
 ·exact .inl (.inr ⟨o,e _ _ h⟩)
 ·exact .inr h
inductive D where
 |non|bl (b:Bool)|int (i:Int)|str (x:Str)|tup (ds:List D)|lst (ds:List D)
 |scr (ds:List D)
def SqR(K:Il)(H:Hp)(a:Addr)(xs:List V):Prop:=
 (∃o,H a=some (.frz o (.lst xs)))\/
   ∃(o:Obj) (its:Array Ia) (n:Nat),K.lookup a=some o/\o.cls=.type "list"/\o.dict=none/\o.data=.seq its n/\its.size<=Iy/\Vals xs its.toList
theorem SqR.seq {K:Il}{H:Hp}{a:Addr}{xs:List V}(h:SqR K H a xs):SqL K H a xs:=h.elim (λh=>.inl (.inr h)) .inr
theorem Same.seqR {K:Il}{H H':Hp}{a:Addr}{xs:List V}(e:Same H H')(h:SqR K H a xs):SqR K H' a xs:=h.elim (λ⟨o,h⟩=>.inl ⟨o,e _ _ h⟩) .inr
mutual
inductive Rep (K:Il) (F:Hp):V->D->Prop
 |non:Rep K F .non .non
 |bl {b:Bool}:Rep K F (.bl b) (.bl b)
 |int {i:Int}:Rep K F (.int i) (.int i)
 |str {x:Str}:Rep K F (.str x) (.str x)
 |tup {a:Addr} {xs:List V} {ds:List D}:SqT K F a xs->Reps K F xs ds->Rep K F (.ref a) (.tup ds)
 |lst {a:Addr} {xs:List V} {ds:List D}:F a=some (.lst xs)->Reps K F xs ds->Rep K F (.ref a) (.lst ds)
 |scr {a:Addr} {xs:List V} {ds:List D}:SqR K F a xs->Reps K F xs ds->Rep K F (.ref a) (.scr ds)
inductive Reps (K:Il) (F:Hp):List V->List D->Prop
 |nil:Reps K F [] []
 |cons {x:V} {d:D} {xs:List V} {ds:List D}:Rep K F x d->Reps K F xs ds->Reps K F (x::xs) (d::ds)
end
theorem Same.seqT {K:Il}{H H':Hp}{a:Addr}{xs:List V}(e:Same H H')(h:SqT K H a xs):SqT K H' a xs:=by
 rcases h with(h|⟨o,h⟩)|h
 ·exact .inl (.inl (e _ _ h))
 ·exact .inl (.inr ⟨o,e _ _ h⟩)
 ·exact .inr h
mutual
theorem Rep.mono {K:Il}{F G:Hp}(s:Same F G): ∀ {v:V} {d:D},Rep K F v d->Rep K G v d
 |_,_,.non=>.non
 |_,_,.bl=>.bl
 |_,_,.int=>.int
 |_,_,.str=>.str
 |_,_,.tup h r=>.tup (Same.seqT s h) (Reps.mono s r)
 |_,_,.lst h r=>.lst (s _ _ h) (Reps.mono s r)
 |_,_,.scr h r=>.scr (Same.seqR s h) (Reps.mono s r)
theorem Reps.mono {K:Il}{F G:Hp}(s:Same F G): ∀ {v:List V} {d:List D},Reps K F v d->Reps K G v d
 |_,_,.nil=>.nil
 |_,_,.cons r t=>.cons (Rep.mono s r) (Reps.mono s t)
end
section
variable {K:Il}{F G H:Hp}
theorem Reps.length: ∀ {xs:List V} {ds:List D},Reps K F xs ds->xs.length=ds.length
 |_,_,.nil=>rfl
 |_,_,.cons _ t=>by simp[t.length]
theorem Reps.get: ∀ {xs:List V} {ds:List D} {i:Nat} {d:D},Reps K F xs ds->ds[i]? =some d-> ∃x,xs[i]? =some x/\Rep K F x d
 |_,_,_,_,.nil,e=>by simp at e
 |_,_,0,_,.cons r _,e=>by simp at e;subst e;exact⟨_,rfl,r⟩
 |_,_,i+1,d,.cons _ t,e=>by
  obtain⟨u,h1,h2⟩:=Reps.get (i:=i) (d:=d) t (by simpa using e)
  exact⟨u,by simpa using h1,h2⟩
theorem Reps.get' {xs:List V}{ds:List D}{i:Nat}{x:V}(r:Reps K F xs ds)(e:xs[i]? =some x): ∃d,ds[i]? =some d/\Rep K F x d:=by
 have hl:=r.length
 have hi:=(IA.mp e).1
 have e2:ds[i]? =some ds[i]:=Ig (by omega)
 obtain⟨y,h1,h2⟩:=r.get e2
 rw[e] at h1;cases h1;exact⟨_,e2,h2⟩
theorem Reps.append: ∀ {xs ys:List V} {us ws:List D},Reps K F xs us->Reps K F ys ws->Reps K F (xs++ys) (us++ws)
 |_,_,_,_,.nil,s=>s
 |_,_,_,_,.cons r t,s=>.cons r (Reps.append t s)
theorem Reps.set {x:V}{u:D}(r:Rep K F x u): ∀ {xs:List V} {us:List D} (i:Nat),Reps K F xs us->Reps K F (xs.set i x) (us.set i u)
 |_,_,_,.nil=>.nil
 |_,_,0,.cons _ t=>.cons r t
 |_,_,i+1,.cons q t=>.cons q (Reps.set r i t)
theorem Reps.take: ∀ {xs:List V} {us:List D} (n:Nat),Reps K F xs us->Reps K F (xs.take n) (us.take n)
 |_,_,0,_=>.nil
 |_,_,_+1,.nil=>.nil
 |_,_,n+1,.cons r t=>.cons r (Reps.take n t)
theorem Reps.drop: ∀ {xs:List V} {us:List D} (n:Nat),Reps K F xs us->Reps K F (xs.drop n) (us.drop n)
 |_,_,0,r=>r
 |_,_,_+1,.nil=>.nil
 |_,_,n+1,.cons _ t=>Reps.drop n t
end
abbrev a7:=Addr->Bool
def vw(H:Hp)(hid:a7):Hp:=λb=>if hid b=true then none else H b
def aJ(hid:a7)(a:Addr):a7:=λb=>hid b||decide (b=a)
def fV(hid:a7)(a:Addr):a7:=λb=>hid b&& !decide (b=a)
theorem vw_some {H:Hp}{hid:a7}{b:Addr}{o:HO}:vw H hid b=some o↔hid b=false/\H b=some o:=by
 unfold vw;cases hb:hid b<;>simp
theorem bF(H:Hp)(hid:a7):Same (vw H hid) H:=λb o h=>(vw_some.mp h).2
theorem aD {H H':Hp}{hid:a7}(s:Same H H'):Same (vw H hid) (vw H' hid):=λb o h=>vw_some.mpr ⟨(vw_some.mp h).1,s _ _ (vw_some.mp h).2⟩
theorem vj {H H':Hp}{hid:a7}(s: ∀b o,H b=some o->hid b=false->H' b=some o):Same (vw H hid) (vw H' hid):=λb o h=>vw_some.mpr ⟨(vw_some.mp h).1,s _ _ (vw_some.mp h).2 (vw_some.mp h).1⟩
theorem bH {H:Hp}{hid:a7}{a:Addr}{o:HO}(h:hid a=true):vw (aI H a o) hid=vw H hid:=by
 funext b;unfold vw aI
 by_cases e:b=a
 ·subst e;simp[h]
 ·simp[e]
theorem cL {H:Hp}{hid hid':a7}(h: ∀b,hid' b=true->hid b=true):Same (vw H hid) (vw H hid'):=λb o q=>by
 obtain⟨q1,q2⟩:=vw_some.mp q
 refine vw_some.mpr ⟨?_,q2⟩
 cases e:hid' b with
 |false=>rfl
 |true=>rw[h b e] at q1;cases q1
theorem mI {H:Hp}{hid:a7}{a:Addr}{o:HO}(h:H a=none):vw (aI H a o) (aJ hid a)=vw H hid:=by
 funext b;unfold vw aI aJ
 by_cases e:b=a
 ·subst e
  cases hb:hid b<;>simp[h]
 ·simp[e]
inductive NO where
 |l (ds:List D)
 |k (kvs:List (aM×D))
inductive Ob where
 |nst (us:List NO)
 |dR (kvs:List (aM×D))
 |dRs (l:List (List (aM×D)))
 |exc (x:Str) (n:Int)
 |dK (kvs:List (aM×D))
 |dT (kvs:List (List aM×D))
 |set (ds:List D)
 |old (d:D)
 |jnk
 |tset (ks:List (List Int))
 |dF (kvs:List (List aM×D))
 |dQ (kvs:List (List aM×D))
 |frs (d:D)
 |dd (kvs:List (List Int×List (Int×Int)))
 |ddR (kvs:List (List Int×List (Int×Int)))
 |dA (kvs:List (aM×D))
inductive Sl where
 |no
 |v (d:D)
 |own (ds:List D)
 |arg (ds:List D)
 |ob (b:Ob)
abbrev aA:=List Sl
structure Ct where
 H₀:Hp
 hid₀:a7
 mu:Addr->Bool
def FX(K:Il)(x:Str)(n:Int)(a:Addr)(h:Heap):Prop:= ∃C o,Mn K Js x=some (some (.ref C))/\h.get? a=some o/\o.cls=.ref C/\o.dict=none/\W.notCls o=true
def m8:Option HO->Bool
 |some (.lst _)=>true
 |_=>false
def fv(c:Ct)(F:Hp):Hp:=λb=>if(c.H₀ b).isSome=true/\m8 (F b)=true then none else F b
def ov(c:Ct)(F:Hp):Hp:=λb=>if(c.H₀ b).isSome=true then F b else none
theorem fv_some {c:Ct}{F:Hp}{b:Addr}{o:HO}:fv c F b=some o↔(m8 (some o)=true->c.H₀ b=none)/\F b=some o:=by
 unfold fv;constructor
 ·intro h
  split at h
  ·cases h
  ·rename_i hn
   refine⟨λq=>?_,h⟩
   rw[h] at hn;cases hb:c.H₀ b with
   |none=>rfl
   |some u=>exact absurd ⟨by rw[hb];rfl,q⟩ hn
 ·rintro⟨h1,h2⟩
  rw[if_neg,h2]
  rintro⟨q1,q2⟩
  rw[h2] at q2;rw[h1 q2] at q1;cases q1
theorem ov_some {c:Ct}{F:Hp}{b:Addr}{o:HO}:ov c F b=some o↔(∃u,c.H₀ b=some u)/\F b=some o:=by
 unfold ov;cases hb:c.H₀ b<;>simp
theorem vN {c:Ct}{F G:Hp}(s:Same F G):Same (fv c F) (fv c G):=λb o h=>fv_some.mpr ⟨(fv_some.mp h).1,s _ _ (fv_some.mp h).2⟩
theorem Bf {c:Ct}{F G:Hp}(s:Same F G):Same (ov c F) (ov c G):=λb o h=>ov_some.mpr ⟨(ov_some.mp h).1,s _ _ (ov_some.mp h).2⟩
def NOk(K:Il)(c:Ct)(hid:a7)(H:Hp)(p a:Addr):NO->Prop
 | .l ds=>(hid a=true/\c.H₀ a=none)/\ ∃xs:List V,H a=some (.nst p (.lst xs))/\Reps K (vw H hid) xs ds
 | .k kvs=>(hid a=true/\c.H₀ a=none)/\ ∃us:List (aM×V),H a=some (.nst p (.dK us))/\us.map (·.1)=kvs.map (·.1)/\Reps K (vw H hid) (us.map (·.2)) (kvs.map (·.2))
theorem NOk.mono {K:Il}{c:Ct}{hid hid':a7}{H H':Hp}{p a:Addr}{b:NO}(h:NOk K c hid H p a b)(k: ∀u,H a=some (.nst p u)->H' a=some (.nst p u))(s:Same (vw H hid) (vw H' hid'))(w:(∃u,H a=some (.nst p u))->hid' a=true):NOk K c hid' H' p a b:=by
 cases b with
 |l ds=>obtain⟨h1,us,h2,h3⟩:=h;exact⟨⟨w ⟨_,h2⟩,h1.2⟩,us,k _ h2,h3.mono s⟩
 |k kvs=>obtain⟨h1,us,h2,h3,h4⟩:=h;exact⟨⟨w ⟨_,h2⟩,h1.2⟩,us,k _ h2,h3,h4.mono s⟩
def DRd(K:Il)(W:Hp)(a:Addr)(kvs:List (aM×D)):Prop:= ∃o us,W a=some (.frz o (.dK us))/\us.map (·.1)=kvs.map (·.1)/\Reps K W (us.map (·.2)) (kvs.map (·.2))
theorem DRd.mono {K:Il}{W W':Hp}{a:Addr}{kvs:List (aM×D)}(h:DRd K W a kvs)(s:Same W W'):DRd K W' a kvs:=by
 obtain⟨o,us,h1,h2,h3⟩:=h
 exact⟨o,us,s _ _ h1,h2,h3.mono s⟩
def DQd(K:Il)(W:Hp)(a:Addr)(kvs:List (List aM×D)):Prop:= ∃o us,W a=some (.frz o (.dT us))/\us.map (·.1)=kvs.map (·.1)/\Reps K W (us.map (·.2)) (kvs.map (·.2))
theorem DQd.mono {K:Il}{W W':Hp}{a:Addr}{kvs:List (List aM×D)}(h:DQd K W a kvs)(s:Same W W'):DQd K W' a kvs:=by
 obtain⟨o,us,h1,h2,h3⟩:=h
 exact⟨o,us,s _ _ h1,h2,h3.mono s⟩
def jh(m:List (Int×Int)):List (aM×V):=m.map λq=>(IU q.1,V.int q.2)
def Cz(c:Ct)(hid:a7)(H:Hp)(a b:Addr)(m:List (Int×Int)):Prop:=(hid b=true/\c.H₀ b=none)/\H b=some (.nst a (.dK (jh m)))
def GR(W:Hp)(b:Addr)(m:List (Int×Int)):Prop:= ∃o,W b=some (.frz o (.dK (jh m)))
def DDd(W:Hp)(a:Addr)(kvs:List (List Int×List (Int×Int))):Prop:= ∃(o:Obj) (us:List (List aM×V)) (bs:List Addr),W a=some (.frz o (.dT us))/\us.map (·.1)=kvs.map (λz=>z.1.map IU)/\us.map (·.2)=bs.map V.ref/\Paired (GR W) bs (kvs.map (·.2))
theorem DDd.mono {W W':Hp}{a:Addr}{kvs:List (List Int×List (Int×Int))}(h:DDd W a kvs)(s:Same W W'):DDd W' a kvs:=by
 obtain⟨o,us,bs,h1,h2,h3,h4⟩:=h
 exact⟨o,us,bs,s _ _ h1,h2,h3,Paired.mapP h4 λ_ _ ⟨o,z⟩=>⟨o,s _ _ z⟩⟩
def ObOk(K:Il)(c:Ct)(hid:a7)(H:Hp)(a:Addr):Ob->Prop
 | .nst us=>(hid a=true/\c.H₀ a=none)/\ ∃bs:List Addr,H a=some (.lst (bs.map V.ref))/\bs.Nodup/\Paired (NOk K c hid H a) bs us
 | .dR kvs=>DRd K (vw H hid) a kvs
 | .dQ kvs=>DQd K (vw H hid) a kvs
 | .frs d=>Rep K (fv c (vw H hid)) (.ref a) d
 | .dd kvs=>(hid a=true/\c.H₀ a=none)/\ ∃(us:List (List aM×V)) (bs:List Addr),H a=some (.dT us)/\us.map (·.1)=kvs.map (λz=>z.1.map IU)/\us.map (·.2)=bs.map V.ref/\bs.Nodup/\Paired (Cz c hid H a) bs (kvs.map (·.2))
 | .ddR kvs=>DDd (vw H hid) a kvs
 | .dA kvs=>(hid a=true/\c.mu a=true)/\ ∃us:List (aM×V),H a=some (.dK us)/\us.map (·.1)=kvs.map (·.1)/\Reps K (vw H hid) (us.map (·.2)) (kvs.map (·.2))
 | .dRs l=> ∃bs:List Addr,vw H hid a=some (.lst (bs.map V.ref))/\Paired (DRd K (vw H hid)) bs l
 | .exc x n=> ∃φ,vw H hid a=some (.ext φ)/\ ∀h,φ h->FX K x n a h
 | .dK kvs=>(hid a=true/\c.H₀ a=none)/\ ∃us:List (aM×V),H a=some (.dK us)/\us.map (·.1)=kvs.map (·.1)/\Reps K (vw H hid) (us.map (·.2)) (kvs.map (·.2))
 | .dT kvs=>(hid a=true/\c.H₀ a=none)/\ ∃us:List (List aM×V),H a=some (.dT us)/\us.map (·.1)=kvs.map (·.1)/\Reps K (vw H hid) (us.map (·.2)) (kvs.map (·.2))
 | .set ds=>(hid a=true/\c.H₀ a=none)/\ ∃xs:List V,H a=some (.lst xs)/\Reps K (fv c (vw H hid)) xs ds
 | .old d=>Rep K (ov c (vw H hid)) (.ref a) d
 | .jnk=>(hid a=true/\c.H₀ a=none)/\ ∃xs:List V,H a=some (.lst xs)
 | .tset ks=>(hid a=true/\c.H₀ a=none)/\ ∃xs:List (List Int×Addr),H a=some (.tst xs)/\(xs.map (·.1)).Perm ks/\Reps K (vw H hid) (xs.map λx=>V.ref x.2) (xs.map λx=>D.tup (x.1.map D.int))
 | .dF kvs=>(hid a=true/\c.H₀ a=none)/\ ∃(o:Obj) (us:List (List aM×V)),H a=some (.frz o (.dT us))/\us.map (·.1)=kvs.map (·.1)/\Reps K (vw H hid) (us.map (·.2)) (kvs.map (·.2))
def lH:Ob->Prop
 | .exc _ _=>False
 | .old _=>False
 | .dR _=>False
 | .dRs _=>False
 | .dQ _=>False
 | .frs _=>False
 | .ddR _=>False
 |_=>True
def At(H:Hp)(a x:Addr):Prop:=x=a\/ ∃u,H x=some (.nst a u)
theorem At.ne {H:Hp}{a a' x:Addr}{o:HO}(hx:At H a' x)(ne:a'≠a)(ha:H a=some o)(hn: ∀p u,o≠ .nst p u:=by intro _ _ e;cases e):x≠a:=λe=>by
 subst e;rcases hx with rfl|⟨u,hu⟩
 ·exact ne rfl
 ·rw[ha] at hu;cases hu;exact hn _ _ rfl
theorem ObOk.mono {K:Il}{c:Ct}{hid hid':a7}{H H':Hp}{a:Addr}{b:Ob}(h:ObOk K c hid H a b)(k:lH b-> ∀x,At H a x-> ∀o,H x=some o->H' x=some o)(s:Same (vw H hid) (vw H' hid'))(w:lH b-> ∀x,At H a x->hid x=true->hid' x=true):ObOk K c hid' H' a b:=by
 have k1:lH b-> ∀o,H a=some o->H' a=some o:=λo=>k o a (.inl rfl)
 have w1:lH b->hid a=true->hid' a=true:=λo=>w o a (.inl rfl)
 cases b with
 |nst us=>
  obtain⟨h1,bs,h2,h3,h4⟩:=h
  refine⟨⟨w1 trivial h1.1,h1.2⟩,bs,k1 trivial _ h2,h3,Paired.mapP h4 λx y z=>z.mono (λu q=>k trivial x (.inr ⟨u,q⟩) _ q) s λq=>w trivial x (.inr q) ?_⟩
  cases y with
  |l ds=>exact z.1.1
  |k kvs=>exact z.1.1
 |dR kvs=>exact DRd.mono h s
 |dQ kvs=>exact DQd.mono h s
 |frs d=>exact Rep.mono (vN s) h
 |dd kvs=>
  obtain⟨h1,us,bs,h2,h3,h4,h5,h6⟩:=h
  exact⟨⟨w1 trivial h1.1,h1.2⟩,us,bs,k1 trivial _ h2,h3,h4,h5,Paired.mapP h6 λx y z=>⟨⟨w trivial x (.inr ⟨_,z.2⟩) z.1.1,z.1.2⟩,k trivial x (.inr ⟨_,z.2⟩) _ z.2⟩⟩
 |ddR kvs=>exact DDd.mono h s
 |dA kvs=>obtain⟨h1,us,h2,h3,h4⟩:=h;exact⟨⟨w1 trivial h1.1,h1.2⟩,us,k1 trivial _ h2,h3,h4.mono s⟩
 |dRs l=>obtain⟨bs,h1,h2⟩:=h;exact⟨bs,s _ _ h1,Paired.mapP h2 λ_ _ z=>z.mono s⟩
 |exc x n=>obtain⟨φ,h1,h2⟩:=h;exact⟨φ,s _ _ h1,h2⟩
 |dK kvs=>obtain⟨h1,us,h2,h3,h4⟩:=h;exact⟨⟨w1 trivial h1.1,h1.2⟩,us,k1 trivial _ h2,h3,h4.mono s⟩
 |dT kvs=>obtain⟨h1,us,h2,h3,h4⟩:=h;exact⟨⟨w1 trivial h1.1,h1.2⟩,us,k1 trivial _ h2,h3,h4.mono s⟩
 |set ds=>obtain⟨h1,us,h2,h3⟩:=h;exact⟨⟨w1 trivial h1.1,h1.2⟩,us,k1 trivial _ h2,h3.mono (vN s)⟩
 |old d=>exact Rep.mono (Bf s) h
 |jnk=>obtain⟨h1,us,h2⟩:=h;exact⟨⟨w1 trivial h1.1,h1.2⟩,us,k1 trivial _ h2⟩
 |tset ks=>obtain⟨h1,us,h2,h3,h4⟩:=h;exact⟨⟨w1 trivial h1.1,h1.2⟩,us,k1 trivial _ h2,h3,h4.mono s⟩
 |dF kvs=>obtain⟨h1,o,us,h2,h3,h4⟩:=h;exact⟨⟨w1 trivial h1.1,h1.2⟩,o,us,k1 trivial _ h2,h3,h4.mono s⟩
theorem ObOk.hid {K:Il}{c:Ct}{hid:a7}{H:Hp}{a:Addr}{b:Ob}(h:ObOk K c hid H a b)(o:lH b):hid a=true:=by
 cases b with
 |nst us=>exact h.1.1
 |dQ kvs=>exact o.elim
 |frs d=>exact o.elim
 |dd kvs=>exact h.1.1
 |ddR kvs=>exact o.elim
 |dA kvs=>exact h.1.1
 |dR kvs=>exact o.elim
 |dRs l=>exact o.elim
 |exc x n=>exact o.elim
 |dK kvs=>exact h.1.1
 |dT kvs=>exact h.1.1
 |set ds=>exact h.1.1
 |old d=>exact o.elim
 |jnk=>exact h.1.1
 |tset ks=>exact h.1.1
 |dF kvs=>exact h.1.1
def SlOk(K:Il)(c:Ct)(hid:a7)(σ:St)(H:Hp)(i:Nat):Sl->Prop
 | .no=>True
 | .v d=> ∃x,σ[i]? =some (some x)/\Rep K (vw H hid) x d
 | .own ds=> ∃a xs,σ[i]? =some (some (.ref a))/\H a=some (.lst xs)/\hid a=true/\c.H₀ a=none/\Reps K (vw H hid) xs ds
 | .arg ds=> ∃a xs,σ[i]? =some (some (.ref a))/\H a=some (.lst xs)/\hid a=true/\c.mu a=true/\Reps K (vw H hid) xs ds
 | .ob b=> ∃a,σ[i]? =some (some (.ref a))/\ObOk K c hid H a b
def Ow:Option Sl->Prop
 |some (.own _)=>True
 |some (.arg _)=>True
 |some (.ob b)=>lH b
 |_=>False
structure SR(K:Il)(c:Ct)(hid:a7)(ρ:aA)(σ:St)(H:Hp):Prop where
 tr: ∀b,hid b=true-> ∃o,H b=some o
 ht: ∀b xs,hid b=true->H b≠some (.tup xs)
 h0: ∀b,c.hid₀ b=true->hid b=true
 kp: ∀b o,c.H₀ b=some o->c.mu b=false->H b=some o
 t0: ∀b o,c.H₀ b=some o-> ∃o',H b=some o'
 c0: ∀b,c.hid₀ b=true-> ∃o,c.H₀ b=some o
 m0: ∀b,c.mu b=true->c.hid₀ b=true
 len:σ.length=ρ.length
 sl: ∀(i:Nat) (s:Sl),ρ[i]? =some s->SlOk K c hid σ H i s
 ap: ∀(i j:Nat) (a:Addr),i≠j->Ow ρ[i]? ->Ow ρ[j]? ->σ[i]? =some (some (.ref a))->σ[j]? =some (some (.ref a))->False
section
variable {K:Il}{c:Ct}{hid:a7}{ρ:aA}{σ:St}{H H':Hp}{i:Nat}
theorem SlOk.ext {s:Sl}(h:SlOk K c hid σ H i s)(e:Same H H'):SlOk K c hid σ H' i s:=by
 cases s with
 |no=>trivial
 |v d=>obtain⟨x,h1,h2⟩:=h;exact⟨x,h1,h2.mono (aD e)⟩
 |own ds=>obtain⟨a,xs,h1,h2,h3,h4,h5⟩:=h;exact⟨a,xs,h1,e _ _ h2,h3,h4,h5.mono (aD e)⟩
 |arg ds=>obtain⟨a,xs,h1,h2,h3,h4,h5⟩:=h;exact⟨a,xs,h1,e _ _ h2,h3,h4,h5.mono (aD e)⟩
 |ob b=>obtain⟨a,h1,h2⟩:=h;exact⟨a,h1,h2.mono (λ_ x _=>e x) (aD e) λ_ _ _ q=>q⟩
theorem SR.ext(h:SR K c hid ρ σ H)(e:Same H H'):SR K c hid ρ σ H' where
 tr:=λb hb=>let⟨o,q⟩:=h.tr b hb;⟨o,e _ _ q⟩
 ht:=λb xs hb q=>let⟨o,w⟩:=h.tr b hb;by have z:=e _ _ w;rw[q] at z;cases z;exact h.ht b xs hb w
 h0:=h.h0
 kp:=λb o q m=>e _ _ (h.kp b o q m)
 t0:=λb o q=>let⟨o',q'⟩:=h.t0 b o q;⟨o',e _ _ q'⟩
 c0:=h.c0
 m0:=h.m0
 len:=h.len
 sl:=λi s q=>(h.sl i s q).ext e
 ap:=h.ap
def Ap(hid:a7)(H:Hp):Prop:=(∀b,hid b=true-> ∃o,H b=some o)/\ ∀b xs,hid b=true->H b≠some (.tup xs)
theorem SR.trk(h:SR K c hid ρ σ H):Ap hid H:=⟨h.tr,h.ht⟩
theorem SR.fresh(h:SR K c hid ρ σ H){a:Addr}(n:H a=none):hid a=false:=by
 cases e:hid a with
 |false=>rfl
 |true=>obtain⟨o,q⟩:=h.tr a e;rw[n] at q;cases q
theorem SR.fresh0(h:SR K c hid ρ σ H){a:Addr}(n:H a=none):c.H₀ a=none:=by
 cases e:c.H₀ a with
 |none=>rfl
 |some o=>obtain⟨o',q⟩:=h.t0 a o e;rw[n] at q;cases q
end
inductive Kd where
 |b|s|n
 deriving DecidableEq
def Rep1(K:Il)(H W:Hp)(v:V)(d:D):Prop:=Rep K W v d\/ ∃a xs ds,v=.ref a/\d=.lst ds/\H a=some (.lst xs)/\Reps K W xs ds
def RN(K:Il)(H H':Hp)(hid:a7)(v:V)(d:D):Prop:= ∃a xs ds,d=.lst ds/\v=.ref a/\H a=none/\H' a=some (.lst xs)/\Reps K (vw H' (aJ hid a)) xs ds
def RK(K:Il)(k:Kd)(H H':Hp)(hid:a7)(v:V)(d:D):Prop:=match k with
 | .b=>Rep1 K H' (vw H' hid) v d
 | .s=>Rep K (vw H' hid) v d
 | .n=>RN K H H' hid v d
section
variable {K:Il}{c:Ct}{hid:a7}{ρ:aA}{σ:St}{H H' H'':Hp}{i:Nat}{v:V}{d:D}
theorem RN.rep(h:RN K H H' hid v d)(hf: ∀a,H a=none->hid a=false):Rep K (vw H' hid) v d:=by
 obtain⟨a,xs,ds,rfl,rfl,h1,h2,h3⟩:=h
 refine .lst (vw_some.mpr ⟨hf a h1,h2⟩) (h3.mono (cL λb q=>?_))
 unfold aJ;rw[q];rfl
theorem RK.b(k:Kd)(h:RK K k H H' hid v d)(hf: ∀a,H a=none->hid a=false):Rep1 K H' (vw H' hid) v d:=by
 cases k with
 |b=>exact h
 |s=>exact .inl h
 |n=>exact .inl (RN.rep h hf)
theorem Rep1.ext {hid:a7}(h:Rep1 K H (vw H hid) v d)(e:Same H H'):Rep1 K H' (vw H' hid) v d:=by
 rcases h with h|⟨a,xs,ds,h1,h2,h3,h4⟩
 ·exact .inl (h.mono (aD e))
 ·exact .inr ⟨a,xs,ds,h1,h2,e _ _ h3,h4.mono (aD e)⟩
theorem Rep1.int {i:Int}(h:Rep1 K H (vw H hid) v (.int i)):v=.int i:=by
 rcases h with h|⟨a,xs,ds,h1,h2,_⟩
 ·cases h;rfl
 ·cases h2
theorem Rep1.bl {i:Bool}(h:Rep1 K H (vw H hid) v (.bl i)):v=.bl i:=by
 rcases h with h|⟨a,xs,ds,h1,h2,_⟩
 ·cases h;rfl
 ·cases h2
theorem Rep1.str {i:Str}(h:Rep1 K H (vw H hid) v (.str i)):v=.str i:=by
 rcases h with h|⟨a,xs,ds,h1,h2,_⟩
 ·cases h;rfl
 ·cases h2
theorem Rep1.non(h:Rep1 K H (vw H hid) v .non):v=.non:=by
 rcases h with h|⟨a,xs,ds,h1,h2,_⟩
 ·cases h;rfl
 ·cases h2
theorem Rep1.tup {ds:List D}(h:Rep1 K H (vw H hid) v (.tup ds)): ∃a xs,v=.ref a/\SqT K (vw H hid) a xs/\SqT K H a xs/\Reps K (vw H hid) xs ds:=by
 rcases h with h|⟨a,xs,ds,h1,h2,_⟩
 ·cases h with
  |tup q r=>exact⟨_,_,rfl,q,Same.seqT (bF _ _) q,r⟩
 ·cases h2
theorem Rep1.lst {ds:List D}(h:Rep1 K H (vw H hid) v (.lst ds)): ∃a xs,v=.ref a/\SqL K H a xs/\Reps K (vw H hid) xs ds:=by
 rcases h with h|⟨a,xs,ds,h1,h2,h3,h4⟩
 ·cases h with
  |lst q r=>exact⟨_,_,rfl,SqL.of (bF _ _ _ _ q),r⟩
 ·cases h2
  exact⟨a,xs,h1,SqL.of h3,h4⟩
theorem Rep1.scr {ds:List D}(h:Rep1 K H (vw H hid) v (.scr ds)): ∃a xs,v=.ref a/\SqL K H a xs/\Reps K (vw H hid) xs ds:=by
 rcases h with h|⟨a,xs,ds,h1,h2,h3,h4⟩
 ·cases h with
  |scr q r=>exact⟨_,_,rfl,(bF _ _).seq q.seq,r⟩
 ·cases h2
end
theorem PE.imp {X:Cx}{e:Expr}{t t':TE}(h:PE X e t)(i: ∀σ H Q,t' σ H Q->t σ H Q):PE X e t':=λaa s σ H Q I q=>h aa s σ H Q I (i σ H Q q)
theorem PT.imp {X:Cx}{e:Expr}{t t':TT}(h:PT X e t)(i: ∀σ H Q,t' σ H Q->t σ H Q):PT X e t':=λaa s σ H Q I q=>h aa s σ H Q I (i σ H Q q)
theorem PW.imp {X:Cx}{e:Expr}{t t':TT}(h:PW X e t)(i: ∀σ H Q,t' σ H Q->t σ H Q):PW X e t':=λwh aa s σ H Q I q=>h wh aa s σ H Q I (i σ H Q q)
theorem PA.imp {X:Cx}{e:List Expr}{t t':TA}(h:PA X e t)(i: ∀σ H Q,t' σ H Q->t σ H Q):PA X e t':=λp aa s σ H Q I q=>h p aa s σ H Q I (i σ H Q q)
theorem PS.imp {X:Cx}{e:Stmt}{t t':TS}(h:PS X e t)(i: ∀D σ H,t' D σ H->t D σ H):PS X e t':=λaa s σ H D I q=>h aa s σ H D I (i D σ H q)
theorem PSs.imp {X:Cx}{e:List Stmt}{t t':TS}(h:PSs X e t)(i: ∀D σ H,t' D σ H->t D σ H):PSs X e t':=λaa s σ H D I q=>h aa s σ H D I (i D σ H q)
abbrev FE:=aA->Option D
abbrev FT:=aA->Option Bool
abbrev FA:=aA->Option (List D)
def Cv(K:Il)(c:Ct)(hid:a7)(k:Kd)(f:FE)(ρ:aA):TE:=λσ H Q=>SR K c hid ρ σ H/\ ∃d,f ρ=some d/\ ∀v H',Same H H'->RK K k H H' hid v d->Q v H'
def GU(K:Il)(c:Ct)(hid:a7)(f:FT)(ρ:aA):TT:=λσ H Q=>SR K c hid ρ σ H/\ ∃d,f ρ=some d/\ ∀H',Same H H'->Q d H'
def HL(K:Il)(c:Ct)(hid:a7)(f:FA)(ρ:aA):TA:=λσ H Q=>SR K c hid ρ σ H/\ ∃d,f ρ=some d/\ ∀vs H',Same H H'->Reps K (vw H' hid) vs d->Q vs H'
def DP(X:Cx)(c:Ct)(k:Kd)(e:Expr)(f:FE):Prop:= ∀hid ρ,PE X e (Cv X.K c hid k f ρ)
def DT(X:Cx)(c:Ct)(e:Expr)(f:FT):Prop:= ∀hid ρ,PT X e (GU X.K c hid f ρ)
def DW(X:Cx)(c:Ct)(e:Expr)(f:FT):Prop:= ∀hid ρ,PW X e (GU X.K c hid f ρ)
def DA(X:Cx)(c:Ct)(es:List Expr)(f:FA):Prop:= ∀hid ρ,PA X es (HL X.K c hid f ρ)
section
variable {X:Cx}{c:Ct}{e a b:Expr}{es:List Expr}{f g:FE}{k:Kd}{pos:Pos}
theorem DP.toS(h:DP X c .n e f):DP X c .s e f:=λhid ρ=>PE.imp (h hid ρ) λσ H Q ⟨sr,d,hd,q⟩=>⟨sr,d,hd,λv H' s r=>q v H' s (RN.rep r λa n=>sr.fresh n)⟩
def ao(i:Nat):FE:=λρ=>match ρ[i]? with
 |some (.v d)=>some d
 |_=>none
def iL(i:Nat):FE:=λρ=>match ρ[i]? with
 |some (.v d)=>some d
 |some (.own ds)=>some (.lst ds)
 |some (.arg ds)=>some (.lst ds)
 |_=>none
theorem aj(i:Nat){x:Str}(hN:X.N[i]? =some x:=by rfl)(hv:jw X.env.scope x:=by first|exact Jp rfl|exact IQ (Jp rfl)|exact IQ (IQ rfl))(hd:(x==("__debug__":Str))=false:=by decide)
 (hcd:(x==("__classdict__":Str))=false:=by decide):DP X c .s (.Name x pos) (ao i):=λhid ρ=>PE.imp (pv i hN hv hd hcd) λσ H Q hq_=>by
 obtain⟨sr,d,hd,q⟩:=hq_
 unfold ao at hd;split at hd
 ·rename_i d' e'
  cases hd
  obtain⟨x,h1,h2⟩:=sr.sl i _ e'
  exact⟨x,h1,q x H (Same.refl _) h2⟩
 ·cases hd
theorem gM(i:Nat){x:Str}(hN:X.N[i]? =some x:=by rfl)(hv:jw X.env.scope x:=by first|exact Jp rfl|exact IQ (Jp rfl)|exact IQ (IQ rfl))(hd:(x==("__debug__":Str))=false:=by decide)
 (hcd:(x==("__classdict__":Str))=false:=by decide):DP X c .b (.Name x pos) (iL i):=λhid ρ=>PE.imp (pv i hN hv hd hcd) λσ H Q hq_=>by
 obtain⟨sr,d,hd,q⟩:=hq_
 unfold iL at hd;split at hd
 ·rename_i d' e'
  cases hd
  obtain⟨x,h1,h2⟩:=sr.sl i _ e'
  exact⟨x,h1,q x H (Same.refl _) (.inl h2)⟩
 ·rename_i d' e'
  cases hd
  obtain⟨a,xs,h1,h2,h3,h4,h5⟩:=sr.sl i _ e'
  exact⟨_,h1,q _ H (Same.refl _) (.inr ⟨a,xs,_,rfl,rfl,h2,h5⟩)⟩
 ·rename_i d' e'
  cases hd
  obtain⟨a,xs,h1,h2,h3,h4,h5⟩:=sr.sl i _ e'
  exact⟨_,h1,q _ H (Same.refl _) (.inr ⟨a,xs,_,rfl,rfl,h2,h5⟩)⟩
 ·cases hd
def ax(d:D):FE:=λ_=>some d
theorem ak {i:Int}{j pos}:DP X c .s (.Constant (.int i) j pos) (ax (.int i)):=λhid ρ=>PE.imp ux λσ H Q hq_=>by
 obtain⟨sr,d,hd,q⟩:=hq_
 cases hd;exact q _ H (Same.refl _) .int
theorem oJ {i:Bool}{j pos}:DP X c .s (.Constant (.bool i) j pos) (ax (.bl i)):=λhid ρ=>PE.imp Fa λσ H Q hq_=>by
 obtain⟨sr,d,hd,q⟩:=hq_
 cases hd;exact q _ H (Same.refl _) .bl
def aB(F:D->D->Option D)(f g:FE):FE:=λρ=>(f ρ).bind λx=>(g ρ).bind λy=>F x y
theorem zo {F:D->D->Option D}{ρ:aA}{d:D}(h:aB F f g ρ=some d): ∃x y,f ρ=some x/\g ρ=some y/\F x y=some d:=by
 unfold aB at h;cases e1:f ρ with
 |none=>rw[e1] at h;cases h
 |some x=>
  cases e2:g ρ with
  |none=>rw[e1,e2] at h;cases h
  |some y=>rw[e1,e2] at h;exact⟨x,y,rfl,rfl,h⟩
def nr(K:Il)(k:Kd)(r:R2)(F:D->D->Option D):Prop:= ∀(H:Hp) (hid:a7) (v u:V) (x y d:D) (Q:VK),(∀a,H a=none->hid a=false)->F x y=some d->Rep1 K H (vw H hid) v x->Rep1 K H (vw H hid) u y->
 (∀w H',Same H H'->RK K k H H' hid w d->Q w H')->r v u H Q
theorem RK.left {K:Il}{H H1 H':Hp}{hid:a7}{v:V}{d:D}(s:Same H H1)(h:RK K k H1 H' hid v d):RK K k H H' hid v d:=by
 cases k with
 |b=>exact h
 |s=>exact h
 |n=>
  obtain⟨a,xs,ds,h1,h2,h3,h4⟩:=h
  exact⟨a,xs,ds,h1,h2,s.free h3,h4⟩
theorem Gi {r:R2}{F:D->D->Option D}{k1 k2:Kd}{hid:a7}{ρ:aA}(hF:nr X.K k r F){σ:St}{H:Hp}{Q:VK}(h:Cv X.K c hid k (aB F f g) ρ σ H Q):EI r (Cv X.K c hid k1 f ρ) (Cv X.K c hid k2 g ρ) σ H Q:=by
 obtain⟨sr,d,hd,q⟩:=h
 obtain⟨x,y,e1,e2,e3⟩:=zo hd
 refine⟨sr,x,e1,λv H1 s1 r1=>⟨sr.ext s1,y,e2,λu H2 s2 r2=>?_⟩⟩
 have b1:=(RK.b k1 r1 λa n=>sr.fresh n).ext s2
 have b2:=RK.b k2 r2 λa n=>(sr.ext s1).fresh n
 exact hF H2 hid v u x y d Q (λa n=>((sr.ext s1).ext s2).fresh n) e3 b1 b2 λw H' s3 r3=>q w H' ((s1.trans s2).trans s3) (RK.left (s1.trans s2) r3)
theorem kZ {op:Uo}{r:R2}{F:D->D->Option D}{k1 k2:Kd}(ho:k8 X (LI op) r)(hF:nr X.K k r F)(ha:DP X c k1 a f)(hb:DP X c k2 b g):DP X c k (.BinOp a op b pos) (aB F f g):=λhid ρ=>
 PE.imp (Cj ho (ha hid ρ) (hb hid ρ)) λσ H Q h=>Gi hF h
theorem pE {op:WR}{r:R2}{F:D->D->Option D}{k1 k2:Kd}(ho:k8 X (L5 op) r)(hF:nr X.K .s r F)(ha:DP X c k1 a f)(hb:DP X c k2 b g)(hm:Mc op b=false):DP X c .s (.Compare a [op] [b] pos) (aB F f g):=λhid ρ=>
 PE.imp (Bk ho (ha hid ρ) (hb hid ρ) hm) λσ H Q h=>Gi hF h
def Bv:Option D->Option Bool
 |some (.bl b)=>some b
 |_=>none
theorem cz {op:WR}{r:R2}{F:D->D->Option D}{k1 k2:Kd}(ho:k8 X (L5 op) r)(hF:nr X.K .s r F)(ha:DP X c k1 a f)(hb:DP X c k2 b g)(hm:Mc op b=false):DT X c (.Compare a [op] [b] pos) (λρ=>Bv (aB F f g ρ)):=λhid ρ=>
 PT.imp (BI ho (ha hid ρ) (hb hid ρ) hm) λσ H Q hq_=>by
  obtain⟨sr,d,hd,q⟩:=hq_
  refine Gi (X:=X) (k:=.s) (F:=F) hF ?_
  dsimp only at hd;cases e:aB F f g ρ with
  |none=>rw[e] at hd;cases hd
  |some x=>
   rw[e] at hd;cases x with
   |bl z=>
    cases hd
    refine⟨sr,_,e,λv H' s r=>⟨d,?_,q H' s⟩⟩
    cases r;rfl
   |_=>cases hd
theorem du {r:R2}{F:D->D->Option D}{k1 k2:Kd}(hr:IxR X r)(hF:nr X.K k r F)(ha:DP X c k1 a f)(hb:DP X c k2 b g)(hs:oT b):DP X c k (.Subscript a b pos) (aB F f g):=λhid ρ=>
 PE.imp (CD hr (ha hid ρ) (hb hid ρ) hs) λσ H Q h=>Gi hF h
end
def i2(C:Int->Int->Bool)(G:Int->Int->D):D->D->Option D
 | .int i,.int j=>if C i j=true then some (G i j) else none
 |_,_=>none
section
variable {K:Il}
theorem pB {C:Int->Int->Bool}{G:Int->Int->D}{x y d:D}(h:i2 C G x y=some d): ∃i j,x=.int i/\y=.int j/\C i j=true/\d=G i j:=by
 unfold i2 at h;split at h
 ·split at h
  ·cases h;exact⟨_,_,rfl,rfl, ‹_›,rfl⟩
  ·cases h
 ·cases h
theorem Bl {C:Int->Int->Prop}{B:Int->Int->Bool}{g:Int->Int->Int}(hC: ∀i j,B i j=true->C i j):nr K .s (rI C λi j=>.int (g i j)) (i2 B λi j=>.int (g i j)):=by
 intro H hid v u x y d Q hf h r1 r2 q;obtain⟨i,j,rfl,rfl,hc,rfl⟩:=pB h
 cases r1.int;cases r2.int
 exact⟨i,j,rfl,rfl,hC i j hc,q _ H (Same.refl _) .int⟩
theorem wb {g:Int->Int->Int}:nr K .s (A7 λi j=>.int (g i j)) (i2 (λ_ _=>true) λi j=>.int (g i j)):=by
 intro H hid v u x y d Q hf h r1 r2 q;obtain⟨i,j,rfl,rfl,hc,rfl⟩:=pB h
 cases r1.int;cases r2.int
 exact⟨i,j,rfl,rfl,q _ H (Same.refl _) .int⟩
theorem lX {g:Int->Int->Bool}:nr K .s (A7 λi j=>.bl (g i j)) (i2 (λ_ _=>true) λi j=>.bl (g i j)):=by
 intro H hid v u x y d Q hf h r1 r2 q;obtain⟨i,j,rfl,rfl,hc,rfl⟩:=pB h
 cases r1.int;cases r2.int
 exact⟨i,j,rfl,rfl,q _ H (Same.refl _) .bl⟩
end
section
variable {X:Cx}{c:Ct}{e a b:Expr}{es rest:List Expr}{f g:FE}{p q:FT}{k:Kd}{pos:Pos}
def Fc:D->Option Bool
 | .non=>some false
 | .bl b=>some b
 | .int i=>some (i !=0)
 | .str y=>if y.length<=Iy then some ((y.length:Int) !=0) else none
 | .lst ds=>some (!ds.isEmpty)
 | .tup ds=>some (!ds.isEmpty)
 | .scr ds=>some (!ds.isEmpty)
theorem Reps.isEmpty {K:Il}{F:Hp}{xs:List V}{ds:List D}(r:Reps K F xs ds):xs.isEmpty=ds.isEmpty:=by cases r<;>rfl
theorem Dm {K:Il}{H:Hp}{hid:a7}{v:V}{d:D}{b:Bool}(h:Fc d=some b)(r:Rep1 K H (vw H hid) v d):DR K v H b:=by
 cases d with
 |non=>cases r.non;cases h;rfl
 |bl x=>cases r.bl;cases h;rfl
 |int i=>cases r.int;cases h;rfl
 |str y=>
  cases r.str
  have h':(if y.length<=Iy then some ((y.length:Int) !=0) else none)=some b:=h
  split at h'
  ·cases h';exact⟨‹_›,rfl⟩
  ·cases h'
 |lst ds=>
  obtain⟨a,xs,rfl,h1,h2⟩:=r.lst
  cases h
  exact .inl ⟨xs,h1,by rw[h2.isEmpty]⟩
 |tup ds=>
  obtain⟨a,xs,rfl,_,h1,h2⟩:=r.tup
  cases h
  exact .inr (.inl ⟨xs,h1,by rw[h2.isEmpty]⟩)
 |scr ds=>
  obtain⟨a,xs,rfl,h1,h2⟩:=r.scr
  cases h
  exact .inl ⟨xs,h1,by rw[h2.isEmpty]⟩
def fB(f:FE):FT:=λρ=>(f ρ).bind Fc
theorem jv(ha:DP X c k a f)(he: ∀whole,isTrue a X.env whole=(do let v <-whole;NH a.pos;NG [v] (truthy v)):=by intro _;rfl):DT X c a (fB f):=λhid ρ=>
 PT.imp (z7 (ha hid ρ) he) λσ H Q hq_=>by
  obtain⟨sr,d,hd,q⟩:=hq_
  unfold fB at hd;cases e:f ρ with
  |none=>rw[e] at hd;cases hd
  |some x=>
   rw[e] at hd;exact⟨sr,x,e,λv H' s r=>⟨d,Dm hd (RK.b k r λa n=>sr.fresh n),q H' s⟩⟩
def i6(p q:FT):FT:=λρ=>(p ρ).bind λb=>if b=true then q ρ else some false
def pS(p q:FT):FT:=λρ=>(p ρ).bind λb=>if b=true then some true else q ρ
def fF(p:FT):FT:=λρ=>(p ρ).map (!·)
theorem uV(ha:DT X c a p):DW X c (.BoolOp .And [a] pos) p:=λhid ρ=>pw_and1 (ha hid ρ)
theorem yQ(ha:DT X c a p):DW X c (.BoolOp .Or [a] pos) p:=λhid ρ=>pw_or1 (ha hid ρ)
theorem Aj(ha:DT X c a p)(hb:DW X c (.BoolOp .And (b::rest) pos) q):DW X c (.BoolOp .And (a::b::rest) pos) (i6 p q):=λhid ρ=>
 PW.imp (pw_and (ha hid ρ) (hb hid ρ)) λσ H Q hq_=>by
  obtain⟨sr,d,hd,hq⟩:=hq_
  unfold i6 at hd;cases e:p ρ with
  |none=>rw[e] at hd;cases hd
  |some x=>
   rw[e] at hd;refine⟨sr,x,e,λH1 s1=>?_⟩
   cases x with
   |true=>exact yu ⟨sr.ext s1,d,hd,λH2 s2=>hq H2 (s1.trans s2)⟩
   |false=>cases hd;exact zu (hq H1 s1)
theorem qS(ha:DT X c a p)(hb:DW X c (.BoolOp .Or (b::rest) pos) q):DW X c (.BoolOp .Or (a::b::rest) pos) (pS p q):=λhid ρ=>
 PW.imp (pw_or (ha hid ρ) (hb hid ρ)) λσ H Q hq_=>by
  obtain⟨sr,d,hd,hq⟩:=hq_
  unfold pS at hd;cases e:p ρ with
  |none=>rw[e] at hd;cases hd
  |some x=>
   rw[e] at hd;refine⟨sr,x,e,λH1 s1=>?_⟩
   cases x with
   |false=>exact zu ⟨sr.ext s1,d,hd,λH2 s2=>hq H2 (s1.trans s2)⟩
   |true=>cases hd;exact yu (hq H1 s1)
theorem DW.dt(h:DW X c e p):DT X c e p:=λhid ρ=>(h hid ρ).pt
theorem ku(ha:DT X c a p):DT X c (.UnaryOp .Not a pos) (fF p):=λhid ρ=>
 PT.imp (Dw (ha hid ρ)) λσ H Q hq_=>by
  obtain⟨sr,d,hd,hq⟩:=hq_
  unfold fF at hd;cases e:p ρ with
  |none=>rw[e] at hd;cases hd
  |some x=>rw[e] at hd;cases hd;exact⟨sr,x,e,λH1 s1=>hq H1 s1⟩
def xM(p:FT):FE:=λρ=>(p ρ).map D.bl
def cs(f:FE):FT:=λρ=>Bv (f ρ)
theorem l7 {ρ:aA}{b:Bool}(h:cs f ρ=some b):f ρ=some (.bl b):=by
 unfold cs Bv at h;split at h
 ·cases h;assumption
 ·cases h
theorem Ak(ha:DP X c .s a f)(hb:DP X c .s (.BoolOp .And (b::rest) pos) g):DP X c .s (.BoolOp .And (a::b::rest) pos) (xM (i6 (cs f) (cs g))):=λhid ρ=>
 PE.imp (CQ (ha hid ρ) (hb hid ρ)) λσ H Q hq_=>by
  obtain⟨sr,d,hd,hq⟩:=hq_
  unfold xM i6 at hd;cases e:cs f ρ with
  |none=>rw[e] at hd;cases hd
  |some x=>
   rw[e] at hd;refine⟨sr,_,l7 e,λv H1 s1 r=>?_⟩
   cases r
   refine⟨x,rfl,?_⟩
   cases x with
   |true=>
    refine yu ?_
    cases e2:cs g ρ with
    |none=>rw[show(some true:Option Bool).bind (λb=>if b=true then cs g ρ else some false)=cs g ρ from rfl,e2] at hd;cases hd
    |some y=>
     rw[show(some true:Option Bool).bind (λb=>if b=true then cs g ρ else some false)=cs g ρ from rfl,e2] at hd;cases hd
     exact⟨sr.ext s1,_,l7 e2,λv2 H2 s2 r2=>hq v2 H2 (s1.trans s2) r2⟩
   |false=>cases hd;exact zu (hq _ H1 s1 .bl)
theorem yW {op}(h:DP X c k a f):DP X c k (.BoolOp op [a] pos) f:=λhid ρ=>Ed (h hid ρ)
theorem DV(ha:DP X c .s a f):DP X c .s (.UnaryOp .Not a pos) (xM (fF (cs f))):=λhid ρ=>
 PE.imp (DY (ha hid ρ)) λσ H Q hq_=>by
  obtain⟨sr,d,hd,hq⟩:=hq_
  unfold xM fF at hd;cases e:cs f ρ with
  |none=>rw[e] at hd;cases hd
  |some x=>
   rw[e] at hd;cases hd;refine⟨sr,_,l7 e,λv H1 s1 r=>?_⟩
   cases r
   exact⟨x,rfl,hq _ H1 s1 .bl⟩
def CN(p:FT)(f g:FE):FE:=λρ=>(p ρ).bind λb=>if b=true then f ρ else g ρ
theorem E3 {t:Expr}(hk:k≠ .n)(ht:DT X c t p)(ha:DP X c k a f)(hb:DP X c k b g):DP X c k (.IfExp t a b pos) (CN p f g):=λhid ρ=>
 PE.imp (Aq (ht hid ρ) (ha hid ρ) (hb hid ρ)) λσ H Q hq_=>by
  obtain⟨sr,d,hd,hq⟩:=hq_
  unfold CN at hd;cases e:p ρ with
  |none=>rw[e] at hd;cases hd
  |some x=>
   rw[e] at hd;refine⟨sr,x,e,λH1 s1=>?_⟩
   have lf: ∀ {v H2},RK X.K k H1 H2 hid v d->RK X.K k H H2 hid v d:=λ{v H2} r=>RK.left s1 r
   cases x with
   |true=>exact yu ⟨sr.ext s1,d,hd,λv H2 s2 r=>hq v H2 (s1.trans s2) (lf r)⟩
   |false=>exact zu ⟨sr.ext s1,d,hd,λv H2 s2 r=>hq v H2 (s1.trans s2) (lf r)⟩
variable {r r':R2}{h:FE}{e3:Expr}
end
section
variable {X:Cx}{c:Ct}{e a b:Expr}{es rest:List Expr}{f g:FE}{fs:FA}{k:Kd}{pos:Pos}
def ag:FA:=λ_=>some []
def ae(f:FE)(fs:FA):FA:=λρ=>(f ρ).bind λd=>(fs ρ).map λr=>d::r
theorem mP {ρ:aA}{ds:List D}(h:ae f fs ρ=some ds): ∃d r,f ρ=some d/\fs ρ=some r/\ds=d::r:=by
 unfold ae at h;cases e1:f ρ with
 |none=>rw[e1] at h;cases h
 |some d=>
  cases e2:fs ρ with
  |none=>rw[e1,e2] at h;cases h
  |some r=>rw[e1,e2] at h;cases h;exact⟨d,r,rfl,rfl,rfl⟩
theorem az:DA X c [] ag:=λhid ρ=>PA.imp cy λσ H Q ⟨sr,d,hd,q⟩=>by cases hd;exact q [] H (Same.refl _) .nil
theorem ai(ha:DP X c .s e f)(hr:DA X c es fs)(hs:Iu (e::es) X.env=(false,eval e X.env)::Iu es X.env:=by rfl):DA X c (e::es) (ae f fs):=λhid ρ=>
 PA.imp (be (ha hid ρ) (hr hid ρ) hs) λσ H Q hq_=>by
  obtain⟨sr,d,hd,q⟩:=hq_
  obtain⟨d1,r,e1,e2,rfl⟩:=mP hd
  exact⟨sr,d1,e1,λv H1 s1 r1=>⟨sr.ext s1,r,e2,λvs H2 s2 r2=>q _ H2 (s1.trans s2) (.cons (Rep.mono (aD s2) r1) r2)⟩⟩
def bB(fs:FA):FE:=λρ=>(fs ρ).bind λds=>if ds.length<=Iy then some (.tup ds) else none
def cn(fs:FA):FE:=λρ=>(fs ρ).bind λds=>if ds.length<=Iy then some (.lst ds) else none
theorem wG {ρ:aA}{d:D}(h:bB fs ρ=some d): ∃ds,fs ρ=some ds/\ds.length<=Iy/\d=.tup ds:=by
 unfold bB at h;cases e1:fs ρ with
 |none=>rw[e1] at h;cases h
 |some ds=>
  rw[e1] at h;have h':(if ds.length<=Iy then some (D.tup ds) else none)=some d:=h
  split at h'
  ·cases h';exact⟨ds,rfl, ‹_›,rfl⟩
  ·cases h'
theorem wD {ρ:aA}{d:D}(h:cn fs ρ=some d): ∃ds,fs ρ=some ds/\ds.length<=Iy/\d=.lst ds:=by
 unfold cn at h;cases e1:fs ρ with
 |none=>rw[e1] at h;cases h
 |some ds=>
  rw[e1] at h;have h':(if ds.length<=Iy then some (D.lst ds) else none)=some d:=h
  split at h'
  ·cases h';exact⟨ds,rfl, ‹_›,rfl⟩
  ·cases h'
theorem aF {H:Hp}{p:Addr}(h:H p=none)(o:HO):Same H (aI H p o):=λb u q=>by rw[af (aQ q h)];exact q
theorem eU {K:Il}{H:Hp}{hid:a7}{p:Addr}{xs:List V}{ds:List D}(hn:H p=none)(hf:hid p=false)(r:Reps K (vw H hid) xs ds):Rep K (vw (aI H p (.tup xs)) hid) (.ref p) (.tup ds):=
 .tup (SqT.of (vw_some.mpr ⟨hf,ah⟩)) (r.mono (aD (aF hn _)))
theorem jk {K:Il}{H H0:Hp}{hid:a7}{p:Addr}{xs:List V}{ds:List D}(hn:H p=none)(s:Same H0 H)(r:Reps K (vw H hid) xs ds):RN K H0 (aI H p (.lst xs)) hid (.ref p) (.lst ds):=
 ⟨p,xs,ds,rfl,rfl,s.free hn,ah,by rw[mI hn];exact r⟩
theorem cA {x1}(h:DA X c es fs):DP X c .s (.Tuple es x1 pos) (bB fs):=λhid ρ=>PE.imp (tS (h hid ρ)) λσ H Q hq_=>by
 obtain⟨sr,d,hd,q⟩:=hq_
 obtain⟨ds,e1,hz,rfl⟩:=wG hd
 exact⟨sr,ds,e1,λvs H1 s1 r1=>⟨by rw[r1.length];exact hz,λp hp=>q _ _ (s1.trans (aF hp _)) (eU hp ((sr.ext s1).fresh hp) r1)⟩⟩
theorem cT(h:DA X c es fs):DP X c .n (.List es pos) (cn fs):=λhid ρ=>PE.imp (Ef (h hid ρ)) λσ H Q hq_=>by
 obtain⟨sr,d,hd,q⟩:=hq_
 obtain⟨ds,e1,hz,rfl⟩:=wD hd
 exact⟨sr,ds,e1,λvs H1 s1 r1=>⟨by rw[r1.length];exact hz,λp hp=>q _ _ (s1.trans (aF hp _)) (jk hp s1 r1)⟩⟩
abbrev Reps1(K:Il)(H W:Hp):List V->List D->Prop:=Paired (Rep1 K H W)
def HA(K:Il)(c:Ct)(hid:a7)(f:FA)(ρ:aA):TA:=λσ H Q=>SR K c hid ρ σ H/\ ∃d,f ρ=some d/\ ∀vs H',Same H H'->Reps1 K H' (vw H' hid) vs d->Q vs H'
def DB(X:Cx)(c:Ct)(es:List Expr)(f:FA):Prop:= ∀hid ρ,PA X es (HA X.K c hid f ρ)
theorem ce:DB X c [] ag:=λhid ρ=>PA.imp cy λσ H Q ⟨sr,d,hd,q⟩=>by cases hd;exact q [] H (Same.refl _) .nil
theorem bw(ha:DP X c k e f)(hr:DB X c es fs)(hs:Iu (e::es) X.env=(false,eval e X.env)::Iu es X.env:=by rfl):DB X c (e::es) (ae f fs):=λhid ρ=>
 PA.imp (be (ha hid ρ) (hr hid ρ) hs) λσ H Q hq_=>by
  obtain⟨sr,d,hd,q⟩:=hq_
  obtain⟨d1,r,e1,e2,rfl⟩:=mP hd
  exact⟨sr,d1,e1,λv H1 s1 r1=>⟨sr.ext s1,r,e2,λvs H2 s2 r2=>q _ H2 (s1.trans s2) (.cons ((RK.b k r1 λa n=>sr.fresh n).ext s2) r2)⟩⟩
def jZ(K:Il)(k:Kd)(r:List V->Hp->VK->Prop)(F:List D->Option D):Prop:= ∀(H:Hp) (hid:a7) (vs:List V) (ds:List D) (d:D) (Q:VK),(∀a,H a=none->hid a=false)->F ds=some d->Reps1 K H (vw H hid) vs ds->
 (∀w H',Same H H'->RK K k H H' hid w d->Q w H')->r vs H Q
def aq(F:List D->Option D)(fs:FA):FE:=λρ=>(fs ρ).bind F
theorem ge {F:List D->Option D}{ρ:aA}{d:D}(h:aq F fs ρ=some d): ∃ds,fs ρ=some ds/\F ds=some d:=by
 unfold aq at h;cases e1:fs ρ with
 |none=>rw[e1] at h;cases h
 |some ds=>rw[e1] at h;exact⟨ds,rfl,h⟩
theorem Fj {r:List V->Hp->VK->Prop}{F:List D->Option D}{hid:a7}{ρ:aA}(hF:jZ X.K k r F){σ:St}{H:Hp}{Q:VK}(h:Cv X.K c hid k (aq F fs) ρ σ H Q):GS r (HA X.K c hid fs ρ) σ H Q:=by
 obtain⟨sr,d,hd,q⟩:=h
 obtain⟨ds,e1,e2⟩:=ge hd
 exact⟨sr,ds,e1,λvs H1 s1 r1=>hF H1 hid vs ds d Q (λa n=>(sr.ext s1).fresh n) e2 r1 λw H' s2 r2=>q w H' (s1.trans s2) (RK.left s1 r2)⟩
variable {x:Str}{p:Pos}{id T:String}{r:List V->Hp->VK->Prop}{F:List D->Option D}
theorem bN(hc:eG X (.builtin id) r)(hF:jZ X.K k r F)(hm:X.mg x=none)(ha:DB X c (e::es) fs)(hg:Gl X x:=by rfl)(hv:J5 x=some (.builtin id):=by first|exact PySem.boot_len|rfl|kernel_rfl)(hn:x≠"__name__":=by decide)(hdb:(x==("__debug__":Str))=false:=by decide)
 (he:Iu (e::es) X.env=(false,eval e X.env)::Iu es X.env:=by rfl) (hpl:(Ko pos (Iu es X.env)).any (·.1)=false:=by rfl):DP X c k (.Call (.Name x p) (e::es) [] pos) (aq F fs):=λhid ρ=>
 PE.imp (mO hc hg hm hv (ha hid ρ) hn hdb he hpl) λσ H Q h=>Fj hF h
theorem xo(hc:eG X (.type T) r)(hF:jZ X.K k r F)(hm:X.mg x=none)(ha:DB X c (e::es) fs)(hg:Gl X x:=by rfl)(hv:J5 x=some (.type T):=by first|rfl|kernel_rfl)(hn:x≠"__name__":=by decide)(hdb:(x==("__debug__":Str))=false:=by decide)
 (he:Iu (e::es) X.env=(false,eval e X.env)::Iu es X.env:=by rfl) (hpl:(Ko pos (Iu es X.env)).any (·.1)=false:=by rfl):DP X c k (.Call (.Name x p) (e::es) [] pos) (aq F fs):=λhid ρ=>
 PE.imp (fU hc hg hm hv (ha hid ρ) hn hdb he hpl) λσ H Q h=>Fj hF h
end
section
variable {K:Il}
theorem Reps1.one {H W:Hp}{v:List V}{d:D}(r:Reps1 K H W v [d]): ∃x,v=[x]/\Rep1 K H W x d:=by
 cases r with
 |cons r t=>cases t;exact⟨_,rfl,r⟩
theorem Reps1.two {H W:Hp}{v:List V}{d d':D}(r:Reps1 K H W v [d,d']): ∃x y,v=[x,y]/\Rep1 K H W x d/\Rep1 K H W y d':=by
 cases r with
 |cons r t=>cases t with
  |cons r' t=>cases t;exact⟨_,_,rfl,r,r'⟩
def dB:List D->Option D
 | [.lst ds]=>some (.int ds.length)
 | [.tup ds]=>some (.int ds.length)
 | [.scr ds]=>some (.int ds.length)
 |_=>none
theorem jq:jZ K .s (λxs H Q=> ∃p ys,xs=[.ref p]/\(SqL K H p ys\/SqT K H p ys)/\Q (.int ys.length) H) dB:=by
 intro H hid vs ds d Q hf h r q;unfold dB at h;split at h
 ·cases h
  obtain⟨x,rfl,r1⟩:=Reps1.one r
  obtain⟨a,xs,rfl,h1,h2⟩:=r1.lst
  exact⟨a,xs,rfl,.inl h1,by rw[h2.length];exact q _ H (Same.refl _) .int⟩
 ·cases h
  obtain⟨x,rfl,r1⟩:=Reps1.one r
  obtain⟨a,xs,rfl,_,h1,h2⟩:=r1.tup
  exact⟨a,xs,rfl,.inr h1,by rw[h2.length];exact q _ H (Same.refl _) .int⟩
 ·cases h
  obtain⟨x,rfl,r1⟩:=Reps1.one r
  obtain⟨a,xs,rfl,h1,h2⟩:=r1.scr
  exact⟨a,xs,rfl,.inl h1,by rw[h2.length];exact q _ H (Same.refl _) .int⟩
 ·cases h
def nC:List D->Option D
 | [.int i]=>some (.int (if i<0 then -i else i))
 |_=>none
theorem zO:jZ K .s (λxs H Q=> ∃i,xs=[.int i]/\Q (.int (if i<0 then -i else i)) H) nC:=by
 intro H hid vs ds d Q hf h r q;unfold nC at h;split at h
 ·cases h
  obtain⟨x,rfl,r1⟩:=Reps1.one r
  cases r1.int
  exact⟨_,rfl,q _ H (Same.refl _) .int⟩
 ·cases h
def my:List D->Option D
 | [.int i,.int j]=>some (.int (if j<i then j else i))
 |_=>none
theorem B7:jZ K .s (λxs H Q=> ∃i j,xs=[.int i,.int j]/\Q (.int (if j<i then j else i)) H) my:=by
 intro H hid vs ds d Q hf h r q;unfold my at h;split at h
 ·cases h
  obtain⟨x,y,rfl,r1,r2⟩:=Reps1.two r
  cases r1.int;cases r2.int
  exact⟨_,_,rfl,q _ H (Same.refl _) .int⟩
 ·cases h
def zM:List D->Option D
 | [.lst ds]=>some (.lst ds)
 | [.tup ds]=>some (.lst ds)
 |_=>none
theorem A5:jZ K .n (λxs H Q=> ∃p ys,xs=[.ref p]/\(SqL K H p ys\/SqT K H p ys)/\ ∀l,H l=none->Q (.ref l) (aI H l (.lst ys))) zM:=by
 intro H hid vs ds d Q hf h r q;unfold zM at h;split at h
 ·cases h
  obtain⟨x,rfl,r1⟩:=Reps1.one r
  obtain⟨a,xs,rfl,h1,h2⟩:=r1.lst
  exact⟨a,xs,rfl,.inl h1,λl hl=>q _ _ (aF hl _) (jk hl (Same.refl _) h2)⟩
 ·cases h
  obtain⟨x,rfl,r1⟩:=Reps1.one r
  obtain⟨a,xs,rfl,_,h1,h2⟩:=r1.tup
  exact⟨a,xs,rfl,.inr h1,λl hl=>q _ _ (aF hl _) (jk hl (Same.refl _) h2)⟩
 ·cases h
def en:D->D->Option D
 | .lst ds,.int i=>rG ds i
 | .tup ds,.int i=>rG ds i
 | .scr ds,.int i=>rG ds i
 |_,_=>none
theorem pd {F:Hp}{xs:List V}{ds:List D}{i:Int}{d:D}(r:Reps K F xs ds)(h:rG ds i=some d): ∃x,rG xs i=some x/\Rep K F x d:=by
 unfold rG at h⊢;rw[r.length];cases e:wl ds.length i with
 |none=>rw[e] at h;cases h
 |some j=>
  rw[e] at h;obtain⟨x,h1,h2⟩:=r.get (i:=j) h
  exact⟨x,h1,h2⟩
theorem cP:nr K .s (HC K) en:=by
 intro H hid v u x y d Q hf h r1 r2 q;unfold en at h;split at h
 ·cases r2.int
  obtain⟨a,xs,rfl,h1,h2⟩:=r1.lst
  obtain⟨z,h3,h4⟩:=pd h2 h
  exact .inl ⟨a,xs,_,z,rfl,rfl,h1,h3,q _ H (Same.refl _) h4⟩
 ·cases r2.int
  obtain⟨a,xs,rfl,_,h1,h2⟩:=r1.tup
  obtain⟨z,h3,h4⟩:=pd h2 h
  exact .inr (.inl ⟨a,xs,_,z,rfl,rfl,h1,h3,q _ H (Same.refl _) h4⟩)
 ·cases r2.int
  obtain⟨a,xs,rfl,h1,h2⟩:=r1.scr
  obtain⟨z,h3,h4⟩:=pd h2 h
  exact .inl ⟨a,xs,_,z,rfl,rfl,h1,h3,q _ H (Same.refl _) h4⟩
 ·cases h
end
abbrev GE:=aA->Option (D×aA)
abbrev GA:=aA->Option (List D×aA)
def Kept(hid:a7)(H H':Hp):Prop:= ∀b o,H b=some o->hid b=false->H' b=some o
theorem Kept.of {hid:a7}{H H':Hp}(s:Same H H'):Kept hid H H':=λb o q _=>s b o q
theorem Kept.trans {hid:a7}{H H1 H2:Hp}(a:Kept hid H H1)(b:Kept hid H1 H2):Kept hid H H2:=λc o q h=>b c o (a c o q h) h
theorem Kept.vw {hid:a7}{H H':Hp}(a:Kept hid H H'):Same (vw H hid) (vw H' hid):=vj a
def PostE(K:Il)(c:Ct)(hid:a7)(k:Kd)(ρ':aA)(σ:St)(H H':Hp)(v:V)(d:D):Prop:=Kept hid H H'/\match k with
 | .n=> ∃a xs ds,d=.lst ds/\v=.ref a/\H a=none/\H' a=some (.lst xs)/\c.H₀ a=none/\hid a=false/\SR K c (aJ hid a) ρ' σ H'/\Reps K (vw H' (aJ hid a)) xs ds/\ ∀i:Nat,Ow ρ'[i]? ->σ[i]? ≠some (some (.ref a))
 |_=>SR K c hid ρ' σ H'/\Rep K (vw H' hid) v d
def FI(K:Il)(c:Ct)(hid:a7)(k:Kd)(f:GE)(ρ:aA):TE:=λσ H Q=>SR K c hid ρ σ H/\ ∃d ρ',f ρ=some (d,ρ')/\ ∀v H',PostE K c hid k ρ' σ H H' v d->Q v H'
def DE(X:Cx)(c:Ct)(k:Kd)(e:Expr)(f:GE):Prop:= ∀hid ρ,PE X e (FI X.K c hid k f ρ)
def pu(f:FE):GE:=λρ=>(f ρ).map λd=>(d,ρ)
theorem A6 {f:FE}{ρ ρ':aA}{d:D}(h:pu f ρ=some (d,ρ')):f ρ=some d/\ρ'=ρ:=by
 unfold pu at h;cases e:f ρ with
 |none=>rw[e] at h;cases h
 |some x=>rw[e] at h;cases h;exact⟨rfl,rfl⟩
section
variable {K:Il}{c:Ct}{hid hid':a7}{ρ:aA}{σ:St}{H H':Hp}{i:Nat}{a:Addr}
theorem aO {hid:a7}{a b:Addr}(h:hid b=true):aJ hid a b=true:=by unfold aJ;rw[h];rfl
theorem bf {hid:a7}{a:Addr}:aJ hid a a=true:=by unfold aJ;simp
theorem uG {hid:a7}{a b:Addr}(h:aJ hid a b=false):hid b=false/\b≠a:=by
 unfold aJ at h;cases e:hid b with
 |true=>rw[e] at h;cases h
 |false=>rw[e] at h;exact⟨rfl,by simpa using h⟩
theorem SR.hide(h:SR K c hid ρ σ H)(e:Same H H')(n:H a=none){o:HO}(ho:H' a=some o)(hn: ∀xs,o≠ .tup xs:=by intro _ e;cases e):SR K c (aJ hid a) ρ σ H':=by
 have sm:Same (vw H hid) (vw H' (aJ hid a)):=λb o q=>by
  obtain⟨q1,q2⟩:=vw_some.mp q
  refine vw_some.mpr ⟨?_,e _ _ q2⟩
  unfold aJ;rw[q1];have:b≠a:=aQ q2 n
  simp[this]
 refine⟨λb hb=>?_,λb xs hb q=>by
  by_cases eb:b=a
  ·subst eb;rw[ho] at q;exact hn _ (Je q)
  ·unfold aJ at hb
   exact(h.ext e).ht b xs (by simpa [eb] using hb) q,λb q=>aO (h.h0 b q),(h.ext e).kp,(h.ext e).t0,h.c0,h.m0,h.len,λi s q=>?_,h.ap⟩
 ·by_cases eb:b=a
  ·subst eb;exact⟨_,ho⟩
  ·unfold aJ at hb
   have:hid b=true:=by simpa [eb] using hb
   obtain⟨o',q⟩:=h.tr b this
   exact⟨o',e _ _ q⟩
 ·have z:=h.sl i s q
  cases s with
  |no=>trivial
  |v d=>obtain⟨x,h1,h2⟩:=z;exact⟨x,h1,h2.mono sm⟩
  |own ds=>obtain⟨a',xs,h1,h2,h3,h4,h5⟩:=z;exact⟨a',xs,h1,e _ _ h2,aO h3,h4,h5.mono sm⟩
  |arg ds=>obtain⟨a',xs,h1,h2,h3,h4,h5⟩:=z;exact⟨a',xs,h1,e _ _ h2,aO h3,h4,h5.mono sm⟩
  |ob b=>obtain⟨a',h1,h2⟩:=z;exact⟨a',h1,h2.mono (λ_ x _=>e x) sm λ_ _ _=>aO⟩
theorem SR.show (h:SR K c (aJ hid a) ρ σ H)(h0: ∀b,c.hid₀ b=true->hid b=true)(no: ∀i:Nat,Ow ρ[i]? ->σ[i]? ≠some (some (.ref a))){o:HO}(ha:H a=some o)(hn: ∀p u,o≠ .nst p u:=by intro _ _ e;cases e):SR K c hid ρ σ H:=by
 have sm:Same (vw H (aJ hid a)) (vw H hid):=cL λb q=>aO q
 have un: ∀b,b≠a->aJ hid a b=true->hid b=true:=λb nb hb=>by unfold aJ at hb;simpa [nb] using hb
 refine⟨λb hb=>h.tr b (aO hb),λb xs hb=>h.ht b xs (aO hb),h0,h.kp,h.t0,h.c0,h.m0,h.len,λi s q=>?_,h.ap⟩
 have z:=h.sl i s q
 cases s with
 |no=>trivial
 |v d=>obtain⟨x,h1,h2⟩:=z;exact⟨x,h1,h2.mono sm⟩
 |own ds=>
  obtain⟨a',xs,h1,h2,h3,h4,h5⟩:=z
  have:a'≠a:=λe=>by subst e;exact no i (by rw[q];trivial) h1
  exact⟨a',xs,h1,h2,un a' this h3,h4,h5.mono sm⟩
 |arg ds=>
  obtain⟨a',xs,h1,h2,h3,h4,h5⟩:=z
  have:a'≠a:=λe=>by subst e;exact no i (by rw[q];trivial) h1
  exact⟨a',xs,h1,h2,un a' this h3,h4,h5.mono sm⟩
 |ob b=>
  obtain⟨a',h1,h2⟩:=z
  exact⟨a',h1,h2.mono (λ_ _ _ _ q=>q) sm λow x hx=>un x (hx.ne (λe=>by subst e;exact no i (by rw[q];exact ow) h1) ha hn)⟩
theorem SR.notOw(h:SR K c hid ρ σ H)(n:hid a=false)(i:Nat)(o:Ow ρ[i]?):σ[i]? ≠some (some (.ref a)):=λe=>by
 cases q:ρ[i]? with
 |none=>rw[q] at o;exact o
 |some s=>
  rw[q] at o;have z:=h.sl i s q
  cases s with
  |no=>exact o
  |v d=>exact o
  |own ds=>obtain⟨a',xs,h1,h2,h3,_⟩:=z;rw[e] at h1;cases h1;rw[n] at h3;cases h3
  |arg ds=>obtain⟨a',xs,h1,h2,h3,_⟩:=z;rw[e] at h1;cases h1;rw[n] at h3;cases h3
  |ob b=>obtain⟨a',h1,h2⟩:=z;rw[e] at h1;cases h1;have:=h2.hid o;rw[n] at this;cases this
theorem SR.post {k:Kd}{v:V}{d:D}(h:SR K c hid ρ σ H)(e:Same H H')(r:RK K k H H' hid v d)(hk:k≠ .b):PostE K c hid k ρ σ H H' v d:=by
 cases k with
 |b=>exact absurd rfl hk
 |s=>exact⟨.of e,h.ext e,r⟩
 |n=>
  obtain⟨a,xs,ds,h1,h2,h3,h4,h5⟩:=r
  exact⟨.of e,a,xs,ds,h1,h2,h3,h4,h.fresh0 h3,h.fresh h3,h.hide e h3 h4,h5,h.notOw (h.fresh h3)⟩
theorem PostE.left {k:Kd}{ρ':aA}{H1:Hp}{v:V}{d:D}(s:Kept hid H H1)(p:PostE K c hid k ρ' σ H1 H' v d):PostE K c hid k ρ' σ H H' v d:=by
 cases k with
 |b=>exact⟨s.trans p.1,p.2⟩
 |s=>exact⟨s.trans p.1,p.2⟩
 |n=>
  obtain⟨kp,a,xs,ds,h1,h2,hn,h3,h4,h5,h6⟩:=p
  refine⟨s.trans kp,a,xs,ds,h1,h2,?_,h3,h4,h5,h6⟩
  cases e:H a with
  |none=>rfl
  |some o=>rw[s a o e h5] at hn;cases hn
theorem PostE.toS {ρ':aA}{v:V}{d:D}(h0: ∀b,c.hid₀ b=true->hid b=true)(p:PostE K c hid .n ρ' σ H H' v d):PostE K c hid .s ρ' σ H H' v d:=by
 obtain⟨kp,a,xs,ds,rfl,rfl,hn,h1,h2,h3,h4,h5,h6⟩:=p
 exact⟨kp,h4.show h0 h6 h1,.lst (vw_some.mpr ⟨h3,h1⟩) (h5.mono (cL λb q=>aO q))⟩
end
section
variable {X:Cx}{c:Ct}{e a b:Expr}{es rest:List Expr}{f g:GE}{k:Kd}{pos:Pos}
theorem DP.ef {f:FE}(h:DP X c k e f)(hk:k≠ .b:=by decide):DE X c k e (pu f):=λhid ρ=>PE.imp (h hid ρ) λσ H Q hq_=>by
 obtain⟨sr,d,ρ',hd,q⟩:=hq_
 obtain⟨h1,rfl⟩:=A6 hd
 exact⟨sr,d,h1,λv H' s r=>q v H' (sr.post s r hk)⟩
theorem DE.toS(h:DE X c .n e f):DE X c .s e f:=λhid ρ=>PE.imp (h hid ρ) λσ H Q ⟨sr,d,ρ',hd,q⟩=>⟨sr,d,ρ',hd,λv H' p=>q v H' (p.toS sr.h0)⟩
def bE {α:Type}(f:GE)(g:D->aA->Option α):aA->Option α:=λρ=>(f ρ).bind λp=>g p.1 p.2
theorem oO {α:Type}{g:D->aA->Option α}{ρ:aA}{z:α}(h:bE f g ρ=some z): ∃d ρ',f ρ=some (d,ρ')/\g d ρ'=some z:=by
 unfold bE at h;cases e:f ρ with
 |none=>rw[e] at h;cases h
 |some p=>rw[e] at h;exact⟨p.1,p.2,rfl,h⟩
def fA(F:D->D->Option D)(f g:GE):GE:=bE f λx=>bE g λy ρ=>(F x y).map λd=>(d,ρ)
theorem w8 {F:D->D->Option D}{ρ ρ':aA}{d:D}(h:fA F f g ρ=some (d,ρ')): ∃x ρ1 y,f ρ=some (x,ρ1)/\g ρ1=some (y,ρ')/\F x y=some d:=by
 obtain⟨x,ρ1,h1,h2⟩:=oO h
 obtain⟨y,ρ2,h3,h4⟩:=oO h2
 cases e:F x y with
 |none=>rw[e] at h4;cases h4
 |some z=>rw[e] at h4;cases h4;exact⟨x,ρ1,y,h1,h3,e⟩
theorem Fn {r:R2}{F:D->D->Option D}{hid:a7}{ρ:aA}(hF:nr X.K k r F)(hk:k≠ .b){σ:St}{H:Hp}{Q:VK}(h:FI X.K c hid k (fA F f g) ρ σ H Q):EI r (FI X.K c hid .s f ρ) (λσ H Q=> ∃ρ1,FI X.K c hid .s g ρ1 σ H Q) σ H Q:=by
 obtain⟨sr,d,ρ',hd,q⟩:=h
 obtain⟨x,ρ1,y,e1,e2,e3⟩:=w8 hd
 refine⟨sr,x,ρ1,e1,λv H1 ⟨k1,s1,r1⟩=>⟨ρ1,s1,y,ρ',e2,λu H2 ⟨k2,s2,r2⟩=>?_⟩⟩
 exact hF H2 hid v u x y d Q (λa n=>s2.fresh n) e3 (.inl (r1.mono k2.vw)) (.inl r2) λw H' s3 r3=>q w H' (PostE.left (k1.trans k2) (s2.post s3 r3 hk))
theorem iC {α:Type}{t:α->TE}(h: ∀z,PE X e (t z)):PE X e (λσ H Q=> ∃z,t z σ H Q):=λaa s σ H Q I ⟨z,q⟩=>h z aa s σ H Q I q
theorem xP {op:Uo}{r:R2}{F:D->D->Option D}(ho:k8 X (LI op) r)(hF:nr X.K k r F)(ha:DE X c .s a f)(hb:DE X c .s b g)(hk:k≠ .b:=by decide):DE X c k (.BinOp a op b pos) (fA F f g):=λhid ρ=>
 PE.imp (Cj ho (ha hid ρ) (iC λρ1=>hb hid ρ1)) λσ H Q h=>Fn hF hk h
def HV(K:Il)(c:Ct)(hid:a7)(f:GA)(ρ:aA):TA:=λσ H Q=>SR K c hid ρ σ H/\ ∃d ρ',f ρ=some (d,ρ')/\ ∀vs H',Kept hid H H'->SR K c hid ρ' σ H'->Reps K (vw H' hid) vs d->Q vs H'
def DG(X:Cx)(c:Ct)(es:List Expr)(f:GA):Prop:= ∀hid ρ,PA X es (HV X.K c hid f ρ)
def b9(f:FA):GA:=λρ=>(f ρ).map λd=>(d,ρ)
theorem rE {f:FA}{ρ ρ':aA}{d:List D}(h:b9 f ρ=some (d,ρ')):f ρ=some d/\ρ'=ρ:=by
 unfold b9 at h;cases e:f ρ with
 |none=>rw[e] at h;cases h
 |some x=>rw[e] at h;cases h;exact⟨rfl,rfl⟩
theorem DA.gf {f:FA}(h:DA X c es f):DG X c es (b9 f):=λhid ρ=>PA.imp (h hid ρ) λσ H Q hq_=>by
 obtain⟨sr,d,ρ',hd,q⟩:=hq_
 obtain⟨h1,rfl⟩:=rE hd
 exact⟨sr,d,h1,λv H' s r=>q v H' (.of s) (sr.ext s) r⟩
def eX(f:GE)(fs:GA):GA:=bE f λd ρ=>(fs ρ).map λp=>(d::p.1,p.2)
theorem GL {α:Type}{t:α->TA}(h: ∀z,PA X es (t z)):PA X es (λσ H Q=> ∃z,t z σ H Q):=λp aa s σ H Q I ⟨z,q⟩=>h z p aa s σ H Q I q
theorem lF {fs:GA}(ha:DE X c .s e f)(hr:DG X c es fs)(hs:Iu (e::es) X.env=(false,eval e X.env)::Iu es X.env:=by rfl):DG X c (e::es) (eX f fs):=λhid ρ=>
 PA.imp (be (ha hid ρ) (GL λρ1=>hr hid ρ1) hs) λσ H Q hq_=>by
  obtain⟨sr,d,ρ',hd,q⟩:=hq_
  obtain⟨d1,ρ1,e1,h2⟩:=oO hd
  cases e2:fs ρ1 with
  |none=>rw[e2] at h2;cases h2
  |some p=>
   rw[e2] at h2;obtain⟨ds,ρ2⟩:=p
   cases h2
   exact⟨sr,d1,ρ1,e1,λv H1 ⟨k1,s1,r1⟩=>⟨ρ1,s1,ds,_,e2,λvs H2 k2 s2 r2=>q _ H2 (k1.trans k2) s2 (.cons (r1.mono k2.vw) r2)⟩⟩
end
def fj(K:Il)(k:Kd)(n:Nat)(P:List D->Option D):Sp:=λvs H Q _=> ∃hid ds,Ap hid H/\Reps K (vw H hid) vs ds/\ds.length=n/\ ∃d,P ds=some d/\ ∀v H',Same H H'->RK K k H H' hid v d->Q v H'
def Fk(K:Il)(k:Kd)(hid:a7)(H H':Hp)(v:V)(d:D)(xs':List V)(bs':List D):Prop:=match k with
 | .n=> ∃p ys es,d=.lst es/\v=.ref p/\H p=none/\H' p=some (.lst ys)/\Reps K (vw H' (aJ hid p)) ys es/\Reps K (vw H' (aJ hid p)) xs' bs'
 |_=>Rep K (vw H' hid) v d/\Reps K (vw H' hid) xs' bs'
def Ay(K:Il)(k:Kd)(n:Nat)(M:List D->List D->Option (D×List D)):Sp:=λvs H Q _=> ∃hid a xs bs us ds,vs=.ref a::us/\Ap hid H/\hid a=true/\H a=some (.lst xs)/\Reps K (vw H hid) xs bs/\
 Reps K (vw H hid) us ds/\ds.length=n/\ ∃d bs',M bs ds=some (d,bs')/\ ∀v H' xs',(∀b o,H b=some o->b≠a->H' b=some o)->H' a=some (.lst xs')->Fk K k hid H H' v d xs' bs'->Q v H'
section
variable {X:Cx}{c:Ct}{e a b:Expr}{es rest:List Expr}{k:Kd}{pos p:Pos}{x:Str}{f:Addr}{fd:K6}{ps:List Str}{j n:Nat}
theorem Bx {P:List D->Option D}{fs:FA}(F:FnOk X.prog X.w X.K X.mg X.base oA j f fd ps (fj X.K k n P))(hr:Room j X.A)(hm:X.mg x=some (.ref f))(hk:Nn X.K (.ref f)=true)(hb:Binds X.K fd ps [])
 (ha:DA X c (e::es) fs) (hg:Gl X x:=by rfl) (hdb:(x==("__debug__":Str))=false:=by decide) (he:Iu (e::es) X.env=(false,eval e X.env)::Iu es X.env:=by rfl) (hpl:(Ko pos (Iu es X.env)).any (·.1)=false:=by rfl):
 DP X c k (.Call (.Name x p) (e::es) [] pos) (aq (λds=>if ds.length=n then P ds else none) fs):=λhid ρ=>
 PE.imp (iX F hr hg hm hk hb .nil (nW (X:=X)) (ha hid ρ) hdb he hpl) λσ H Q hq_=>by
  obtain⟨sr,d,hd,q⟩:=hq_
  obtain⟨ds,e1,e2⟩:=ge hd
  have e2':(if ds.length=n then P ds else none)=some d:=e2
  split at e2'
  ·refine⟨sr,ds,e1,λvs H1 s1 r1=>?_⟩
   show fj X.K k n P (vs++[]) H1 Q E0;rw[JF];exact⟨hid,ds,(sr.ext s1).trk,r1, ‹_›,d,e2',λv H' s2 r2=>q v H' (s1.trans s2) (RK.left s1 r2)⟩
  ·cases e2'
def eK(i:Nat)(bs:List D)(ρ:aA):aA:=match ρ[i]? with
 |some (.own _)=>ρ.set i (.own bs)
 |some (.arg _)=>ρ.set i (.arg bs)
 |_=>ρ
def eI(i:Nat)(ρ:aA):Option (List D):=match ρ[i]? with
 |some (.own ds)=>some ds
 |some (.arg ds)=>some ds
 |_=>none
theorem f8 {i:Nat}{ρ:aA}{bs:List D}(h:eI i ρ=some bs):ρ[i]? =some (.own bs)\/ρ[i]? =some (.arg bs):=by
 unfold eI at h;split at h
 ·cases h;exact .inl ‹_›
 ·cases h;exact .inr ‹_›
 ·cases h
theorem SR.held {K:Il}{hid:a7}{ρ:aA}{σ:St}{H:Hp}{i:Nat}{bs:List D}(h:SR K c hid ρ σ H)(hg:eI i ρ=some bs): ∃a xs,σ[i]? =some (some (.ref a))/\H a=some (.lst xs)/\hid a=true/\Reps K (vw H hid) xs bs/\(c.mu a=true\/c.H₀ a=none):=by
 rcases f8 hg with e|e
 ·obtain⟨a,xs,h1,h2,h3,h4,h5⟩:=h.sl i _ e
  exact⟨a,xs,h1,h2,h3,h5,.inr h4⟩
 ·obtain⟨a,xs,h1,h2,h3,h4,h5⟩:=h.sl i _ e
  exact⟨a,xs,h1,h2,h3,h5,.inl h4⟩
theorem ja {i j:Nat}{ρ:aA}{bs:List D}(h:j≠i):(eK i bs ρ)[j]? =ρ[j]? :=by
 unfold eK;split
 ·rw[Iv (IT h)]
 ·rw[Iv (IT h)]
 ·rfl
theorem zw {i:Nat}{ρ:aA}{bs:List D}:(eK i bs ρ).length=ρ.length:=by
 unfold eK;split
 ·simp
 ·simp
 ·rfl
theorem po {i j:Nat}{ρ:aA}{bs:List D}(h:Ow (eK i bs ρ)[j]?):Ow ρ[j]? :=by
 by_cases e:j=i
 ·subst e
  unfold eK at h;split at h
  ·rw[‹ρ[j]? =_›];trivial
  ·rw[‹ρ[j]? =_›];trivial
  ·exact h
 ·rw[ja e] at h;exact h
theorem SR.put {K:Il}{hid:a7}{ρ:aA}{σ:St}{H H':Hp}{i:Nat}{bs bs':List D}{a:Addr}{xs':List V}(h:SR K c hid ρ σ H)(hg:eI i ρ=some bs)(ha:σ[i]? =some (some (.ref a)))(kp: ∀b o,H b=some o->b≠a->H' b=some o)
 (hx:H' a=some (.lst xs')) (r:Reps K (vw H' hid) xs' bs'):SR K c hid (eK i bs' ρ) σ H':=by
 obtain⟨a1,xs,h1,h2,h3,h4,h5⟩:=h.held hg
 rw[ha] at h1;cases h1;have sm:Same (vw H hid) (vw H' hid):=vj λb o q hb=>kp b o q (λe=>by subst e;rw[h3] at hb;cases hb)
 have tr': ∀b o,H b=some o-> ∃o',H' b=some o':=λb o q=>by
  by_cases e:b=a
  ·subst e;exact⟨_,hx⟩
  ·exact⟨o,kp b o q e⟩
 refine⟨λb hb=>let⟨o,q⟩:=h.tr b hb;tr' b o q,λb xs hb q=>by
  by_cases e:b=a
  ·subst e;rw[hx] at q;cases q
  ·obtain⟨o,w⟩:=h.tr b hb
   have z:=kp b o w e
   rw[q] at z;cases z;exact h.ht b xs hb w,h.h0,λb o q m=>?_,λb o q=>let⟨o',q'⟩:=h.t0 b o q;tr' b o' q',h.c0,h.m0,by rw[zw];exact h.len,λj s q=>?_,λj l z n o1 o2=>h.ap j l z n (po o1) (po o2)⟩
 ·refine kp b o (h.kp b o q m) λe=>?_
  subst e;rcases h5 with h5|h5
  ·rw[h5] at m;cases m
  ·rw[h5] at q;cases q
 ·by_cases e:j=i
  ·subst e
   rcases f8 hg with w|w
   ·have lt:=(IA.mp w).1
    unfold eK at q;rw[w] at q;dsimp only at q;rw[ID lt] at q;cases q
    obtain⟨a2,xs2,g1,g2,g3,g4,g5⟩:=h.sl j _ w
    rw[ha] at g1;cases g1;exact⟨_,xs',ha,hx,g3,g4,r⟩
   ·have lt:=(IA.mp w).1
    unfold eK at q;rw[w] at q;dsimp only at q;rw[ID lt] at q;cases q
    obtain⟨a2,xs2,g1,g2,g3,g4,g5⟩:=h.sl j _ w
    rw[ha] at g1;cases g1;exact⟨_,xs',ha,hx,g3,g4,r⟩
  ·rw[ja e] at q
   have z:=h.sl j s q
   cases s with
   |no=>trivial
   |v d=>obtain⟨x,h1,h2⟩:=z;exact⟨x,h1,h2.mono sm⟩
   |own ds=>
    obtain⟨a',xs,z1,z2,z3,z4,z5⟩:=z
    have ne:a'≠a:=λe'=>by
     subst e';refine h.ap j i a' e (by rw[q];trivial) ?_ z1 ha
     rcases f8 hg with w|w<;>rw[w]<;>trivial
    exact⟨a',xs,z1,kp _ _ z2 ne,z3,z4,z5.mono sm⟩
   |arg ds=>
    obtain⟨a',xs,z1,z2,z3,z4,z5⟩:=z
    have ne:a'≠a:=λe'=>by
     subst e';refine h.ap j i a' e (by rw[q];trivial) ?_ z1 ha
     rcases f8 hg with w|w<;>rw[w]<;>trivial
    exact⟨a',xs,z1,kp _ _ z2 ne,z3,z4,z5.mono sm⟩
   |ob b=>
    obtain⟨a',z1,z2⟩:=z
    refine⟨a',z1,z2.mono (λow x hx o w=>kp _ _ w (hx.ne (λe'=>?_) h2)) sm λ_ _ _ w=>w⟩
    subst e';refine h.ap j i a' e (by rw[q];exact ow) ?_ z1 ha
    rcases f8 hg with w|w<;>rw[w]<;>trivial
def bu(i n:Nat)(M:List D->List D->Option (D×List D))(fs:GA):GE:=λρ=>match eI i ρ with
 |none=>none
 |some _=>match fs ρ with
  |none=>none
  |some (ds,ρ1)=>match eI i ρ1 with
   |none=>none
   |some bs=>if ds.length=n then match M bs ds with
     |none=>none
     |some (d,bs')=>some (d,eK i bs' ρ1) else none
theorem mw {i:Nat}{M:List D->List D->Option (D×List D)}{fs:GA}{ρ ρ':aA}{d:D}(h:bu i n M fs ρ=some (d,ρ')): ∃bs0 ds ρ1 bs bs',eI i ρ=some bs0/\fs ρ=some (ds,ρ1)/\eI i ρ1=some bs/\ds.length=n/\M bs ds=some (d,bs')/\ρ'=eK i bs' ρ1:=by
 unfold bu at h;split at h
 ·cases h
 ·split at h
  ·cases h
  ·split at h
   ·cases h
   ·split at h
    ·split at h
     ·cases h
     ·cases h;exact⟨_,_,_,_,_, ‹_›, ‹_›, ‹_›, ‹_›, ‹_›,rfl⟩
    ·cases h
theorem yS(i:Nat){y:Str}{py:Pos}{M:List D->List D->Option (D×List D)}{fs:GA}(F:FnOk X.prog X.w X.K X.mg X.base oA j f fd ps (Ay X.K k n M))(hr:Room j X.A)(hm:X.mg x=some (.ref f))(hk:Nn X.K (.ref f)=true)(hb:Binds X.K fd ps [])
 (ha:DG X c es fs) (hkb:k≠ .b:=by decide) (hN:X.N[i]? =some y:=by rfl) (hv:jw X.env.scope y:=by first|exact Jp rfl|exact IQ (Jp rfl)|exact IQ (IQ rfl)) (hd:(y==("__debug__":Str))=false:=by decide)
 (hcd:(y==("__classdict__":Str))=false:=by decide) (hs:Iu (.Name y py::es) X.env=(false,eval (.Name y py) X.env)::Iu es X.env:=by rfl) (hg:Gl X x:=by rfl) (hdb:(x==("__debug__":Str))=false:=by decide) (hpl:(Ko pos (Iu es X.env)).any (·.1)=false:=by rfl):
 DE X c k (.Call (.Name x p) (.Name y py::es) [] pos) (bu i n M fs):=λhid ρ=>
 PE.imp (iX F hr hg hm hk hb .nil (nW (X:=X)) (be (pv i hN hv hd hcd) (ha hid ρ) hs) hdb hs hpl) λσ H Q hq_=>by
  obtain⟨sr,d,ρ',hd',q⟩:=hq_
  obtain⟨bs0,ds,ρ1,bs,bs',e0,e1,e2,e3,e4,rfl⟩:=mw hd'
  obtain⟨a,xs0,a1,_,a3,_,_⟩:=sr.held e0
  refine⟨.ref a,a1,sr,ds,ρ1,e1,λus H1 k1 s1 r1=>?_⟩
  obtain⟨a',xs,b1,b2,b3,b4,b5⟩:=s1.held e2
  rw[a1] at b1;cases b1;show Ay X.K k n M ((.ref a::us)++[]) H1 Q E0;rw[JF];refine⟨hid,a,xs,bs,us,ds,rfl,s1.trk,b3,b2,b4,r1,e3,d,bs',e4,λv H' xs' kp hx hr'=>q v H' ?_⟩
  have kp':Kept hid H1 H':=λb o q hb=>kp b o q λe=>by subst e;rw[b3] at hb;cases hb
  cases k with
  |b=>exact absurd rfl hkb
  |s=>exact⟨k1.trans kp',s1.put e2 a1 kp hx hr'.2,hr'.1⟩
  |n=>
   obtain⟨p',ys,es',rfl,rfl,h1,h2,h3,h4⟩:=hr'
   have np:hid p'=false:=s1.fresh h1
   have na:a≠p':=λe=>by subst e;rw[b2] at h1;cases h1
   have sB:SR X.K c (aJ hid p') ρ1 σ (aI H1 p' (.lst ys)):=s1.hide (aF h1 _) h1 ah
   have kp2: ∀b o,(aI H1 p' (.lst ys)) b=some o->b≠a->H' b=some o:=λb o z hb=>by
    by_cases e:b=p'
    ·subst e;rw[ah] at z;cases z;exact h2
    ·rw[af e] at z;exact kp b o z hb
   have sC:SR X.K c (aJ hid p') (eK i bs' ρ1) σ H':=sB.put e2 a1 kp2 hx h4
   have hn:H p'=none:=by
    cases e:H p' with
    |none=>rfl
    |some o=>rw[k1 p' o e np] at h1;cases h1
   refine⟨k1.trans kp',p',ys,es',rfl,rfl,hn,h2,s1.fresh0 h1,np,sC,h3,λm hm hσ=>?_⟩
   have:=s1.notOw np m (po hm)
   exact this hσ
end
inductive Out where
 |nx (ρ:aA)|rt (d:D) (ρ:aA)|bk (ρ:aA)|ct (ρ:aA)|no
abbrev FS:=aA->Out
def GG(c:Ct)(k:Kd)(v:V):a7:=match k,v with
 | .n,.ref a=>aJ c.hid₀ a
 |_,_=>c.hid₀
structure Ret(K:Il)(c:Ct)(k:Kd)(ρ':aA)(H':Hp)(v:V)(d:D):Prop where
 kp: ∀b o,c.H₀ b=some o->c.mu b=false->H' b=some o
 val:match k with
  | .n=> ∃a xs ds,d=.lst ds/\v=.ref a/\c.H₀ a=none/\H' a=some (.lst xs)/\Reps K (vw H' (aJ c.hid₀ a)) xs ds
  |_=>Rep K (vw H' c.hid₀) v d
 arg: ∀(i:Nat) (bs:List D),ρ'[i]? =some (Sl.arg bs)-> ∃a xs,c.mu a=true/\H' a=some (.lst xs)/\Reps K (vw H' (GG c k v)) xs bs
def EndOk(K:Il)(c:Ct)(k:Kd)(D:Ends)(W:Hp):Out->Prop
 | .nx ρ'=> ∀σ' H' hid',SR K c hid' ρ' σ' H'->Same W (vw H' hid')->D.nx σ' H'
 | .rt d ρ'=> ∀v H',Ret K c k ρ' H' v d->D.rt v H'
 | .bk ρ'=> ∀σ' H' hid',SR K c hid' ρ' σ' H'->Same W (vw H' hid')->D.bk σ' H'
 | .ct ρ'=> ∀σ' H' hid',SR K c hid' ρ' σ' H'->Same W (vw H' hid')->D.ct σ' H'
 | .no=>False
theorem EndOk.mono {K:Il}{c:Ct}{k:Kd}{D:Ends}{W W':Hp}{o:Out}(h:EndOk K c k D W o)(s:Same W W'):EndOk K c k D W' o:=by
 cases o with
 |nx ρ=>exact λσ' H' hid' z w=>h σ' H' hid' z (s.trans w)
 |rt d ρ=>exact h
 |bk ρ=>exact λσ' H' hid' z w=>h σ' H' hid' z (s.trans w)
 |ct ρ=>exact λσ' H' hid' z w=>h σ' H' hid' z (s.trans w)
 |no=>exact h
def Hw(K:Il)(c:Ct)(k:Kd)(t:FS)(ρ:aA):TS:=λD σ H=> ∃hid,SR K c hid ρ σ H/\EndOk K c k D (vw H hid) (t ρ)
def DS(X:Cx)(c:Ct)(k:Kd)(st:Stmt)(t:FS):Prop:= ∀ρ,PS X st (Hw X.K c k t ρ)
def tt(X:Cx)(c:Ct)(k:Kd)(st:List Stmt)(t:FS):Prop:= ∀ρ,PSs X st (Hw X.K c k t ρ)
section
variable {X:Cx}{c:Ct}{k:Kd}{st:Stmt}{sts rest:List Stmt}{t u:FS}{e:Expr}{pos:Pos}
theorem yx {α:Type}{t:α->TS}(h: ∀z,PSs X sts (t z)):PSs X sts (λD σ H=> ∃z,t z D σ H):=λaa s σ H D I ⟨z,q⟩=>h z aa s σ H D I q
theorem Hl {α:Type}{t:α->TT}(h: ∀z,PT X e (t z)):PT X e (λD σ H=> ∃z,t z D σ H):=λaa s σ H D I ⟨z,q⟩=>h z aa s σ H D I q
def skip:FS:=λρ=>.nx ρ
def aS(t u:FS):FS:=λρ=>match t ρ with
 | .nx ρ'=>u ρ'
 | .rt d ρ'=>.rt d ρ'
 | .bk ρ'=>.bk ρ'
 | .ct ρ'=>.ct ρ'
 | .no=>.no
theorem di:tt X c k [] skip:=λρ=>PSs.imp Bg λD σ H ⟨hid,sr,q⟩=>q σ H hid sr (Same.refl _)
theorem aE(h:DS X c k st t):tt X c k [st] t:=λρ=>pj (h ρ)
theorem ay(h1:DS X c k st t)(h2:tt X c k rest u):tt X c k (st::rest) (aS t u):=λρ=>
 PSs.imp (jF (h1 ρ) (yx λρ1=>h2 ρ1)) λD σ H hq_=>by
  obtain⟨hid,sr,q⟩:=hq_
  refine⟨hid,sr,?_⟩
  unfold aS at q;cases e:t ρ with
  |nx ρ1=>rw[e] at q;exact λσ1 H1 hid1 sr1 v1=>⟨ρ1,hid1,sr1,EndOk.mono q v1⟩
  |rt d ρ1=>rw[e] at q;exact q
  |bk ρ1=>rw[e] at q;exact q
  |ct ρ1=>rw[e] at q;exact q
  |no=>rw[e] at q;exact q
def gO(p:FT)(t u:FS):FS:=λρ=>match p ρ with
 |some true=>t ρ
 |some false=>u ρ
 |none=>.no
theorem gX {p:FT}{a b:List Stmt}(hp:DT X c e p)(ha:tt X c k a t)(hb:tt X c k b u):DS X c k (.If e a b pos) (gO p t u):=λρ=>
 PS.imp (FZ (Hl λhid=>hp hid ρ) (ha ρ) (hb ρ)) λD σ H hq_=>by
  obtain⟨hid,sr,q⟩:=hq_
  cases e1:p ρ with
  |none=>unfold gO at q;rw[e1] at q;exact q.elim
  |some x=>
   refine⟨hid,sr,x,e1,λH1 s1=>?_⟩
   unfold gO at q;rw[e1] at q;cases x with
   |true=>exact yu ⟨hid,sr.ext s1,EndOk.mono q (aD s1)⟩
   |false=>exact zu ⟨hid,sr.ext s1,EndOk.mono q (aD s1)⟩
def bo(f:FE):FS:=λρ=>match f ρ with
 |some d=>.rt d ρ
 |none=>.no
theorem Cu {K:Il}{hid:a7}{ρ':aA}{σ:St}{H H':Hp}{v:V}{d:D}(hk:k≠ .b)(p:PostE K c hid k ρ' σ H H' v d)(h0: ∀b,c.hid₀ b=true->hid b=true):Ret K c k ρ' H' v d:=by
 cases k with
 |b=>exact absurd rfl hk
 |s=>
  obtain⟨_,sr,r⟩:=p
  refine⟨sr.kp,r.mono (cL sr.h0),λi bs e=>?_⟩
  obtain⟨a,xs,z1,z2,z3,z4,z5⟩:=sr.sl i _ e
  refine⟨a,xs,z4,z2,?_⟩
  show Reps K (vw H' c.hid₀) xs bs;exact z5.mono (cL sr.h0)
 |n=>
  obtain⟨_,a,xs,ds,rfl,rfl,_,h1,h2,h3,sr,h5,h6⟩:=p
  have le:Same (vw H' (aJ hid a)) (vw H' (aJ c.hid₀ a)):=cL λb q=>by
   unfold aJ at q⊢;cases e:c.hid₀ b with
   |true=>rw[h0 b e];rfl
   |false=>rw[e] at q;rw[QY];right;simpa using q
  refine⟨sr.kp,⟨a,xs,ds,rfl,rfl,h2,h1,h5.mono le⟩,λi bs e=>?_⟩
  obtain⟨a',xs',z1,z2,z3,z4,z5⟩:=sr.sl i _ e
  exact⟨a',xs',z4,z2,z5.mono le⟩
theorem bn {f:FE}(he:DP X c k e f)(hk:k≠ .b:=by decide):DS X c k (.Return (some e) pos) (bo f):=λρ=>PS.imp (zi (iC λhid=>he hid ρ)) λD σ H hq_=>by
 obtain⟨hid,sr,q⟩:=hq_
 unfold bo at q;cases e1:f ρ with
 |none=>rw[e1] at q;exact q.elim
 |some z=>rw[e1] at q;exact⟨hid,sr,_,e1,λv H' s r=>q v H' (Cu hk (sr.post s r hk) sr.h0)⟩
def AO:Option Sl->Option (List D)
 |some (.own ds)=>some ds
 |_=>none
theorem wR {o:Option Sl}{ds:List D}(h:AO o=some ds):o=some (.own ds):=by
 unfold AO at h;split at h
 ·cases h;rfl
 ·cases h
end
section
variable {K:Il}{c:Ct}{hid:a7}{ρ:aA}{σ:St}{H H':Hp}{i:Nat}{a:Addr}{v:V}{d:D}
theorem SR.setV(h:SR K c hid ρ σ H)(r:Rep K (vw H hid) v d)(i:Nat):SR K c hid (ρ.set i (.v d)) (σ.set i (some v)) H:=by
 refine⟨h.tr,h.ht,h.h0,h.kp,h.t0,h.c0,h.m0,by simp[h.len],λj s q=>?_,λj l z n o1 o2 q1 q2=>?_⟩
 ·by_cases e:j=i
  ·subst e
   have lt:j<ρ.length:=by
    have:=(IA.mp q).1
    simpa using this
   rw[ID lt] at q;cases q
   exact⟨v,ID (by rw[h.len];exact lt),r⟩
  ·rw[Iv (IT e)] at q
   have w:=h.sl j s q
   have es:(σ.set i (some v))[j]? =σ[j]? :=Iv (IT e)
   cases s with
   |no=>trivial
   |v d=>obtain⟨x,h1,h2⟩:=w;exact⟨x,es.trans h1,h2⟩
   |own ds=>obtain⟨a,xs,h1,h2⟩:=w;exact⟨a,xs,es.trans h1,h2⟩
   |arg ds=>obtain⟨a,xs,h1,h2⟩:=w;exact⟨a,xs,es.trans h1,h2⟩
   |ob b=>obtain⟨a,h1,h2⟩:=w;exact⟨a,es.trans h1,h2⟩
 ·have nj: ∀m,Ow (ρ.set i (.v d))[m]? ->m≠i:=λm o e=>by
   subst e
   by_cases lt:m<ρ.length
   ·rw[ID lt] at o;exact o
   ·rw[Ju (by simpa using lt)] at o;exact o
  have e1:=nj j o1
  have e2:=nj l o2
  rw[Iv (IT e1)] at o1 q1;rw[Iv (IT e2)] at o2 q2;exact h.ap j l z n o1 o2 q1 q2
theorem SR.setO {xs:List V}{ds:List D}(h:SR K c hid ρ σ H)(ha:H a=some (.lst xs))(hh:hid a=true)(h0:c.H₀ a=none)(r:Reps K (vw H hid) xs ds)(no: ∀i:Nat,Ow ρ[i]? ->σ[i]? ≠some (some (.ref a)))(i:Nat):
 SR K c hid (ρ.set i (.own ds)) (σ.set i (some (.ref a))) H:=by
 refine⟨h.tr,h.ht,h.h0,h.kp,h.t0,h.c0,h.m0,by simp[h.len],λj s q=>?_,λj l z n o1 o2 q1 q2=>?_⟩
 ·by_cases e:j=i
  ·subst e
   have lt:j<ρ.length:=by
    have:=(IA.mp q).1
    simpa using this
   rw[ID lt] at q;cases q
   exact⟨a,xs,ID (by rw[h.len];exact lt),ha,hh,h0,r⟩
  ·rw[Iv (IT e)] at q
   have w:=h.sl j s q
   have es:(σ.set i (some (V.ref a)))[j]? =σ[j]? :=Iv (IT e)
   cases s with
   |no=>trivial
   |v d=>obtain⟨x,h1,h2⟩:=w;exact⟨x,es.trans h1,h2⟩
   |own ds=>obtain⟨a,xs,h1,h2⟩:=w;exact⟨a,xs,es.trans h1,h2⟩
   |arg ds=>obtain⟨a,xs,h1,h2⟩:=w;exact⟨a,xs,es.trans h1,h2⟩
   |ob b=>obtain⟨a,h1,h2⟩:=w;exact⟨a,es.trans h1,h2⟩
 ·by_cases e1:j=i
  ·subst e1
   have e2:l≠j:=λe=>n e.symm
   rw[Iv (IT e2)] at o2 q2
   by_cases lt:j<σ.length
   ·rw[ID lt] at q1;cases q1;exact no l o2 q2
   ·rw[Ju (by simpa using lt)] at q1;cases q1
  ·rw[Iv (IT e1)] at o1 q1
   by_cases e2:l=i
   ·subst e2
    by_cases lt:l<σ.length
    ·rw[ID lt] at q2;cases q2;exact no j o1 q1
    ·rw[Ju (by simpa using lt)] at q2;cases q2
   ·rw[Iv (IT e2)] at o2 q2
    exact h.ap j l z n o1 o2 q1 q2
end
section
variable {X:Cx}{c:Ct}{k:Kd}{st:Stmt}{sts rest:List Stmt}{t u:FS}{e:Expr}{es:List Expr}{pos pos':Pos}{x:Str}{i:Nat}
def sk(i:Nat)(f:GE):FS:=λρ=>match f ρ with
 |some (d,ρ')=>.nx (ρ'.set i (.v d))
 |none=>.no
def cS(i:Nat)(f:FE):FS:=λρ=>match f ρ with
 |some d=>.nx (ρ.set i (.v d))
 |none=>.no
def Ha:D->Option (List D)
 | .lst ds=>some ds
 |_=>none
def xl(i:Nat)(f:GE):FS:=λρ=>match f ρ with
 |some (d,ρ')=>(match Ha d with
  |some ds=>.nx (ρ'.set i (.own ds))
  |none=>.no)
 |none=>.no
def fL(i:Nat)(f:FE):FS:=λρ=>match f ρ with
 |some d=>(match Ha d with
  |some ds=>.nx (ρ.set i (.own ds))
  |none=>.no)
 |none=>.no
theorem vS(i:Nat){f:GE}(hn:X.N.Nodup)(he:DE X c .s e f)(hi:X.N[i]? =some x:=by rfl)(hx:rO X.env.scope x:=by first|exact Jp rfl|exact IQ rfl)(hs:JU e (some (.Name x pos')) pos.line X.env=pure false:=by rfl)
 (hf:X.fn x=true\/X.env.scope.names.lookup x=some .local:=by first|exact .inl rfl|exact .inr rfl|assumption):DS X c k (.Assign [.Name x pos'] e pos) (sk i f):=λρ=>PS.imp (fM hn hi hx (iC λhid=>he hid ρ) hs hf) λD σ H hq_=>by
 obtain⟨hid,sr,q⟩:=hq_
 unfold sk at q;cases e1:f ρ with
 |none=>rw[e1] at q;exact q.elim
 |some z=>
  rw[e1] at q;exact⟨hid,sr,z.1,z.2,e1,λv H' ⟨kp,s',r⟩=>q _ H' hid (s'.setV r i) kp.vw⟩
theorem fw(i:Nat){f:FE}(hn:X.N.Nodup)(he:DP X c .s e f)(hi:X.N[i]? =some x:=by rfl)(hx:rO X.env.scope x:=by first|exact Jp rfl|exact IQ rfl)(hs:JU e (some (.Name x pos')) pos.line X.env=pure false:=by rfl)
 (hf:X.fn x=true\/X.env.scope.names.lookup x=some .local:=by first|exact .inl rfl|exact .inr rfl|assumption):DS X c k (.Assign [.Name x pos'] e pos) (cS i f):=λρ=>PS.imp (fM hn hi hx (iC λhid=>he hid ρ) hs hf) λD σ H hq_=>by
 obtain⟨hid,sr,q⟩:=hq_
 unfold cS at q;cases e1:f ρ with
 |none=>rw[e1] at q;exact q.elim
 |some z=>
  rw[e1] at q;exact⟨hid,sr,z,e1,λv H' s' r=>q _ H' hid ((sr.ext s').setV r i) (aD s')⟩
theorem F1 {K:Il}{hid:a7}{ρ':aA}{σ:St}{H H':Hp}{v:V}{d:D}{D:Ends}(p:PostE K c hid .n ρ' σ H H' v d)(q:EndOk K c k D (vw H hid) (match Ha d with
 |some ds=>.nx (ρ'.set i (.own ds))
 |none=>.no)):D.nx (σ.set i (some v)) H':=by
 obtain⟨kp,a,xs,ds,rfl,rfl,hn,h1,h2,h3,h4,h5,h6⟩:=p
 refine q _ H' (aJ hid a) (h4.setO h1 bf h2 h5 h6 i) λb o w=>?_
 obtain⟨w1,w2⟩:=vw_some.mp w
 refine vw_some.mpr ⟨?_,kp b o w2 w1⟩
 unfold aJ;rw[w1];have:b≠a:=aQ w2 hn
 simp[this]
theorem fx(i:Nat){f:FE}(hn:X.N.Nodup)(he:DP X c .n e f)(hi:X.N[i]? =some x:=by rfl)(hx:rO X.env.scope x:=by first|exact Jp rfl|exact IQ rfl)(hs:JU e (some (.Name x pos')) pos.line X.env=pure false:=by rfl)
 (hf:X.fn x=true\/X.env.scope.names.lookup x=some .local:=by first|exact .inl rfl|exact .inr rfl|assumption):DS X c k (.Assign [.Name x pos'] e pos) (fL i f):=λρ=>PS.imp (fM hn hi hx (iC λhid=>he hid ρ) hs hf) λD σ H hq_=>by
 obtain⟨hid,sr,q⟩:=hq_
 unfold fL at q;cases e1:f ρ with
 |none=>rw[e1] at q;exact q.elim
 |some z=>
  rw[e1] at q;exact⟨hid,sr,z,e1,λv H' s r=>F1 (sr.post s r (by decide)) q⟩
def nE(i:Nat)(ρ:aA):aA:=match AO ρ[i]? with
 |some ds=>ρ.set i (.v (.lst ds))
 |none=>ρ
theorem SR.freeze {K:Il}{hid:a7}{ρ:aA}{σ:St}{H:Hp}(h:SR K c hid ρ σ H)(i:Nat): ∃hid',SR K c hid' (nE i ρ) σ H/\Same (vw H hid) (vw H hid'):=by
 unfold nE;cases e0:AO ρ[i]? with
 |none=>exact⟨hid,h,Same.refl _⟩
 |some ds=>
  have e:=wR e0
  obtain⟨a,xs,z1,z2,z3,z4,z5⟩:=h.sl i _ e
  have sm:Same (vw H hid) (vw H (fV hid a)):=cL λb w=>by unfold fV at w;rw[Jn] at w;exact w.1
  have un: ∀b,b≠a->hid b=true->fV hid a b=true:=λb n w=>by unfold fV;rw[w];simp[n]
  have na:c.hid₀ a=false:=by
   cases q:c.hid₀ a with
   |false=>rfl
   |true=>obtain⟨o,w⟩:=h.c0 a q;rw[z4] at w;cases w
  refine⟨fV hid a,⟨λb w=>h.tr b (by unfold fV at w;rw[Jn] at w;exact w.1),λb xs w=>h.ht b xs (by unfold fV at w;rw[Jn] at w;exact w.1),λb w=>un b (λe=>by subst e;rw[na] at w;cases w) (h.h0 b w),h.kp,h.t0,h.c0,h.m0,by simp[h.len],λj s q=>?_,λj l z n o1 o2 q1 q2=>?_⟩,sm⟩
  ·by_cases ej:j=i
   ·subst ej
    rw[ID (IA.mp e).1] at q;cases q
    exact⟨_,z1,.lst (vw_some.mpr ⟨by unfold fV;simp,z2⟩) (z5.mono sm)⟩
   ·rw[Iv (IT ej)] at q
    have w:=h.sl j s q
    cases s with
    |no=>trivial
    |v d=>obtain⟨x,h1,h2⟩:=w;exact⟨x,h1,h2.mono sm⟩
    |own ds=>
     obtain⟨a',xs,h1,h2,h3,h4,h5⟩:=w
     exact⟨a',xs,h1,h2,un a' (λe'=>by subst e';exact h.ap j i _ ej (by rw[q];trivial) (by rw[e];trivial) h1 z1) h3,h4,h5.mono sm⟩
    |arg ds=>
     obtain⟨a',xs,h1,h2,h3,h4,h5⟩:=w
     exact⟨a',xs,h1,h2,un a' (λe'=>by subst e';exact h.ap j i _ ej (by rw[q];trivial) (by rw[e];trivial) h1 z1) h3,h4,h5.mono sm⟩
    |ob b=>
     obtain⟨a',h1,h2⟩:=w
     exact⟨a',h1,h2.mono (λ_ _ _ _ q=>q) sm λow x hx=>un x (hx.ne (λe'=>by subst e';exact h.ap j i _ ej (by rw[q];exact ow) (by rw[e];trivial) h1 z1) z2)⟩
  ·have nj: ∀m,Ow (ρ.set i (.v (.lst ds)))[m]? ->m≠i:=λm o e'=>by
    subst e'
    by_cases lt:m<ρ.length
    ·rw[ID lt] at o;exact o
    ·rw[Ju (by simpa using lt)] at o;exact o
   have e1:=nj j o1
   have e2:=nj l o2
   rw[Iv (IT e1)] at o1;rw[Iv (IT e2)] at o2;exact h.ap j l z n o1 o2 q1 q2
theorem m7(i:Nat)(h:DS X c k st t):DS X c k st (λρ=>t (nE i ρ)):=λρ=>PS.imp (h (nE i ρ)) λD σ H hq_=>by
 obtain⟨hid,sr,q⟩:=hq_
 obtain⟨hid',sr',sm⟩:=sr.freeze i
 exact⟨hid',sr',EndOk.mono q sm⟩
def dY(f:GE):FS:=λρ=>match f ρ with
 |some (_,ρ')=>.nx ρ'
 |none=>.no
theorem jI {f:GE}(he:DE X c .s e f)(hs:JU e none pos.line X.env=pure false:=by rfl):DS X c k (.Expr e pos) (dY f):=λρ=>PS.imp (vd (iC λhid=>he hid ρ) hs) λD σ H hq_=>by
 obtain⟨hid,sr,q⟩:=hq_
 unfold dY at q;cases e1:f ρ with
 |none=>rw[e1] at q;exact q.elim
 |some z=>
  rw[e1] at q;exact⟨hid,sr,z.1,z.2,e1,λv H' ⟨kp,s',_⟩=>q _ H' hid s' kp.vw⟩
def GZ(K:Il)(r:V->List V->Hp->VK->Prop)(n:Nat)(M:List D->List D->Option (D×List D)):Prop:= ∀(H:Hp) (hid:a7) (a:Addr) (xs us:List V) (bs ds bs':List D) (d:D) (Q:VK),H a=some (.lst xs)->hid a=true->Reps K (vw H hid) xs bs->Reps K (vw H hid) us ds->
 ds.length=n->M bs ds=some (d,bs')->(∀w xs',Reps K (vw H hid) xs' bs'->Rep K (vw H hid) w d->Q w (aI H a (.lst xs')))->r (.ref a) us H Q
theorem Fh {K:Il}{r:V->List V->Hp->VK->Prop}{n:Nat}{M:List D->List D->Option (D×List D)}(hM:GZ K r n M){hid:a7}{ρ1:aA}{σ:St}{H H1:Hp}{a:Addr}{us:List V}{bs ds bs':List D}{d:D}{Q:VK}(k1:Kept hid H H1)(s1:SR K c hid ρ1 σ H1)(e2:eI i ρ1=some bs)
 (ha:σ[i]? =some (some (.ref a))) (r1:Reps K (vw H1 hid) us ds) (hn:ds.length=n) (hm:M bs ds=some (d,bs')) (q: ∀v H',PostE K c hid .s (eK i bs' ρ1) σ H H' v d->Q v H'):r (.ref a) us H1 Q:=by
 obtain⟨a',xs,b1,b2,b3,b4,b5⟩:=s1.held e2
 rw[ha] at b1;cases b1;refine hM H1 hid a xs us bs ds bs' d Q b2 b3 b4 r1 hn hm λw xs' rx rw'=>q w _ ⟨k1.trans λb o z hb=>?_,?_,?_⟩
 ·rw[af (λe=>by subst e;rw[b3] at hb;cases hb)];exact z
 ·exact s1.put e2 ha (λb o z hb=>by rw[af hb];exact z) ah (by rw[bH b3];exact rx)
 ·rw[bH b3];exact rw'
variable {n:Nat}{M:List D->List D->Option (D×List D)}{fs:GA}{r:V->List V->Hp->VK->Prop}{y name:Str}{py apos:Pos}{id:String}
theorem wj(i:Nat)(hM:GZ X.K r n M)(hm:Hi X id r)(slot:Slot "list" name id)(hty:typeOf (.builtin id)=pure (.type "method_descriptor"))(ha:DG X c (e::es) fs)
 (hN:X.N[i]? =some y:=by rfl) (hv:jw X.env.scope y:=by first|exact Jp rfl|exact IQ (Jp rfl)|exact IQ (IQ rfl)) (hd:(y==("__debug__":Str))=false:=by decide) (hcd:(y==("__classdict__":Str))=false:=by decide)
 (hbase:LK (.Name y py) name X.env (eval (.Name y py) X.env)=eval (.Name y py) X.env:=by rfl)
 (hfew:((Ko pos (Iu (e::es) X.env)).all (λx=> !x.1)&&(P8 pos (NJ [] X.env)).all (λx=>x.1.isSome)
   &&decide ((e::es).length+([]:List Nh).length+(if([]:List Nh).isEmpty then 0 else 1)<30))=true:=by rfl)
 (hline:(apos.endLine==pos.line)=true:=by rfl) (hs:Iu (e::es) X.env=(false,eval e X.env)::Iu es X.env:=by rfl) (hplain:(Ko pos (Iu es X.env)).any (·.1)=false:=by rfl):
 DE X c .s (.Call (.Attribute (.Name y py) name apos) (e::es) [] pos) (bu i n M fs):=λhid ρ=>
 PE.imp (zE Mr slot hty hm (pv i hN hv hd hcd) (ha hid ρ) hbase hfew hline hs hplain) λσ H Q hq_=>by
  obtain⟨sr,d,ρ',hd',q⟩:=hq_
  obtain⟨bs0,ds,ρ1,bs,bs',e0,e1,e2,e3,e4,rfl⟩:=mw hd'
  obtain⟨a,xs0,a1,a2,a3,_,_⟩:=sr.held e0
  exact⟨.ref a,a1,.inl ⟨rfl,_,SqL.of a2⟩,sr,ds,ρ1,e1,λus H1 k1 s1 r1=>Fh hM k1 s1 e2 a1 r1 e3 e4 q⟩
end
section
variable {K:Il}
def pG:List D->List D->Option (D×List D):=λbs ds=>match ds with
 | [d]=>if bs.length<Iy then some (.non,bs++[d]) else none
 |_=>none
theorem oa:GZ K u9 1 pG:=by
 intro H hid a xs us bs ds bs' d Q h1 h2 h3 h4 h5 h6 q;unfold pG at h6;split at h6
 ·split at h6
  ·cases h6
   cases h4 with
   |cons r t=>
    cases t
    exact⟨a,xs,_,rfl,rfl,h1,by rw[h3.length];assumption,q _ _ (h3.append (.cons r .nil)) .non⟩
  ·cases h6
 ·cases h6
end
abbrev FG:=D->aA->Option aA
abbrev vi:=List D->aA->Option aA
def OwK(ρ ρ':aA)(σ σ':St):Prop:= ∀i:Nat,Ow ρ'[i]? ->Ow ρ[i]? /\σ'[i]? =σ[i]?
theorem OwK.trans {ρ ρ1 ρ2:aA}{σ σ1 σ2:St}(a:OwK ρ ρ1 σ σ1)(b:OwK ρ1 ρ2 σ1 σ2):OwK ρ ρ2 σ σ2:=λi o=>⟨(a i (b i o).1).1,(b i o).2.trans (a i (b i o).1).2⟩
def GD {ι:Type}(IR:Hp->V->ι->Prop)(K:Il)(c:Ct)(hid:a7)(g:ι->aA->Option aA)(ρ:aA)(d:ι):TG:=λv σ H Q=>SR K c hid ρ σ H/\IR (vw H hid) v d/\ ∃ρ',g d ρ=some ρ'/\ ∀σ',SR K c hid ρ' σ' H->OwK ρ ρ' σ σ'->Q σ' H
def Gp {ι:Type}(IR:Hp->V->ι->Prop)(X:Cx)(c:Ct)(tg:Expr)(g:ι->aA->Option aA):Prop:= ∀hid ρ d,PG X tg (GD IR X.K c hid g ρ d)
abbrev qi(X:Cx)(c:Ct)(tg:Expr)(g:FG):Prop:=Gp (Rep X.K) X c tg g
def Gy(K:Il)(c:Ct)(hid:a7)(g:vi)(ρ:aA)(d:List D):Az:=λv σ H Q=>SR K c hid ρ σ H/\Reps K (vw H hid) v d/\ ∃ρ',g d ρ=some ρ'/\ ∀σ',SR K c hid ρ' σ' H->OwK ρ ρ' σ σ'->Q σ' H
def Go(X:Cx)(c:Ct)(tg:List Expr)(g:vi):Prop:= ∀hid ρ d,PGs X tg (Gy X.K c hid g ρ d)
theorem PG.imp {X:Cx}{e:Expr}{t t':TG}(h:PG X e t)(i: ∀v σ H Q,t' v σ H Q->t v σ H Q):PG X e t':=λaa s σ H v u Q I r q=>h aa s σ H v u Q I r (i v σ H Q q)
theorem PGs.imp {X:Cx}{e:List Expr}{t t':Az}(h:PGs X e t)(i: ∀v σ H Q,t' v σ H Q->t v σ H Q):PGs X e t':=λaa s σ H v u Q I r q=>h aa s σ H v u Q I r (i v σ H Q q)
theorem DD {X:Cx}{e:Expr}{α:Type}{t:α->TG}(h: ∀z,PG X e (t z)):PG X e (λv σ H Q=> ∃z,t z v σ H Q):=λaa s σ H v u Q I r ⟨z,q⟩=>h z aa s σ H v u Q I r q
theorem Ci {X:Cx}{e:List Expr}{α:Type}{t:α->Az}(h: ∀z,PGs X e (t z)):PGs X e (λv σ H Q=> ∃z,t z v σ H Q):=λaa s σ H v u Q I r ⟨z,q⟩=>h z aa s σ H v u Q I r q
section
variable {X:Cx}{c:Ct}{k:Kd}{st:Stmt}{sts body:List Stmt}{t u:FS}{e tg iter:Expr}{es:List Expr}{pos pos':Pos}{x:Str}{i:Nat}
def gN(i:Nat):FG:=λd ρ=>some (ρ.set i (.v d))
theorem aw(i:Nat)(hn:X.N.Nodup)(hi:X.N[i]? =some x:=by rfl)(hx:rO X.env.scope x:=by first|exact Jp rfl|exact IQ rfl)(hf:X.fn x=true\/X.env.scope.names.lookup x=some .local:=by first|exact .inl rfl|exact .inr rfl|assumption):
 qi X c (.Name x pos) (gN i):=λhid ρ d=>PG.imp (Cd (i:=i) hn hi hx hf) λv σ H Q hq_=>by
 obtain⟨sr,r,ρ',e,q⟩:=hq_
 cases e
 refine q _ (sr.setV r i) λj o=>?_
 have ne:j≠i:=λe=>by
  subst e
  by_cases lt:j<ρ.length
  ·rw[ID lt] at o;exact o
  ·rw[Ju (by simpa using lt)] at o;exact o
 rw[Iv (IT ne)] at o⊢;exact⟨o,rfl⟩
def gb:vi:=λds ρ=>match ds with
 | []=>some ρ
 |_=>none
def cx(g:FG)(gs:vi):vi:=λds ρ=>match ds with
 | []=>none
 |d::r=>(g d ρ).bind λρ'=>gs r ρ'
theorem cu:Go X c [] gb:=λhid ρ d=>PGs.imp Bh λv σ H Q hq_=>by
 obtain⟨sr,r,ρ',e,q⟩:=hq_
 unfold gb at e;split at e
 ·cases e;cases r;exact⟨rfl,q σ sr λi o=>⟨o,rfl⟩⟩
 ·cases e
theorem aN {g:FG}{gs:vi}(h1:qi X c e g)(h2:Go X c es gs)(hs:(Lm (e::es) X.env).map (·.2)=LN e X.env::(Lm es X.env).map (·.2):=by rfl):Go X c (e::es) (cx g gs):=λhid ρ d=>
 PGs.imp (Al (DD λd=>h1 hid ρ d) (Ci λz:aA×List D=>h2 hid z.1 z.2) hs) λv σ H Q hq_=>by
  obtain⟨sr,r,ρ',e,q⟩:=hq_
  cases d with
  |nil=>cases e
  |cons d1 ds=>
   cases r with
   |cons r1 r2=>
    have e:(g d1 ρ).bind (λρ'=>gs ds ρ')=some ρ':=e
    cases e1:g d1 ρ with
    |none=>rw[e1] at e;cases e
    |some ρ1=>
     rw[e1] at e;exact⟨_,_,rfl,d1,sr,r1,ρ1,e1,λσ1 s1 o1=>⟨(ρ1,ds),s1,r2,ρ',e,λσ2 s2 o2=>q σ2 s2 (o1.trans o2)⟩⟩
def gT(n:Nat)(gs:vi):FG:=λd ρ=>match d with
 | .tup ds=>if ds.length=n then gs ds ρ else none
 |_=>none
theorem cw {gs:vi}{kk n:Nat}(hc:X.calm=true)(h:Go X c es gs)(hn:(Lm es X.env).length=n:=by rfl)(hst:(Lm es X.env).findIdx? (·.1)=none:=by rfl):qi X c (.Tuple es kk pos) (gT n gs):=λhid ρ d=>
 PG.imp (Dt hc (Ci λds=>h hid ρ ds) hn hst) λv σ H Q hq_=>by
  obtain⟨sr,r,ρ',e,q⟩:=hq_
  unfold gT at e;split at e
  ·split at e
   ·cases r with
    |tup h1 h2=>exact⟨_,_,rfl,Same.seqT (bF _ _) h1,by rw[h2.length];assumption,_,sr,h2,ρ',e,q⟩
   ·cases e
  ·cases e
def Es:Option aA->Out
 |some ρ=>.nx ρ
 |none=>.no
def jX(g:FG)(f:GE):FS:=λρ=>match f ρ with
 |some z=>Es (g z.1 z.2)
 |none=>.no
def eS(i:Nat)(fi:FE)(d:D)(ρ:aA):Option aA:=match eI i ρ with
 |some bs=>(match fi ρ with
  |some (.int j)=>(match wl bs.length j with
   |some m=>some (eK i (bs.set m d) ρ)
   |none=>none)
  |_=>none)
 |none=>none
theorem tQ {fi:FE}{d:D}{ρ ρ':aA}(h:eS i fi d ρ=some ρ'): ∃bs j m,eI i ρ=some bs/\fi ρ=some (.int j)/\wl bs.length j=some m/\ρ'=eK i (bs.set m d) ρ:=by
 unfold eS at h;split at h
 ·split at h
  ·split at h
   ·cases h;exact⟨_,_,_, ‹_›, ‹_›, ‹_›,rfl⟩
   ·cases h
  ·cases h
 ·cases h
def GW(K:Il)(c:Ct)(hid:a7)(g:FG)(ρ:aA)(d:D):TG:=λv σ H Q=>SR K c hid ρ σ H/\Rep K (vw H hid) v d/\ ∃ρ',g d ρ=some ρ'/\ ∀H',Kept hid H H'->SR K c hid ρ' σ H'->Q σ H'
def Hy(X:Cx)(c:Ct)(tg:Expr)(g:FG):Prop:= ∀hid ρ d,PG X tg (GW X.K c hid g ρ d)
theorem ly(i:Nat){y:Str}{py:Pos}{ix:Expr}{fi:FE}{k1:Kd}(hi:DP X c k1 ix fi)(hN:X.N[i]? =some y:=by rfl)(hv:jw X.env.scope y:=by first|exact Jp rfl|exact IQ (Jp rfl)|exact IQ (IQ rfl))(hd:(y==("__debug__":Str))=false:=by decide)(hcd:(y==("__classdict__":Str))=false:=by decide)
 (ha: ∀v,LN (.Subscript (.Name y py) ix pos) X.env v=(do
   let ov <-NG [v] (eval (.Name y py) X.env)
   let iv <-NG [v,ov] (eval ix X.env)
   NH pos
   NG [v,ov,iv] (SH ov iv v)
   release [v,ov,iv] []):=by intro _;rfl):Hy X c (.Subscript (.Name y py) ix pos) (eS i fi):=λhid ρ d=>
 PG.imp (CK (pv i hN hv hd hcd) (hi hid ρ) Ac ha) λv σ H Q hq_=>by
  obtain⟨sr,r,ρ',e,q⟩:=hq_
  obtain⟨bs,j,m,e1,e2,e3,rfl⟩:=tQ e
  obtain⟨a,xs,a1,a2,a3,a4,a5⟩:=sr.held e1
  refine⟨.ref a,a1,sr,_,e2,λw H1 s1 r1=>?_⟩
  have b1:=(RK.b k1 r1 λa n=>sr.fresh n).int
  cases b1
  have a4':=a4.mono (aD (hid:=hid) s1)
  refine⟨a,xs,j,m,rfl,rfl,s1 _ _ a2,by rw[a4.length];exact e3,q _ (λb o z hb=>?_) ?_⟩
  ·rw[af (λe=>by subst e;rw[a3] at hb;cases hb)];exact s1 _ _ z
  ·exact(sr.ext s1).put e1 a1 (λb o z hb=>by rw[af hb];exact z) ah (by rw[bH a3];exact Reps.set (r.mono (aD s1)) m a4')
theorem oS {g:FG}{f:GE}(he:DE X c .s e f)(hg:Hy X c tg g)(hs:RX [tg] e pos.line X.env=pure false:=by rfl)(hw:RY [tg] e X.env=pure none:=by rfl)
 (h1:(Lm [tg] X.env).map (·.2)=[LN tg X.env]:=by rfl):DS X c k (.Assign [tg] e pos) (jX g f):=λρ=>
 PS.imp (Ew (iC λhid=>he hid ρ) (DD λz:a7×aA×D=>hg z.1 z.2.1 z.2.2) hs hw h1) λD σ H hq_=>by
  obtain⟨hid,sr,q⟩:=hq_
  unfold jX at q;cases e1:f ρ with
  |none=>rw[e1] at q;exact q.elim
  |some z=>
   rw[e1] at q;cases e2:g z.1 z.2 with
   |none=>dsimp only at q;rw[e2] at q;exact q.elim
   |some ρ2=>
    dsimp only at q;rw[e2] at q;exact⟨hid,sr,z.1,z.2,e1,λv H' ⟨kp,s',r⟩=>⟨(hid,z.2,z.1),s',r,ρ2,e2,λH2 k2 s2=>q σ H2 hid s2 (kp.trans k2).vw⟩⟩
def ItOk(K:Il)(W:Hp)(J:It)(ds:List D):Prop:=
 (∀(i:Nat) (d:D) (H:Hp),ds[i]? =some d->Same W H->J.go i H/\ ∀x H',J.yld i H x H'->Same H H'/\ ∀hid:a7,(∀b,hid b=true-> ∃o,H b=some o)->Same W (vw H hid)->Rep K (vw H' hid) x d)/\ ∀H,Same W H->J.stop ds.length H
def HS(K:Il)(c:Ct)(hid:a7)(f:GA)(ρ:aA):TI:=λσ H R=>SR K c hid ρ σ H/\ ∃ds ρ',f ρ=some (ds,ρ')/\ ∀J H',Kept hid H H'->SR K c hid ρ' σ H'->ItOk K (vw H' hid) J ds->R J H'
def DI(X:Cx)(c:Ct)(tg iter:Expr)(f:GA):Prop:= ∀hid ρ,PI X tg iter (HS X.K c hid f ρ)
theorem PI.imp {t t':TI}(h:PI X tg iter t)(i: ∀σ H Q,t' σ H Q->t σ H Q):PI X tg iter t':=λaa s σ H R I q=>h aa s σ H R I (i σ H R q)
theorem G2 {α:Type}{t:α->TI}(h: ∀z,PI X tg iter (t z)):PI X tg iter (λσ H R=> ∃z,t z σ H R):=λaa s σ H R I ⟨z,q⟩=>h z aa s σ H R I q
theorem z0 {K:Il}{W:Hp}{a:Addr}{xs:List V}{ds:List D}(h:SqT K W a xs)(r:Reps K W xs ds):ItOk K W (GI K a) ds:=by
 refine⟨λi d H e s=>?_,λH s=>⟨xs,Same.seqT s h,by rw[r.length];exact Ie _⟩⟩
 obtain⟨x,e1,r1⟩:=r.get e
 refine⟨⟨xs,x,Same.seqT s h,e1⟩,λy H' ⟨e2,e3⟩=>?_⟩
 subst e2;have:=e3 xs (Same.seqT s h)
 rw[e1] at this;cases this;exact⟨Same.refl _,λhid _ sw=>r1.mono sw⟩
def sV(lo:Int)(n:Nat):List D:=(Iz n).map λ(i:Nat)=>D.int (lo+i)
theorem mo {K:Il}{W:Hp}{lo:Int}{n:Nat}:ItOk K W (Ge lo n) (sV lo n):=by
 refine⟨λi d H e s=>?_,λH s=>by show n<=(sV lo n).length;simp[sV]⟩
 unfold sV at e;rw[Jd] at e;cases e1:(Iz n)[i]? with
 |none=>rw[e1] at e;cases e
 |some j=>
  rw[e1] at e;obtain⟨h1,h2⟩:=IA.mp e1
  simp at h1 h2;subst h2;cases e
  refine⟨h1,λy H' ⟨e2,e3⟩=>?_⟩
  subst e2 e3;exact⟨Same.refl _,λhid _ sw=>.int⟩
def zt(f:GA):GA:=λρ=>match f ρ with
 |some ([.int j],ρ')=>if j.natAbs<4000000000 then some (sV 0 j.toNat,ρ') else none
 |_=>none
theorem xa {a:Expr}{f:GA}{p:Pos}(hm:X.mg "range"=none)(ha:DG X c [a] f)(hg:Gl X "range":=by rfl)(hs:Iu [a] X.env=[(false,eval a X.env)]:=by rfl):DI X c tg (.Call (.Name "range" p) [a] [] pos) (zt f):=λhid ρ=>
 PI.imp (oH hg hm (ha hid ρ) hs) λσ H R hq_=>by
  obtain⟨sr,ds,ρ',e,q⟩:=hq_
  unfold zt at e;split at e
  ·split at e
   ·cases e
    refine⟨sr,_,_, ‹_›,λvs H' kp s' r=>?_⟩
    cases r with
    |cons r t=>cases t;cases r;exact⟨_,rfl,by omega,by omega,q _ H' kp s' mo⟩
   ·cases e
  ·cases e
def dZ(g:FG)(b:FS):List D->FS
 | [],ρ=>.nx ρ
 |d::r,ρ=>match g d ρ with
  |none=>.no
  |some ρ1=>match b ρ1 with
   | .nx ρ2=>dZ g b r ρ2
   | .ct ρ2=>dZ g b r ρ2
   | .bk ρ2=>.nx ρ2
   | .rt d ρ2=>.rt d ρ2
   | .no=>.no
def cD(f:GA)(g:FG)(b:FS):FS:=λρ=>match f ρ with
 |some (ds,ρ')=>dZ g b ds ρ'
 |none=>.no
theorem cq {f:GA}{g:FG}{tb:FS}(hp:PassesOwn (model X.prog X.w) X.A X.env X.xe)(hc:X.calm=true)(hi:DI X c tg iter f)(hg:qi X c tg g)(hb:tt X c k body tb)
 (hs: ∀x,JE iter X.env x=pure x:=by intro _;rfl):DS X c k (.For tg iter body [] pos) (cD f g tb):=λρ=>
 PS.imp (CO hp hc (G2 λhid=>hi hid ρ) (DD λz:a7×aA×D=>hg z.1 z.2.1 z.2.2) (yx λρ=>hb ρ) hs) λD σ H hq_=>by
  obtain⟨hid,sr,q⟩:=hq_
  unfold cD at q;cases e1:f ρ with
  |none=>rw[e1] at q;exact q.elim
  |some z=>
   obtain⟨ds,ρ0⟩:=z
   rw[e1] at q;have q':EndOk X.K c k D (vw H hid) (dZ g tb ds ρ0):=q
   refine⟨hid,sr,ds,ρ0,e1,λJ H1 kp s1 it=>?_⟩
   refine⟨λi m σ H=>m=ds.length-i/\i<=ds.length/\ ∃hid2 ρ2,SR X.K c hid2 ρ2 σ H/\Same (vw H1 hid) (vw H hid2)/\EndOk X.K c k D (vw H hid2) (dZ g tb (ds.drop i) ρ2),⟨ds.length,by simp,Jh _,hid,ρ0,s1,Same.refl _,EndOk.mono q' kp.vw⟩,?_⟩
   rintro i m σ2 H2 ⟨rfl,hi',hid2,ρ2,s2,w2,q2⟩
   have wH:Same (vw H1 hid) H2:=w2.trans (bF _ _)
   by_cases hlt:i<ds.length
   ·have hd:ds[i]? =some ds[i]:=Ig hlt
    have e2:ds.drop i=ds[i]::ds.drop (i+1):=Kf hlt
    rw[e2] at q2;unfold dZ at q2;obtain⟨go,yl⟩:=it.1 i ds[i] H2 hd wH
    refine .inr ⟨go,λσ' H'=> ∃hid3 ρ3,SR X.K c hid3 ρ3 σ' H'/\Same (vw H1 hid) (vw H' hid3)/\EndOk X.K c k D (vw H' hid3) (dZ g tb (ds.drop (i+1)) ρ3),λσ' H' n3=>⟨ds.length- (i+1),by omega,rfl,hlt,n3⟩,λx H3 y=>?_⟩
    obtain⟨s3,rp⟩:=yl x H3 y
    have rx:=rp hid2 s2.tr w2
    cases e3:g ds[i] ρ2 with
    |none=>rw[e3] at q2;exact q2.elim
    |some ρ3=>
     rw[e3] at q2;refine⟨(hid2,ρ2,ds[i]),s2.ext s3,rx,ρ3,e3,λσ4 s4 _=>⟨ρ3,hid2,s4,?_⟩⟩
     have w3:Same (vw H2 hid2) (vw H3 hid2):=aD s3
     dsimp only at q2;cases e4:tb ρ3 with
     |nx ρ5=>rw[e4] at q2;exact λσ' H' hid' z w=>⟨hid',ρ5,z,(w2.trans w3).trans w,EndOk.mono q2 (w3.trans w)⟩
     |ct ρ5=>rw[e4] at q2;exact λσ' H' hid' z w=>⟨hid',ρ5,z,(w2.trans w3).trans w,EndOk.mono q2 (w3.trans w)⟩
     |bk ρ5=>rw[e4] at q2;exact λσ' H' hid' z w=>q2 σ' H' hid' z (w3.trans w)
     |rt d ρ5=>rw[e4] at q2;exact q2
     |no=>rw[e4] at q2;exact q2.elim
   ·have e:i=ds.length:=by omega
    subst e;rw[Kx (Ie _)] at q2;exact .inl ⟨it.2 H2 wH,q2 σ2 H2 hid2 s2 (Same.refl _)⟩
end
def i7(n:Nat)(ds:List D):aA:=ds.map Sl.v++Im (n-ds.length) .no
def j7(kd:Kd)(n:Nat)(t:FS)(ds:List D):Option D:=match t (i7 n ds) with
 | .rt d _=>some d
 | .nx _=>(match kd with
   | .n=>none
   |_=>some .non)
 |_=>none
def o9(n:Nat)(bs ds:List D):aA:=.arg bs::(ds.map Sl.v++Im (n-1-ds.length) .no)
def nA:aA->Option (List D)
 | .arg bs::_=>some bs
 |_=>none
def AA(kd:Kd)(n:Nat)(t:FS)(bs ds:List D):Option (D×List D):=match t (o9 n bs ds) with
 | .rt d ρ=>(nA ρ).map λb=>(d,b)
 | .nx ρ=>(match kd with
   | .n=>none
   |_=>(nA ρ).map λb=>(.non,b))
 |_=>none
theorem yN {K:Il}{c:Ct}{hid:a7}{H:Hp}(m:Nat): ∀ {vs:List V} {ds:List D},Reps K (vw H hid) vs ds-> ∀(i:Nat) (s:Sl),(ds.map Sl.v++Im m .no)[i]? =some s->SlOk K c hid (vs.map some++Im m none) H i s:=by
 intro vs ds r i s e;have hl:=r.length
 by_cases hi:i<ds.length
 ·rw[Jg (by simpa using hi),Jd] at e
  have e2:ds[i]? =some ds[i]:=Ig hi
  rw[e2] at e;cases e
  obtain⟨x,h1,h2⟩:=r.get e2
  exact⟨x,by rw[Jg (by simp;omega),Jd,h1];rfl,h2⟩
 ·rw[IX (by simpa using hi),Jj] at e
  split at e
  ·cases e;trivial
  ·cases e
theorem CU {ds:List D}{m i:Nat}: ¬Ow (ds.map Sl.v++Im m Sl.no)[i]? :=λo=>by
 by_cases hi:i<ds.length
 ·rw[Jg (by simpa using hi),Jd,Ig hi] at o
  exact o
 ·rw[IX (by simpa using hi),Jj] at o
  split at o<;>exact o
theorem SR.begins {K:Il}{hid:a7}{H:Hp}{N:List Str}{vs:List V}{ds:List D}(tr:Ap hid H)(r:Reps K (vw H hid) vs ds):SR K ⟨H,hid,λ_=>false⟩ hid (i7 N.length ds) (eC N vs) H:=by
 have hl:=r.length
 unfold eC i7;rw[hl];exact⟨tr.1,tr.2,λ_ h=>h,λ_ _ h _=>h,λb o h=>⟨o,h⟩,tr.1,(λ_ h=>nomatch h),by simp[hl],λi s e=>yN _ r i s e,λi j a _ o=>absurd o CU⟩
section
variable {P:IP}{w:Jo}{K:Il}{mg:Str->Option Ia}{base:Heap}{x qual:Str}{st:Stmt}{f:Addr}{fd:K6}{N ps:List Str}{k:Nat}{t:FS}{kd:Kd}
theorem wu(F:Fun K x qual st f fd)(S:FnScope N ps (av st))(hkd:kd≠ .b)
 (body: ∀(cdv:Ia) (A:Jc) (outer:List Env) (s:Ic) (H:Hp) (hid:a7) (E:XK),Room k (A.deeper (Mw qual (av st) s.heap.objs.size f cdv))->
   tt (lq oA P w K mg base N qual (av st) f cdv A outer s H E).nox ⟨H,hid,λ_=>false⟩ kd (bV st) t):
 FnOk P w K mg base oA (k+1) f fd ps (fj K kd ps.length (j7 kd N.length t)):=by
 refine F.ok S (λvs H Q E h=>?_) (λcdv A outer s H vs Q E hr h=>?_)
 ·obtain⟨hid,ds,_,r,hl,_⟩:=h
  rw[r.length,hl]
 ·obtain⟨hid,ds,tr,r,hl,d,hP,q⟩:=h
  refine⟨_,body cdv A outer s H hid E hr (i7 N.length ds),hid,SR.begins tr r,?_⟩
  unfold j7 at hP;cases e:t (i7 N.length ds) with
  |nx ρ=>
   rw[e] at hP;intro σ' H' hid' sr _;have sm:Same H H':=λb o z=>sr.kp b o z rfl
   cases kd with
   |b=>exact absurd rfl hkd
   |s=>cases hP;exact q _ H' sm .non
   |n=>cases hP
  |rt d' ρ=>
   rw[e] at hP;cases hP
   intro v H' R;have sm:Same H H':=λb o z=>R.kp b o z rfl
   cases kd with
   |b=>exact absurd rfl hkd
   |s=>exact q v H' sm R.val
   |n=>exact q v H' sm R.val
  |bk ρ=>rw[e] at hP;cases hP
  |ct ρ=>rw[e] at hP;cases hP
  |no=>rw[e] at hP;cases hP
theorem SR.beginsE {hid:a7}{H:Hp}{a:Addr}{xs us:List V}{bs ds:List D}(tr:Ap hid H)(ha:hid a=true)(hx:H a=some (.lst xs))(rb:Reps K (vw H hid) xs bs)(r:Reps K (vw H hid) us ds)(hN:0<N.length):
 SR K ⟨H,hid,λb=>decide (b=a)⟩ hid (o9 N.length bs ds) (eC N (.ref a::us)) H:=by
 have hl:=r.length
 have es:eC N (.ref a::us)=some (V.ref a)::(us.map some++Im (N.length-1-ds.length) none):=by
  unfold eC;rw[Ip,Qv,IK,hl];congr 3
  omega
 rw[es];unfold o9;refine⟨tr.1,tr.2,λ_ h=>h,λ_ _ h _=>h,λb o h=>⟨o,h⟩,tr.1,λb h=>?_,by simp[hl],λi s e=>?_,λi j z n o1 o2 q1 q2=>?_⟩
 ·have:b=a:=by simpa using h
  rw[this];exact ha
 ·cases i with
  |zero=>
   cases e
   exact⟨a,xs,rfl,hx,ha,by simp,rb⟩
  |succ i=>
   have z:=yN (c:=⟨H,hid,λb=>decide (b=a)⟩) (N.length-1-ds.length) r i s (by simpa using e)
   cases s with
   |no=>trivial
   |v d=>obtain⟨x,h1,h2⟩:=z;exact⟨x,by simpa using h1,h2⟩
   |own ds=>obtain⟨x,xs,h1,h2⟩:=z;exact⟨x,xs,by simpa using h1,h2⟩
   |arg ds=>obtain⟨x,xs,h1,h2⟩:=z;exact⟨x,xs,by simpa using h1,h2⟩
   |ob b=>obtain⟨x,h1,h2⟩:=z;exact⟨x,by simpa using h1,h2⟩
 ·cases i with
  |zero=>
   cases j with
   |zero=>exact n rfl
   |succ j=>exact CU (by simpa using o2)
  |succ i=>exact CU (by simpa using o1)
theorem wL {ρ:aA}{b:List D}(h:nA ρ=some b):ρ[0]? =some (.arg b):=by
 unfold nA at h;split at h
 ·cases h;rfl
 ·cases h
theorem Eu {n:Nat}(F:Fun K x qual st f fd)(S:FnScope N ps (av st))(hkd:kd≠ .b)(hn:ps.length=n+1)
 (body: ∀(cdv:Ia) (A:Jc) (outer:List Env) (s:Ic) (H:Hp) (hid:a7) (a:Addr) (E:XK),Room k (A.deeper (Mw qual (av st) s.heap.objs.size f cdv))->
   tt (lq oA P w K mg base N qual (av st) f cdv A outer s H E).nox ⟨H,hid,λb=>decide (b=a)⟩ kd (bV st) t):
 FnOk P w K mg base oA (k+1) f fd ps (Ay K kd n (AA kd N.length t)):=by
 refine F.ok S (λvs H Q E h=>?_) (λcdv A outer s H vs Q E hr h=>?_)
 ·obtain⟨hid,a,xs,bs,us,ds,rfl,_,_,_,_,r,hl,_⟩:=h
  rw[IK,r.length,hl,hn]
 ·obtain⟨hid,a,xs,bs,us,ds,rfl,tr,ha,hx,rb,r,hl,d,bs',hM,q⟩:=h
  have hN:0<N.length:=by have:=congrArg LY S.pre;rw[L7] at this;omega
  refine⟨_,body cdv A outer s H hid a E hr (o9 N.length bs ds),hid,SR.beginsE tr ha hx rb r hN,?_⟩
  have fin: ∀(v:V) (H':Hp) (ρ:aA) (d:D),Ret K ⟨H,hid,λb=>decide (b=a)⟩ kd ρ H' v d->nA ρ=some bs'->(∀v H' xs',(∀b o,H b=some o->b≠a->H' b=some o)->H' a=some (.lst xs')->Fk K kd hid H H' v d xs' bs'->Q v H')->Q v H':=by
   intro v H' ρ d R h0 q;obtain⟨a',xs',m1,m2,m3⟩:=R.arg 0 _ (wL h0)
   have:a'=a:=by simpa using m1
   subst this;refine q v H' xs' (λb o z n=>R.kp b o z (by simpa using n)) m2 ?_
   cases kd with
   |b=>exact absurd rfl hkd
   |s=>exact⟨R.val,m3⟩
   |n=>
    obtain⟨p,ys,es,rfl,rfl,h1,h2,h3⟩:=R.val
    exact⟨p,ys,es,rfl,rfl,h1,h2,h3,m3⟩
  unfold AA at hM;cases e:t (o9 N.length bs ds) with
  |nx ρ=>
   rw[e] at hM;intro σ' H' hid' sr _;cases kd with
   |b=>exact absurd rfl hkd
   |s=>
    dsimp only at hM;cases e0:nA ρ with
    |none=>rw[e0] at hM;cases hM
    |some b=>
     rw[e0] at hM;cases hM;exact fin .non H' ρ .non (Cu (k:=.s) (by decide) (sr.post (k:=.s) (Same.refl _) .non (by decide)) sr.h0) e0 q
   |n=>cases hM
  |rt d' ρ=>
   rw[e] at hM;dsimp only at hM;cases e0:nA ρ with
   |none=>rw[e0] at hM;cases hM
   |some b=>
    rw[e0] at hM;cases hM;intro v H' R;exact fin v H' ρ _ R e0 q
  |bk ρ=>rw[e] at hM;cases hM
  |ct ρ=>rw[e] at hM;cases hM
  |no=>rw[e] at hM;cases hM
end
def va(K:Il):Sp:=λvs H Q _=> ∃(a:Addr) (ns:List Int),vs=[.ref a]/\SqR K H a (ns.map V.int)/\ns.length<=63/\ ∀H',Q (.bl true) H'
theorem oE {K:Il}{F:Hp}: ∀ns:List Int,Reps K F (ns.map V.int) (ns.map D.int)
 | []=>.nil
 |_::r=>.cons .int (oE r)
theorem Dj {P:IP}{w:Jo}{K:Il}{mg:Str->Option Ia}{base:Heap}{f:Addr}{fd:K6}{x:Str}{k:Nat}{M:List D->Option D}(F:FnOk P w K mg base oA k f fd [x] (fj K .s 1 M))(hM: ∀ns:List Int,ns.length<=63->M [.scr (ns.map D.int)]=some (.bl true)):
 FnOk P w K mg base oA k f fd [x] (va K):=F.imp λvs H Q E hq_=>by
 obtain⟨a,ns,e,hS,hl,q⟩:=hq_
 subst e;have hv:vw H (λ_=>false)=H:=by funext b;unfold vw;simp
 refine⟨λ_=>false,[.scr (ns.map D.int)],⟨(λb h=>nomatch h),(λb xs h=>nomatch h)⟩,?_,rfl,.bl true,hM ns hl,λv H' _ r=>?_⟩
 ·rw[hv];exact .cons (.scr hS (oE ns)) .nil
 ·cases r;exact q H'
theorem walkD {l:Su}{k:Nat}{x:Str}{q:IP}{loose:List Str}{XP:(Str->Option Ia)->Heap->Prop}{YP:Jo->Heap->Prop}{d:DefRec}{K:Wb->Il}(hn:l.most=some 63)(hdf:d.params.defaults=[])(hr:Room k Ov)
 (hY: ∀(w:Jo) (h:Heap),YP w h->(K w.params).In h)
 (F: ∀(w:Jo) (mg:Str->Option Ia) (fa:Addr) (h:Heap),(K w.params).In h->h.Ns Js mg->mg d.name=some (.ref fa)->
   ∃fd:K6,(∀(s:Ic) (u:Ia),P2 s fd ⟨[u],[]⟩ [(x,u)])/\ ∀base:Heap,(K w.params).In base->base.Ns Js mg->FnOk l.prog w (K w.params) mg base oA k fa fd [x] (va (K w.params))):
 W.WalkO q loose XP YP l.row.toRowW d [] (λf vs=>Ro f vs):=
 L2.walk_of (n:=63) (k:=k) (x:=x) (CX:=λ_=>oA) (sp:=λw=>va (K w.params)) hn (by decide) hdf hr hY F (λ_ H a ns hl hO hS=>⟨a,ns,rfl,hS.elim (λr=>r.elim (λe=>by rcases hO a with z|⟨o,xs,z⟩<;>rw[z] at e<;>cases e) .inl) .inr,hl,λ_=>rfl⟩) λ_ _ _ _ _ z=>z
def o4(cells:List (Str×Addr)):List (Str×KW)->List (Str×Addr)->List (Str×Addr)
 | [],acc=>acc
 |(n,k)::r,acc=>o4 cells r (if k== .free then(match cells.lookup n with
  |some c=>(n,c)::acc
  |none=>acc) else acc)
theorem pQ {cells:List (Str×Addr)}: ∀ {names:List (Str×KW)} {acc:List (Str×Addr)},(∀p∈acc,cells.lookup p.1=some p.2)-> ∀p∈o4 cells names acc,cells.lookup p.1=some p.2
 | [],acc,h,p,hp=>h p hp
 |(n,k)::r,acc,h,p,hp=>by
  refine pQ (names:=r) ?_ p hp
  intro q hq;split at hq
  ·split at hq
   ·rename_i c e
    rcases IC.mp hq with rfl|hq
    ·exact e
    ·exact h q hq
   ·exact h q hq
  ·exact h q hq
theorem sQ {cells:List (Str×Addr)}: ∀ {names:List (Str×KW)} {acc:List (Str×Addr)} (p:Str×Addr),p∈o4 cells names acc->p∈acc\/(p.1,Kv)∈names
 | [],acc,p,hp=>.inl hp
 |(n,k)::r,acc,p,hp=>by
  rcases sQ (names:=r) p hp with hq|hq
  ·split at hq
   ·rename_i ek
    split at hq
    ·rcases IC.mp hq with e|hq
     ·subst e
      have:k=.free:=by simpa using ek
      subst this;exact .inr Is
     ·exact .inl hq
    ·exact .inl hq
   ·exact .inl hq
  ·exact .inr (Ii _ hq)
theorem sv {cells:List (Str×Addr)}: ∀ {names:List (Str×KW)} {acc:List (Str×Addr)} {p:Str×Addr},p∈acc->p∈o4 cells names acc
 | [],acc,p,h=>h
 |(n,k)::r,acc,p,h=>by
  refine sv (names:=r) ?_
  split
  ·split
   ·exact Ii _ h
   ·exact h
  ·exact h
theorem uS {cells:List (Str×Addr)}{x:Str}{c:Addr}(hc:cells.lookup x=some c): ∀ {names:List (Str×KW)} {acc:List (Str×Addr)},(x,Kv)∈names->(x,c)∈o4 cells names acc
 | [],_,h=>nomatch h
 |(n,k)::r,acc,h=>by
  rcases IC.mp h with e|h
  ·cases e
   refine sv (names:=r) ?_
   rw[if_pos (by rfl),hc]
   exact Is
  ·exact uS hc (names:=r) h
theorem nP {l:List (Str×Addr)}{x:Str}{c:Addr}(h:(x,c)∈l)(u: ∀p∈l,p.1=x->p.2=c):l.lookup x=some c:=by
 induction l with
 |nil=>exact nomatch h
 |cons p r ih=>
  obtain⟨n,a⟩:=p
  rw[K4];cases e:x==n with
  |true=>
   have e':x=n:=eq_of_beq e
   have:=u (n,a) Is e'.symm
   simpa using this
  |false=>
   have ne:x≠n:=λe'=>by rw[e'] at e;simp at e
   rcases IC.mp h with e'|h
   ·cases e';exact absurd rfl ne
   ·exact ih h λp hp=>u p (Ii _ hp)
theorem tG {cells:List (Str×Addr)}{names:List (Str×KW)}{x:Str}{c:Addr}(h:(o4 cells names []).lookup x=some c):cells.lookup x=some c:=
 pQ (names:=names) (acc:=[]) (λ_ z=>nomatch z) (x,c) (Jy h)
theorem k7 {cells:List (Str×Addr)}{names:List (Str×KW)}{x:Str}{c:Addr}(hc:cells.lookup x=some c)(hf:(x,Kv)∈names):(o4 cells names []).lookup x=some c:=
 nP (uS hc hf) λp hp e=>by
  have:=pQ (names:=names) (acc:=[]) (λ_ z=>nomatch z) p hp
  rw[e,hc] at this;exact(Je this).symm
theorem ci {scope:KO}{env:Env}(h: ∀x,(x,Kv)∈scope.names-> ∃c,env.cells.lookup x=some c):closureFor scope env=pure (o4 env.cells scope.names []):=by
 unfold closureFor;have key: ∀(names:List (Str×KW)) (acc:List (Str×Addr)),(∀x,(x,Kv)∈names-> ∃c,env.cells.lookup x=some c)->
  (forIn names acc (λ(p:Str×KW) (r:List (Str×Addr))=>match p with
    |(name,kind)=>if(kind==Kv)=true then do
       let __do_lift <-cellOf env name
       pure (ForInStep.yield ((name,__do_lift)::r)) else pure (ForInStep.yield r)):Sem (List (Str×Addr)))=pure (o4 env.cells names acc):=by
  intro names
  induction names with
  |nil=>intro acc _;rfl
  |cons p r ih=>
   intro acc h;obtain⟨n,k⟩:=p
   rw[QZ];have hr: ∀x,(x,Kv)∈r-> ∃c,env.cells.lookup x=some c:=λx hx=>h x (Ii _ hx)
   cases e:k==Kv with
   |false=>
    simp only[e,JG,if_false,pure_bind];rw[ih acc hr]
    conv=>rhs;unfold o4
    simp[e]
   |true=>
    have ek:k=.free:=by simpa using e
    subst ek;obtain⟨c,hc⟩:=h n Is
    have ec:cellOf env n=pure c:=by unfold cellOf;rw[hc]
    simp only[beq_self_eq_true,if_true,ec,pure_bind];rw[ih _ hr]
    conv=>rhs;unfold o4
    simp[hc]
 have:=key scope.names [] h
 simp only[this,pure_bind]
theorem gc {sc:KO}{env:Env}{x:Str}{k:KW}(h:(My sc env).names.lookup x=some k): ∃k0,sc.names.lookup x=some k0/\(k=k0\/(k0=.free/\k=.cell)):=by
 unfold My at h;dsimp only at h
 generalize sc.names=l at h⊢
 induction l with
 |nil=>simp at h
 |cons p r ih=>
  obtain⟨n,k1⟩:=p
  rw[Ip] at h;dsimp only at h;rw[K4];cases hx:x==n with
  |true=>
   refine⟨k1,rfl,?_⟩
   split at h
   ·rename_i hc
    rw[K4] at h;simp only[hx] at h;cases h
    have:k1=.free:=by
     simp only[Jn] at hc;exact eq_of_beq hc.1.1
    exact .inr ⟨this,rfl⟩
   ·rw[K4] at h
    simp only[hx] at h;cases h
    exact .inl rfl
  |false=>
   split at h
   ·rw[K4] at h;simp only[hx] at h;exact ih h
   ·rw[K4] at h;simp only[hx] at h;exact ih h
def kF(cells:List (Str×Addr))(scope:KO)(C:Addr):List (Str×Addr):=KA (C+1) scope.names (o4 cells scope.names [])
theorem bi: ∀(names:List (Str×KW)) (n:Nat) (acc:List (Str×Addr)),KA n names acc=KA n names []++acc
 | [],_,_=>rfl
 |(name,kind)::r,n,acc=>by
  unfold KA;split
  ·rw[bi r (n+1) ((name,n)::acc),bi r (n+1) [(name,n)],IS];rfl
  ·exact bi r n acc
theorem o5: ∀ {names:List (Str×KW)} {n:Nat} {p:Str×Addr},p∈KA n names []->(p.1,LL)∈names
 | [],_,_,h=>nomatch h
 |(name,kind)::r,n,p,h=>by
  unfold KA at h;split at h
  ·rename_i hk
   have hk':kind=.cell:=by simpa using hk
   subst hk';rw[bi] at h;rcases IM.mp h with h|h
   ·exact Ii _ (o5 h)
   ·rw[IN.mp h];exact Is
  ·exact Ii _ (o5 h)
theorem kJ: ∀ {names:List (Str×KW)} {n:Nat} {x:Str},(x,LL)∈names-> ∃c,(x,c)∈KA n names []
 | [],_,_,h=>nomatch h
 |(name,kind)::r,n,x,h=>by
  unfold KA;rcases IC.mp h with e|h
  ·cases e
   rw[if_pos (by rfl),bi]
   exact⟨n,Iw _ Is⟩
  ·split
   ·obtain⟨c,hc⟩:=kJ (n:=n+1) h
    rw[bi];exact⟨c,Ja _ hc⟩
   ·exact kJ h
theorem t9 {l:List (Str×Addr)}{x:Str}{c:Addr}(h:(x,c)∈l): ∃c',l.lookup x=some c':=by
 induction l with
 |nil=>exact nomatch h
 |cons p r ih=>
  obtain⟨n,a⟩:=p
  rw[K4];cases e:x==n with
  |true=>exact⟨a,rfl⟩
  |false=>
   rcases IC.mp h with e'|h
   ·cases e';simp at e
   ·exact ih h
theorem dE {cells:List (Str×Addr)}{sc:KO}{C:Addr}{x:Str}{c:Addr}(h:(kF cells sc C).lookup x=some c):(x,c)∈KA (C+1) sc.names []\/(o4 cells sc.names []).lookup x=some c:=by
 unfold kF at h;rw[bi,Nr] at h;cases e:(KA (C+1) sc.names []).lookup x with
 |none=>rw[e] at h;exact .inr h
 |some c'=>rw[e] at h;cases h;exact .inl (Jy e)
theorem yG {cells:List (Str×Addr)}{sc:KO}{C:Addr}{x:Str}(h:(x,LL)∈sc.names): ∃c,(kF cells sc C).lookup x=some c:=by
 obtain⟨c,hc⟩:=kJ (n:=C+1) h
 obtain⟨c',e⟩:=t9 hc
 exact⟨c',by unfold kF;rw[bi,Nr,e];rfl⟩
theorem sO {cells:List (Str×Addr)}{sc:KO}{C:Addr}{x:Str}(h:(x,LL)∉sc.names):(kF cells sc C).lookup x=(o4 cells sc.names []).lookup x:=by
 unfold kF;rw[bi,Nr];cases e:(KA (C+1) sc.names []).lookup x with
 |none=>rfl
 |some c'=>exact absurd (o5 (Jy e)) h
theorem o7 {M:WN}{A:Jc}{E:Ia->Ic->Prop}{s:Ic}{scope:KO}{globals:Addr}{closure:List (Str×Addr)}{qual:Str}{outer:Env}{Q:Env->Ic->Prop}
 (hQ: ∀h',h'.Ns s.heap.objs.size (λ_=>none)->(∀b o,s.heap.get? b=some o->h'.get? b=some o)->CellsOk h' (s.heap.objs.size+1) (KA (s.heap.objs.size+1) scope.names [])->
   Q (newEnv scope s.heap.objs.size globals (KA (s.heap.objs.size+1) scope.names closure) qual none .none (some outer) PL) {s with heap:=h',toks:=s.toks}):
 II M A (Mz scope globals closure [] qual none .none (some outer)) Q E s:=by
 simp only[Mz,PQ,if_true];refine HZ (wpAny_alloc ?_)
 refine HZ (wpAny_layCells _ (λname kind cells=>by cases hkc:kind==LL<;>simp[hkc]) _ _ _ _ ?_)
 have ok:=cellsFrom_ok scope.names (s.heap.push {cls:=.type "dict",data:=.dict #[]}) (s.heap.objs.size+1) [] ⟨λ_ _ hm=>(nomatch hm),Qa⟩ (by rw[J8];exact Ie _)
 rw[J8] at ok;rw[show({s with heap:=s.heap.push {cls:=.type "dict",data:=.dict #[]}}:Ic).heap.objs.size=s.heap.objs.size+1 from J8 ..]
 rw[Rp];refine HZ (Ih (Ih ?_))
 exact hQ _ ((Heap.Ns.new s.heap (.type "dict")).keeps (Q0 _ _)) (λb o e=>Q0 _ _ b o (Ib _ e)) ok
def aC(X:Cx)(N':List Str)(scope:KO)(C:Addr)(s₀:Ic)(H₀:Hp)(ex:List Addr):Cx where
 prog:=X.prog
 w:=X.w
 K:=X.K
 mg:=X.mg
 base:=X.base
 A:=X.A
 N:=N'
 s₀:=s₀
 H₀:=H₀
 env:=N6 scope (kF X.env.cells scope C) C X.env
 outer:=X.stack
 stack:=X.stack
 ex:=ex
 fn:=λx=>scope.names.lookup x==some .local||scope.names.lookup x==some .cell
 calm:=X.calm
 pn:=[]
 xe:=λ_ _=>False
def tJ(N N':List Str)(sc:KO):Bool:=
 decide (N.length<=N'.length)&&((N'.take N.length).zip N).all (λp=>(p.1==p.2&& !(sc.names.lookup p.1==some .local)&& !(sc.names.lookup p.1==some .cell))||(sc.names.lookup p.1).isNone)&&
  (N'.drop N.length).all λx=>sc.names.lookup x==some .local||sc.names.lookup x==some .cell
def tq(sc:KO)(outer:KO):Bool:=
 sc.names.all λy=>(y.2 != .cell||sc.names.lookup y.1==some .cell)&&(y.2 != .local||sc.names.lookup y.1==some .local)&&(y.2 != .free||(sc.names.lookup y.1==some .free&&(outer.names.lookup y.1==some .cell||outer.names.lookup y.1==some .free)))
theorem rW {sc o:KO}(h:tq sc o=true): ∀y∈sc.names,y.2=.cell->sc.names.lookup y.1=some .cell:=λy hy e=>by
 have:=L8.mp h y hy
 simpa [e] using this
theorem f9 {sc o:KO}(h:tq sc o=true): ∀y∈sc.names,y.2=.local->sc.names.lookup y.1=some .local:=λy hy e=>by
 have:=L8.mp h y hy
 simpa [e] using this
theorem eQ {sc o:KO}(h:tq sc o=true): ∀x,(x,Kv)∈sc.names->o.names.lookup x=some .cell\/o.names.lookup x=some .free:=λx hx=>by
 have:=L8.mp h _ hx
 simpa using (by simpa using this:_/\_).2
theorem oz {sc o:KO}(h:tq sc o=true): ∀x,(x,Kv)∈sc.names->sc.names.lookup x=some .free:=λx hx=>by
 have:=L8.mp h _ hx
 simpa using (by simpa using this:_/\_).1
theorem wU {N N':List Str}{sc:KO}(h:tJ N N' sc=true){i:Nat}{x:Str}(hi:i<N.length)(e:N'[i]? =some x)(hv: ∃k,sc.names.lookup x=some k/\(k=.local\/k=.cell\/k=.free)):N[i]? =some x/\sc.names.lookup x=some .free:=by
 unfold tJ at h;simp only[Jn,decide_eq_true_eq] at h;obtain⟨⟨h1,h2⟩,_⟩:=h
 have hN:N[i]? =some N[i]:=Ig hi
 have e1:(N'.take N.length)[i]? =some x:=by rw[Ln hi];exact e
 have hm:(x,N[i])∈(N'.take N.length).zip N:=by
  refine KJ (i:=i) ?_
  rw[NC];exact⟨e1,hN⟩
 have:=L8.mp h2 _ hm
 obtain⟨k,hk,hk2⟩:=hv
 dsimp only at this;rw[hk] at this;simp only[Option.isNone_some,R9,Jn,LS] at this;obtain⟨⟨t1,t2⟩,t3⟩:=this
 have ex:x=N[i]:=eq_of_beq t1
 rcases hk2 with rfl|rfl|rfl
 ·simp at t2
 ·simp at t3
 ·exact⟨by rw[hN,<-ex],hk⟩
theorem BH {N N':List Str}{sc:KO}(h:tJ N N' sc=true):N.length<=N'.length:=by
 unfold tJ at h;simp only[Jn,decide_eq_true_eq] at h;exact h.1.1
section
variable {X:Cx}{aa:List (Addr×Obj)}{σ:St}{H:Hp}{s:Ic}{scope:KO}{N':List Str}{fp:List Addr}
theorem xq(I:Inv X aa σ H s){b:Addr}(f:fN X aa H b):b∉frs X.stack:=λz=>by
 rcases IC.mp (I.stkSub b z) with e|z
 ·exact f.2.1 e
 ·exact f.2.2.1 z
theorem lY {h':Heap}{tk:Nat}(I:Inv X aa σ H s)(hF: ∀b∈fp,fN X aa H b)(hO: ∀b∈fp,∃o,s.heap.get? b=some o)(hk:scope.kind=.function)(hs:tq scope X.env.scope=true)(hn:tJ X.N N' scope=true)
 (ns:h'.Ns s.heap.objs.size λ_=>none) (kp: ∀b o,s.heap.get? b=some o->h'.get? b=some o) (oc:CellsOk h' (s.heap.objs.size+1) (KA (s.heap.objs.size+1) scope.names [])):
 Inv (aC X N' scope s.heap.objs.size s H fp) [] (σ++Im (N'.length-X.N.length) none) H {s with heap:=h',toks:=tk}:=by
 have hlen:=BH hn
 have cl: ∀x c,(o4 X.env.cells scope.names []).lookup x=some c->X.env.cells.lookup x=some c:=λx c e=>tG e
 have clt: ∀x c,(o4 X.env.cells scope.names []).lookup x=some c->c<s.heap.objs.size:=λx c e=>let⟨_,z⟩:=I.cell x c (cl x c e);z.lt
 have newC:H s.heap.objs.size=none:=I.hok.fresh (Ie _)
 refine⟨⟨I.ok.mod,hk,I.ok.glob,I.ok.blt,Ie _,λx y c h1 h2=>?_,λx hx=>?_,λx c h1 h2=>?_,I.ok.hd,I.ok.frames,.inl rfl,λb hb=>⟨?_,λx c e=>?_⟩,I.bs,Jk I.ok.bsz I.sz,λb o e hb=>?_,λb hb=>xq I (hF b hb),I.stack,I.stkFree⟩,
  rfl,I.bare,Un.kept kp,⟨_,ns,λi x v e1 e2 e3=>?_⟩,λx c e=>?_,newC,λx c e=>?_,λp hp=>absurd (show p∈([]:List (Addr×Obj)) from hp) (by simp),I.hok.kept kp,?_⟩
 ·
  rcases dE h1 with h1|h1<;>rcases dE h2 with h2|h2
  ·exact name_of_addr oc.apart h1 h2
  ·exact absurd (clt y c h2) (Lo.mpr (LU (oc.empty _ _ h1).2))
  ·exact absurd (clt x c h1) (Lo.mpr (LU (oc.empty _ _ h2).2))
  ·exact I.ok.inj x y c (cl x c h1) (cl y c h2)
 ·
  have hx':(My scope X.env).names.lookup x=some .cell\/(My scope X.env).names.lookup x=some .free:=hx
  have:(x,LL)∈scope.names\/(x,Kv)∈scope.names:=by
   rcases hx' with hx'|hx'
   ·obtain⟨k0,e0,e1|⟨e1,_⟩⟩:=gc hx'
    ·subst e1;exact .inl (Jy e0)
    ·subst e1;exact .inr (Jy e0)
   ·obtain⟨k0,e0,e1|⟨_,e1⟩⟩:=gc hx'
    ·subst e1;exact .inr (Jy e0)
    ·cases e1
  rcases this with this|this
  ·exact yG this
  ·have hc:=eQ hs x this
   obtain⟨c,e⟩:=I.ok.has x hc
   exact⟨c,(sO λz=>by have z1:=rW hs _ z rfl;have z2:=oz hs x this;rw[z2] at z1;cases z1).trans (k7 e this)⟩
 ·
  have h1':scope.names.lookup x=some .local\/scope.names.lookup x=some .cell:=by
   have h1:(scope.names.lookup x==some .local||scope.names.lookup x==some .cell)=true:=h1
   simpa using h1
  rcases dE h2 with h2|h2
  ·exact LU (oc.empty _ _ h2).2
  ·exfalso
   rcases sQ _ (Jy h2) with z|z
   ·exact nomatch z
   ·rw[oz hs x z] at h1';rcases h1' with h1'|h1'<;>cases h1'
 ·obtain⟨o,e⟩:=hO b hb
  exact IV (Ix e)
 ·rcases dE e with e|e
  ·obtain⟨o,e'⟩:=hO b hb
   exact λz=>absurd (Ix e') (Lo.mpr (z▸LU (oc.empty _ _ e).2))
  ·exact(hF b hb).2.2.2.2.1 x c (cl x c e)
 ·obtain⟨_,_,_,h4,_⟩:=hF b hb
  rcases h4 with h4|h4
  ·exact I.ok.noex b o e h4
  ·exact absurd (IJ (Ix e) (Jk I.ok.bsz h4)) (Ku _)
 ·have hi:i<X.N.length:=by
   by_cases hi:i<σ.length
   ·rw[<-I.len];exact hi
   ·rw[IX (by omega),Jj] at e2
    split at e2<;>cases e2
  rw[Jg (by rw[I.len];exact hi)] at e2
  have e3':(My scope X.env).names.lookup x=some .local\/(My scope X.env).names.lookup x=some .cell\/(My scope X.env).names.lookup x=some .free:=e3
  have hv: ∃k,scope.names.lookup x=some k/\(k=.local\/k=.cell\/k=.free):=by
   rcases e3' with z|z|z
   all_goals
    obtain⟨k0,q0,q1|⟨q1,q2⟩⟩:=gc z
    ·subst q1;exact⟨_,q0,by simp⟩
    ·subst q1;exact⟨_,q0,by simp⟩
  obtain⟨hN,hf⟩:=wU hn hi e1 hv
  have hfm:=Jy hf
  have hc:=eQ hs x hfm
  have nc:(x,LL)∉scope.names:=λz=>by have z1:=rW hs _ z rfl;rw[hf] at z1;cases z1
  obtain⟨m,hm,hl⟩:=I.loc
  obtain⟨u,r,l⟩:=hl i x v hN e2 (.inr hc)
  refine⟨u,r,.inr ⟨?_,?_⟩⟩
  ·show(My scope X.env).names.lookup x=some .cell\/(My scope X.env).names.lookup x=some .free
   rcases e3' with z|z|z
   ·obtain⟨k0,q0,q1|⟨q1,q2⟩⟩:=gc z
    ·subst q1;rw[hf] at q0;cases q0
    ·cases q2
   ·exact .inl z
   ·exact .inr z
  ·rcases l with⟨l,_⟩|⟨_,c,ec,z⟩
   ·have l':X.env.scope.names.lookup x=some .local:=l
    rcases hc with hc|hc<;>rw[hc] at l'<;>cases l'
   ·exact⟨c,(sO nc).trans (k7 ec hfm),z.keeps kp⟩
 ·rcases dE e with e|e
  ·exact⟨_,(oc.empty _ _ e).1⟩
  ·obtain⟨v,z⟩:=I.cell x c (cl x c e)
   exact⟨v,z.keeps kp⟩
 ·rcases dE e with e|e
  ·exact I.hok.fresh (LU (oc.empty _ _ e).2)
  ·exact I.freeC x c (cl x c e)
 ·show(σ++_).length=N'.length
  rw[Jf,OP,I.len];omega
end
def GF(K:Il)(c:Ct)(hid:a7)(f:FA)(ρ:aA):TI:=λσ H R=>SR K c hid ρ σ H/\ ∃ds,f ρ=some ds/\ ∀J H',Same H H'->ItOk K (vw H' hid) J ds->R J H'
def DIp(X:Cx)(c:Ct)(tg iter:Expr)(f:FA):Prop:= ∀hid ρ,PI X tg iter (GF X.K c hid f ρ)
def FK {ι:Type}(IR:Hp->V->ι->Prop)(L W:Hp)(J:It)(ds:List ι):Prop:=
 (∀(i:Nat) (d:ι) (H:Hp),ds[i]? =some d->Same L H->Same W H->J.go i H/\ ∀x H',J.yld i H x H'->Same H H'/\ ∀hid:a7,(∀b,hid b=true-> ∃o,H b=some o)->Same W (vw H hid)->IR (vw H' hid) x d)/\ ∀H,Same L H->Same W H->J.stop ds.length H
abbrev FP(K:Il)(L W:Hp)(J:It)(ds:List D):Prop:=FK (Rep K) L W J ds
theorem ItOk.b {K:Il}{L W:Hp}{J:It}{ds:List D}(h:ItOk K W J ds):FP K L W J ds:=⟨λi d H e _ w=>h.1 i d H e w,λH _ w=>h.2 H w⟩
def Hj {ι:Type}(IR:Hp->V->ι->Prop)(K:Il)(c:Ct)(hid:a7)(f:aA->Option (List ι))(ρ:aA):TI:=λσ H R=>SR K c hid ρ σ H/\ ∃ds,f ρ=some ds/\ ∀J H',Same H H'->FK IR H' (vw H' hid) J ds->R J H'
def Hq {ι:Type}(IR:Hp->V->ι->Prop)(X:Cx)(c:Ct)(tg iter:Expr)(f:aA->Option (List ι)):Prop:= ∀hid ρ,PI X tg iter (Hj IR X.K c hid f ρ)
abbrev Gm(X:Cx)(c:Ct)(tg iter:Expr)(f:FA):Prop:=Hq (Rep X.K) X c tg iter f
section
variable {X:Cx}{c:Ct}{k:Kd}{tg iter:Expr}{pos:Pos}
theorem DIp.b {f:FA}(h:DIp X c tg iter f):Gm X c tg iter f:=λhid ρ=>PI.imp (h hid ρ) λσ H R ⟨sr,ds,e,q⟩=>⟨sr,ds,e,λJ H' s io=>q J H' s io.b⟩
theorem DIp.e {f:FA}(h:DIp X c tg iter f):DI X c tg iter (b9 f):=λhid ρ=>PI.imp (h hid ρ) λσ H R hq_=>by
 obtain⟨sr,ds,ρ',e,q⟩:=hq_
 obtain⟨e1,rfl⟩:=rE e
 exact⟨sr,ds,e1,λJ H' s io=>q J H' (.of s) (sr.ext s) io⟩
def BU(f:FE):FA:=λρ=>(f ρ).bind λd=>match d with
 | .lst ds=>some ds
 |_=>none
def Bn(f:FE):FA:=λρ=>(f ρ).bind λd=>match d with
 | .tup ds=>some ds
 |_=>none
theorem xn {f:FE}{ρ:aA}{ds:List D}(h:BU f ρ=some ds):f ρ=some (.lst ds):=by
 unfold BU at h;cases e:f ρ with
 |none=>rw[e] at h;cases h
 |some d=>
  rw[e] at h;cases d with
  |lst z=>cases h;rfl
  |_=>cases h
theorem xk {f:FE}{ρ:aA}{ds:List D}(h:Bn f ρ=some ds):f ρ=some (.tup ds):=by
 unfold Bn at h;cases e:f ρ with
 |none=>rw[e] at h;cases h
 |some d=>
  rw[e] at h;cases d with
  |tup z=>cases h;rfl
  |_=>cases h
theorem zG {K:Il}{W:Hp}{a:Addr}{xs:List V}{ds:List D}(h1:SqL K W a xs)(h2:Reps K W xs ds):ItOk K W (GK K a) ds:=by
 refine⟨λi d H e s=>?_,λH s=>⟨_,s.seq h1,by rw[h2.length];exact Ie _⟩⟩
 obtain⟨x,e1,r1⟩:=h2.get e
 refine⟨⟨_,x,s.seq h1,e1⟩,λy H' ⟨e2,e3⟩=>?_⟩
 subst e2;have:=e3 _ (s.seq h1)
 rw[e1] at this;cases this;exact⟨Same.refl _,λhid _ sw=>r1.mono sw⟩
theorem y6 {f:FE}(h:DP X c .s iter f):DIp X c tg iter (BU f):=λhid ρ=>PI.imp (AG (h hid ρ)) λσ H R hq_=>by
 obtain⟨sr,ds,e,q⟩:=hq_
 refine⟨sr,_,xn e,λv H' s' r=>?_⟩
 cases r with
 |lst h1 h2=>have h1:=SqL.of (K:=X.K) h1;exact⟨_,rfl,⟨_,(bF _ _).seq h1⟩,q _ H' s' (zG h1 h2)⟩
theorem Ca {f:FE}(h:DP X c .s iter f):DIp X c tg iter (Bn f):=λhid ρ=>PI.imp (Eo (h hid ρ)) λσ H R hq_=>by
 obtain⟨sr,ds,e,q⟩:=hq_
 refine⟨sr,_,xk e,λv H' s' r=>?_⟩
 cases r with
 |tup h1 h2=>exact⟨_,rfl,⟨_,Same.seqT (bF _ _) h1⟩,q _ H' s' (z0 h1 h2)⟩
def cY(f:FA):FA:=λρ=>(f ρ).bind λds=>match ds with
 | [.int j]=>if j.natAbs<4000000000 then some (sV 0 j.toNat) else none
 |_=>none
theorem cM {a:Expr}{f:FA}{p:Pos}(hm:X.mg "range"=none)(ha:DA X c [a] f)(hg:Gl X "range":=by rfl)(hs:Iu [a] X.env=[(false,eval a X.env)]:=by rfl):DIp X c tg (.Call (.Name "range" p) [a] [] pos) (cY f):=λhid ρ=>
 PI.imp (oH hg hm (ha hid ρ) hs) λσ H R hq_=>by
  obtain⟨sr,ds,e,q⟩:=hq_
  unfold cY at e;cases e1:f ρ with
  |none=>rw[e1] at e;cases e
  |some z=>
   rw[e1] at e;dsimp only[Mt] at e;split at e
   ·split at e
    ·cases e
     refine⟨sr,_,e1,λvs H' s' r=>?_⟩
     cases r with
     |cons r t=>cases t;cases r;exact⟨_,rfl,by omega,by omega,q _ H' s' mo⟩
    ·cases e
   ·cases e
def jR(ifs:List Expr)(env:Env):Sem Bool:=forIn ifs true λc r=>if r=true then do let ok <-isTrue c env (eval c env);pure (ForInStep.yield ok) else pure (ForInStep.yield r)
def qc(X:Cx)(c:Ct)(ifs:List Expr)(p:FT):Prop:= ∀hid ρ (aa:List (Addr×Obj)) (s:Ic) (σ:St) (H:Hp) (Q:Bool->Hp->Prop),Inv X aa σ H s->GU X.K c hid p ρ σ H Q->II (model X.prog X.w) X.A (jR ifs X.env) (TP X aa σ Q) X.xe s
def cB:FT:=λ_=>some true
theorem cW:qc X c [] cB:=λhid ρ aa s σ H Q I hq_=>by
 obtain⟨sr,d,e,q⟩:=hq_
 cases e
 exact wpAny_tests_nil ⟨H,I,q H (Same.refl _)⟩
theorem lD {e:Expr}{p:FT}(h:DT X c e p):qc X c [e] p:=λhid ρ aa s σ H Q I q=>wpAny_tests_one (h hid ρ aa s σ H Q I q)
end
theorem c7 {prog:IP}{w:Jo}{A:Jc}{R:Nm->Ic->Prop}{s:Ic}{elt target iter:Expr}{ifs:List Expr}{scope:KO}{pos:Pos}{it acc:Ia}{env:Env}(I:Nat->Ic->Prop)
 (turn: ∀n s,I n s->II (model prog w) A (MS it) (λr s₁=>match r with
   |none=>R (.ok .next) s₁
   |some v=>II (model prog w) A (Lb target it v) (λ_ s₁=>II (model prog w) A (LN target env v) (λ_ s₂=>
     II (model prog w) A (jR ifs env) (λok s₃=>
      if ok=true then II (model prog w) A (eval elt env) (λx s₄=>
       II (model prog w) A (call (.builtin "list.append") [acc,x]) (λ_ s₅=> ∃m,m<n/\I m s₅) (λ_ _=>False) s₄) (λ_ _=>False) s₃
      else∃m,m<n/\I m s₃) (λ_ _=>False) s₂) (λ_ _=>False) s₁) (λ_ _=>False) s₁) (λ_ _=>False) s)
 (n:Nat) (h:I n s):
 KZ (model prog w) A (.compLoop (.ListComp elt [⟨target,iter,ifs,0⟩] scope pos) 0 it acc env) R s:=by
 have no: ∀ {E':Ia->Ic->Prop} (x:Ia) (s:Ic),False->E' x s:=λ_ _ z=>z.elim
 refine Qb rfl I (λn s hI=>?_) n h
 show II _ A ((Qc (.ListComp elt [⟨target,iter,ifs,0⟩] scope pos) 0 it acc env).onRaise (λx=>do Qw x env;OJ x)) _ _ s
 refine QO ?_
 rw[compTurn_list];refine HZ (K2 (HZ (Ji (turn n s hI) (λr s₁ h₁=>?_) no)))
 cases r with
 |none=>exact Ih h₁
 |some v=>
  refine HZ (Ji h₁ (λ_ s₁ h₁=>?_) no)
  refine HZ (Ji h₁ (λ_ s₂ h₂=>HZ (Ji h₂ (λok s₃ h₃=>?_) no)) no)
  cases ok with
  |false=>exact Ih ⟨rfl,h₃⟩
  |true=>
   exact HZ (HZ (Ji h₃ (λx s₄ h₄=>HZ (Ji h₄ (λ_ s₅ h₅=>Ih (Ih ⟨rfl,h₅⟩)) no)) no))
def cr {ι:Type}(g:ι->aA->Option aA)(p:FT)(f:FE)(ρ0:aA):List ι->Option (List D)
 | []=>some []
 |d::r=>(g d ρ0).bind λρ1=>(p ρ1).bind λb=>if b=true then(f ρ1).bind λy=>(cr g p f ρ0 r).map (y:: ·) else cr g p f ρ0 r
def bJ {ι:Type}(m:Nat)(gi:aA->Option (List ι))(g:ι->aA->Option aA)(p:FT)(f:FE):FE:=λρ=>(gi ρ).bind λds=>if ds.length<=Iy then(cr g p f (ρ++Im m .no) ds).map D.lst else none
theorem l4 {ι:Type}{m:Nat}{gi:aA->Option (List ι)}{g:ι->aA->Option aA}{p:FT}{f:FE}{ρ:aA}{d:D}(h:bJ m gi g p f ρ=some d): ∃ds ys,gi ρ=some ds/\ds.length<=Iy/\cr g p f (ρ++Im m .no) ds=some ys/\d=.lst ys:=by
 unfold bJ at h;cases e1:gi ρ with
 |none=>rw[e1] at h;cases h
 |some ds=>
  rw[e1] at h;dsimp only[Mt] at h;split at h
  ·cases e2:cr g p f (ρ++Im m .no) ds with
   |none=>rw[e2] at h;cases h
   |some ys=>rw[e2] at h;cases h;exact⟨ds,ys,rfl, ‹_›,e2,rfl⟩
  ·cases h
def gD {ι:Type}(n:Nat)(g:ι->aA->Option aA):Prop:= ∀d (ρ0 ρ1:aA),g d ρ0=some ρ1->ρ1.length=ρ0.length/\ ∀i:Nat,i<n->ρ1[i]? =ρ0[i]?
def wf(n:Nat)(g:vi):Prop:= ∀d (ρ0 ρ1:aA),g d ρ0=some ρ1->ρ1.length=ρ0.length/\ ∀i:Nat,i<n->ρ1[i]? =ρ0[i]?
theorem bP {n i:Nat}(h:n<=i):gD n (gN i):=λd ρ0 ρ1 e=>by
 cases e
 exact⟨by simp,λj hj=>Iv (by omega)⟩
theorem fX {n:Nat}:wf n gb:=λd ρ0 ρ1 e=>by
 unfold gb at e;split at e
 ·cases e;exact⟨rfl,λ_ _=>rfl⟩
 ·cases e
theorem bK {n:Nat}{g:FG}{gs:vi}(h1:gD n g)(h2:wf n gs):wf n (cx g gs):=λd ρ0 ρ1 e=>by
 cases d with
 |nil=>cases e
 |cons d ds=>
  have e:(g d ρ0).bind (λρ'=>gs ds ρ')=some ρ1:=e
  cases e1:g d ρ0 with
  |none=>rw[e1] at e;cases e
  |some ρ2=>
   rw[e1] at e;obtain⟨a1,a2⟩:=h1 d ρ0 ρ2 e1
   obtain⟨b1,b2⟩:=h2 ds ρ2 ρ1 e
   exact⟨b1.trans a1,λi hi=>(b2 i hi).trans (a2 i hi)⟩
theorem l9 {n m:Nat}{gs:vi}(h:wf n gs):gD n (gT m gs):=λd ρ0 ρ1 e=>by
 unfold gT at e;split at e
 ·split at e
  ·exact h _ _ _ e
  ·cases e
 ·cases e
theorem SR.forget {K:Il}{c:Ct}{hid:a7}{ρ0 ρ1:aA}{σ:St}{H:Hp}(h:SR K c hid ρ1 σ H)(hl:ρ1.length=ρ0.length)(hs: ∀(i:Nat) (s:Sl),ρ0[i]? =some s->s=.no\/ρ1[i]? =some s):SR K c hid ρ0 σ H:=by
 have ow: ∀i:Nat,Ow ρ0[i]? ->Ow ρ1[i]? :=λi o=>by
  cases e:ρ0[i]? with
  |none=>rw[e] at o;exact o.elim
  |some s=>
   rcases hs i s e with rfl|z
   ·rw[e] at o;exact o.elim
   ·rw[z,<-e];exact o
 refine⟨h.tr,h.ht,h.h0,h.kp,h.t0,h.c0,h.m0,h.len.trans hl,λi s e=>?_,λi j a n o1 o2=>h.ap i j a n (ow i o1) (ow j o2)⟩
 rcases hs i s e with rfl|z
 ·trivial
 ·exact h.sl i s z
theorem SR.more {K:Il}{c:Ct}{hid:a7}{ρ:aA}{σ:St}{H:Hp}(h:SR K c hid ρ σ H)(m:Nat):SR K c hid (ρ++Im m .no) (σ++Im m none) H:=by
 have lt: ∀ {i:Nat},Ow (ρ++Im m Sl.no)[i]? ->i<ρ.length:=λ{i} o=>by
  by_cases hi:i<ρ.length
  ·exact hi
  ·rw[IX (by omega),Jj] at o
   split at o<;>exact o.elim
 refine⟨h.tr,h.ht,h.h0,h.kp,h.t0,h.c0,h.m0,by simp[h.len],λi s e=>?_,λi j a n o1 o2 q1 q2=>?_⟩
 ·by_cases hi:i<ρ.length
  ·rw[Jg hi] at e
   have z:=h.sl i s e
   have es:(σ++Im m none)[i]? =σ[i]? :=Jg (by rw[h.len];exact hi)
   cases s with
   |no=>trivial
   |v d=>obtain⟨x,h1,h2⟩:=z;exact⟨x,es.trans h1,h2⟩
   |own ds=>obtain⟨a,xs,h1,h2⟩:=z;exact⟨a,xs,es.trans h1,h2⟩
   |arg ds=>obtain⟨a,xs,h1,h2⟩:=z;exact⟨a,xs,es.trans h1,h2⟩
   |ob b=>obtain⟨a,h1,h2⟩:=z;exact⟨a,es.trans h1,h2⟩
  ·rw[IX (by omega),Jj] at e
   split at e
   ·cases e;trivial
   ·cases e
 ·have l1:=lt o1
  have l2:=lt o2
  rw[Jg l1] at o1;rw[Jg l2] at o2;rw[Jg (by rw[h.len];exact l1)] at q1
  rw[Jg (by rw[h.len];exact l2)] at q2
  exact h.ap i j a n o1 o2 q1 q2
section
variable {X:Cx}{c:Ct}{elt tg iter:Expr}{ifs:List Expr}{scope:KO}{pos:Pos}{N':List Str}{m:Nat}{ι:Type}{IR:Hp->V->ι->Prop}{gi:aA->Option (List ι)}{g:ι->aA->Option aA}{p:FT}{f:FE}
theorem SR.write {K:Il}{hid:a7}{ρ:aA}{σ:St}{H:Hp}{a:Addr}{o':HO}(h:SR K c hid ρ σ H)(hh:hid a=true)(h0:c.H₀ a=none)(na: ∀i:Nat,Ow ρ[i]? ->σ[i]? ≠some (some (.ref a))){o:HO}(ha:H a=some o)(hm: ∀p u,o≠ .nst p u:=by intro _ _ e;cases e)(hn: ∀xs,o'≠ .tup xs:=by intro _ e;cases e):SR K c hid ρ σ (aI H a o'):=by
 have tr': ∀b o,H b=some o-> ∃o2,(aI H a o') b=some o2:=λb o q=>by
  by_cases e:b=a
  ·subst e;exact⟨_,ah⟩
  ·exact⟨o,by rw[af e];exact q⟩
 refine⟨λb hb=>let⟨o,q⟩:=h.tr b hb;tr' b o q,λb xs hb q=>by
  by_cases e:b=a
  ·subst e;rw[ah] at q;exact hn _ (Je q)
  ·rw[af e] at q;exact h.ht b xs hb q,h.h0,λb o q m=>?_,λb o q=>let⟨o2,q2⟩:=h.t0 b o q;tr' b o2 q2,h.c0,h.m0,h.len,λi s e=>?_,h.ap⟩
 ·rw[af (aQ q h0)];exact h.kp b o q m
 ·have z:=h.sl i s e
  have ne: ∀a',Ow ρ[i]? ->σ[i]? =some (some (.ref a'))->a'≠a:=λa' o q w=>by subst w;exact na i o q
  cases s with
  |no=>trivial
  |v d=>obtain⟨x,h1,h2⟩:=z;exact⟨x,h1,by rw[bH hh];exact h2⟩
  |own ds=>obtain⟨a',xs,h1,h2,h3,h4,h5⟩:=z;exact⟨a',xs,h1,by rw[af (ne a' (by rw[e];trivial) h1)];exact h2,h3,h4,by rw[bH hh];exact h5⟩
  |arg ds=>obtain⟨a',xs,h1,h2,h3,h4,h5⟩:=z;exact⟨a',xs,h1,by rw[af (ne a' (by rw[e];trivial) h1)];exact h2,h3,h4,by rw[bH hh];exact h5⟩
  |ob b=>obtain⟨a',h1,h2⟩:=z;exact⟨a',h1,h2.mono (λow x hx o q=>by rw[af (hx.ne (ne a' (by rw[e];exact ow) h1) ha hm)];exact q) (by rw[bH hh];exact Same.refl _) λ_ _ _ q=>q⟩
structure CLI(Y:Cx)(K:Il)(c:Ct)(hid:a7)(ρ0:aA)(H W:Hp)(D0:Addr)(fp:List Addr)(tn:Nat->Heap->Prop){ι:Type}(g:ι->aA->Option aA)(p:FT)(f:FE)(ds:List ι)(ys:List D)(n i:Nat)(xs:List V)(ad:List D)(σ':St)(H':Hp)(s':Ic):Prop where
 e:n=ds.length-i
 hi:i<=ds.length
 I:Inv Y [] σ' H' s'
 st:tn i s'.heap
 fr: ∀b∈fp,H' b=none
 sr:SR K c hid ρ0 σ' H'
 sm:Same H H'
 ac:H' D0=some (.lst xs)
 rp:Reps K (vw H' hid) xs ad
 w:Same W (vw H' hid)
 hl:xs.length<=i
 na: ∀i:Nat,Ow ρ0[i]? ->σ'[i]? ≠some (some (.ref D0))
 go: ∃rest,cr g p f ρ0 (ds.drop i)=some rest/\ad++rest=ys
theorem xu(hcalm:X.calm=true)(hT:gD X.N.length g)
 (hg: ∀C s₀ H₀ ex,Gp IR (aC X N' scope C s₀ H₀ ex) c tg g) (hp: ∀C s₀ H₀ ex,qc (aC X N' scope C s₀ H₀ ex) c ifs p) (he: ∀C s₀ H₀ ex,DP (aC X N' scope C s₀ H₀ ex) c .s elt f)
 {σ3:St} {H H3:Hp} {s3 s4:Ic} {hid:a7} {ρ:aA} {J:It} {it D0 C:Addr} {fp:List Addr} {tn:Nat->Heap->Prop} {ds:List ι} {ys:List D} {R:Nm->Ic->Prop} {W:Hp} (hρ:ρ.length=X.N.length)
 (I:Inv (aC X N' scope C s3 H3 fp) [] σ3 H3 s4) (sr:SR X.K c hid (ρ++Im m .no) σ3 H3) (hh:hid D0=true) (h00:c.H₀ D0=none) (na: ∀i:Nat,Ow (ρ++Im m Sl.no)[i]? ->σ3[i]? ≠some (some (.ref D0))) (hacc:H3 D0=some (.lst [])) (sm:Same H H3) (nD:H D0=none) (wv:Same W (vw H3 hid)) (T:Turn X.prog X.w X.K tg J fp it tn) (st:tn 0 s4.heap) (hF: ∀b∈fp,H3 b=none)
 (io:FK IR H W J ds) (hz:ds.length<=Iy) (hc:cr g p f (ρ++Im m .no) ds=some ys)
 (hR: ∀(s':Ic) (σ':St) (H':Hp) (xs:List V),Inv (aC X N' scope C s3 H3 fp) [] σ' H' s'->Same H H'->H' D0=some (.lst xs)->Reps X.K (vw H' hid) xs ys->R (.ok .next) s'):
 KZ (model X.prog X.w) X.A (.compLoop (.ListComp elt [⟨tg,iter,ifs,0⟩] scope pos) 0 (.ref it) (.ref D0) (N6 scope (kF X.env.cells scope C) C X.env)) R s4:=by
 have stat: ∀ {aa:List (Addr×Obj)} {H':Hp},(∀q∈aa,q.1∉fp)->(∀b∈fp,H' b=none)-> ∀b∈fp,fN (aC X N' scope C s3 H3 fp) aa H' b:=λ{aa H'} hpn hn b hb=>
  ⟨hn b hb,(I.ok.exf b hb).1,I.ok.exfs b hb,.inl hb,(I.ok.exf b hb).2,λq hq e=>hpn q (by have hq':q∈([]:List (Addr×Obj))++aa:=hq;simpa using hq') (by rw[e];exact hb)⟩
 have no: ∀q∈([]:List (Addr×Obj)),q.1∉fp:=λq hq=>nomatch hq
 refine c7 (λn s'=> ∃(i:Nat) (xs:List V) (ad:List D) (σ':St) (H':Hp),CLI (aC X N' scope C s3 H3 fp) X.K c hid (ρ++Im m .no) H W D0 fp tn g p f ds ys n i xs ad σ' H' s') ?_ ds.length
  ⟨0,[],[],σ3,H3,by simp,Jh _,I,st,hF,sr,sm,hacc,.nil,wv,Jh _,na,ys,by simpa using hc,rfl⟩
 rintro n s5 ⟨i,xs,ad,σ5,H5,rfl,hi,I5,st5,f5,sr5,sm5,ac5,rp5,w5,hl5,na5,rest,hc5,hy5⟩
 have wH:Same W H5:=w5.trans (bF _ _)
 by_cases hlt:i<ds.length
 ·have hd:ds[i]? =some ds[i]:=Ig hlt
  have e2:ds.drop i=ds[i]::ds.drop (i+1):=Kf hlt
  rw[e2] at hc5;unfold cr at hc5;obtain⟨go,yl⟩:=io.1 i ds[i] H5 hd sm5 wH
  refine bm (T.item (aC X N' scope C s3 H3 fp) rfl rfl rfl hcalm i [] s5 σ5 H5 (λ_ _=>False) I5 (stat no f5) st5 go) λr s6 hq_=>?_
  obtain⟨u,hr,h6⟩:=hq_
  subst hr;refine bm h6 λ_ s7 hq_=>?_
  obtain⟨x,H7,I7,r7,y7,st7,f7⟩:=hq_
  obtain⟨s7',rp⟩:=yl x H7 y7
  have rx:=rp hid sr5.tr w5
  have I7':=I7.pinned (stat no f7) (T.obj _ _ st7)
  cases e3:g ds[i] (ρ++Im m .no) with
  |none=>rw[e3] at hc5;cases hc5
  |some ρ1=>
   rw[e3] at hc5;have hc5:(p ρ1).bind (λb=>if b=true then(f ρ1).bind λy=>(cr g p f (ρ++Im m .no) (ds.drop (i+1))).map (y:: ·) else cr g p f (ρ++Im m .no) (ds.drop (i+1)))=some rest:=hc5
   obtain⟨tl1,tl2⟩:=hT _ _ _ e3
   have fg: ∀ {σ':St} {H':Hp},SR X.K c hid ρ1 σ' H'->SR X.K c hid (ρ++Im m .no) σ' H':=λ{σ' H'} z=>z.forget tl1 λj s e=>by
    by_cases hj:j<X.N.length
    ·exact .inr ((tl2 j hj).trans e)
    ·refine .inl ?_
     rw[IX (by omega),Jj] at e
     split at e
     ·cases e;rfl
     ·cases e
   have keepT: ∀ {σ':St} {H':Hp} {s':Ic},Inv (aC X N' scope C s3 H3 fp) ([]++jn fp s7.heap) σ' H' s'->tn (i+1) s'.heap/\ ∀b∈fp,H' b=none:=λ{σ' H' s'} J'=>by
    refine⟨T.keep _ _ _ st7 λb hb o e=>(J'.pin (b,o) (Iw _ (Iw _ (cg hb e)))).1,λb hb=>?_⟩
    obtain⟨o,e,_⟩:=T.obj _ _ st7 b hb
    exact(J'.pin (b,o) (Iw _ (Iw _ (cg hb e)))).2.1
   refine bm (hg C s3 H3 fp hid _ ds[i] _ s7 σ5 H7 x u (λσ' H'=>H'=H7/\SR X.K c hid ρ1 σ' H7/\OwK (ρ++Im m .no) ρ1 σ5 σ') I7' r7 ⟨sr5.ext s7',rx,ρ1,e3,λσ' z o=>⟨rfl,z,o⟩⟩) λ_ s8 hq_=>?_
   obtain⟨σ8,H8,I8,e8,q8,o8⟩:=hq_
   subst e8;have na8: ∀i:Nat,Ow (ρ++Im m Sl.no)[i]? ->σ8[i]? ≠some (some (.ref D0)):=λj o=>by
    have o1:Ow ρ1[j]? :=by
     by_cases hj:j<X.N.length
     ·rw[tl2 j hj];exact o
     ·exfalso
      rw[IX (by omega),Jj] at o
      split at o<;>exact o.elim
    rw[(o8 j o1).2];exact na5 j o
   cases e4:p ρ1 with
   |none=>rw[e4] at hc5;cases hc5
   |some b=>
    rw[e4] at hc5;have hc5:(if b=true then(f ρ1).bind λy=>(cr g p f (ρ++Im m .no) (ds.drop (i+1))).map (y:: ·) else cr g p f (ρ++Im m .no) (ds.drop (i+1)))=some rest:=hc5
    refine bm (hp C s3 H3 fp hid ρ1 _ s8 σ8 H8 (λb' H'=>b'=b/\Same H8 H') I8 ⟨q8,b,e4,λH' s'=>⟨rfl,s'⟩⟩) λok s9 hq_=>?_
    obtain⟨H9,I9,e9,sm9⟩:=hq_
    subst e9;have w9:Same (vw H5 hid) (vw H9 hid):=aD (s7'.trans sm9)
    cases ok with
    |false=>
     have hc5:cr g p f (ρ++Im m .no) (ds.drop (i+1))=some rest:=hc5
     obtain⟨k1,k2⟩:=keepT I9
     exact⟨ds.length- (i+1),by omega,i+1,xs,ad,σ8,H9,rfl,hlt,I9.unpinned,k1,k2,fg (q8.ext sm9),sm5.trans (s7'.trans sm9),sm9 _ _ (s7' _ _ ac5),rp5.mono w9,w5.trans w9,by omega,na8,rest,hc5,hy5⟩
    |true=>
     have hc5:((f ρ1).bind λy=>(cr g p f (ρ++Im m .no) (ds.drop (i+1))).map (y:: ·))=some rest:=hc5
     cases e5:f ρ1 with
     |none=>rw[e5] at hc5;cases hc5
     |some y=>
      rw[e5] at hc5;have hc5:(cr g p f (ρ++Im m .no) (ds.drop (i+1))).map (y:: ·)=some rest:=hc5
      cases e6:cr g p f (ρ++Im m .no) (ds.drop (i+1)) with
      |none=>rw[e6] at hc5;cases hc5
      |some rest'=>
       rw[e6] at hc5;cases hc5
       show II (model X.prog X.w) X.A (eval elt _) _ _ s9;refine bm (he C s3 H3 fp hid ρ1 _ s9 σ8 H9 (λv H'=>Same H9 H'/\Rep X.K (vw H' hid) v y) I9 ⟨q8.ext sm9,y,e5,λv H' s' r=>⟨s',r⟩⟩) λv s10 hq_=>?_
       obtain⟨z,H10,I10,rz,sm10,rp10⟩:=hq_
       have sm':Same H5 H10:=s7'.trans (sm9.trans sm10)
       have a10:H10 D0=some (.lst xs):=sm' _ _ ac5
       refine bm (fR (X:=aC X N' scope C s3 H3 fp) _ s10 σ8 H10 (.ref D0) [z] (.ref D0) [v] (λ_ H'=>H'=aI H10 D0 (.lst (xs++[z]))) I10 rfl (.cons rz .nil) ⟨D0,xs,z,rfl,rfl,a10,by omega,rfl⟩) λ_ s11 ⟨_,H11,I11,_,e11⟩=>?_
       subst e11;obtain⟨k1,k2⟩:=keepT I11
       have vv:vw (aI H10 D0 (.lst (xs++[z]))) hid=vw H10 hid:=bH hh
       have w10:Same (vw H5 hid) (vw H10 hid):=aD sm'
       refine⟨ds.length- (i+1),by omega,i+1,xs++[z],ad++[y],σ8,_,rfl,hlt,I11.unpinned,k1,k2,?_,λb o e=>?_,ah,?_,?_,by simp;omega,na8,rest',e6,by rw[<-hy5];simp⟩
       ·
        have q10:=fg ((q8.ext sm9).ext sm10)
        exact q10.write hh h00 na8 a10
       ·rw[af (aQ e nD)];exact sm' _ _ (sm5 _ _ e)
       ·rw[vv];exact(rp5.mono w10).append (.cons rp10 .nil)
       ·rw[vv];exact w5.trans w10
 ·have e:i=ds.length:=by omega
  subst e;rw[Kx (Ie _)] at hc5;cases hc5
  rw[JF] at hy5;subst hy5;refine bm (T.done (aC X N' scope C s3 H3 fp) rfl rfl rfl hcalm ds.length [] s5 σ5 H5 (λ_ _=>False) I5 (stat no f5) st5 (io.2 H5 sm5 wH)) λr s6 hq_=>?_
  obtain⟨hr,I6⟩:=hq_
  subst hr;exact hR s6 σ5 H5 xs I6 sm5 ac5 rp5
theorem mT(hcalm:X.calm=true)(hk:scope.kind=.function)(hs:tq scope X.env.scope=true)(hn:tJ X.N N' scope=true)(hm:N'.length-X.N.length=m)(hT:gD X.N.length g)
 (hg: ∀C s₀ H₀ ex,Gp IR (aC X N' scope C s₀ H₀ ex) c tg g) (hp: ∀C s₀ H₀ ex,qc (aC X N' scope C s₀ H₀ ex) c ifs p) (he: ∀C s₀ H₀ ex,DP (aC X N' scope C s₀ H₀ ex) c .s elt f)
 {E:Ia->Ic->Prop} {aa:List (Addr×Obj)} {σ:St} {H:Hp} {s:Ic} {hid:a7} {ρ:aA} {J:It} {it:Addr} {fp:List Addr} {tn:Nat->Heap->Prop} {ds:List ι} {ys:List D} {RR:Ia->Addr->Nm->Ic->Prop}
 (I:Inv X aa σ H s) (sr:SR X.K c hid ρ σ H) (T:Turn X.prog X.w X.K tg J fp it tn) (st:tn 0 s.heap) (hF: ∀b∈fp,fN X aa H b) (io:FK IR H (vw H hid) J ds) (hz:ds.length<=Iy) (hc:cr g p f (ρ++Im m .no) ds=some ys)
 (hR: ∀(D C:Addr) (s':Ic) (H':Hp) (xs:List V),s.heap.objs.size<=D->s.heap.objs.size<=C->D≠C->H D=none->Same H H'->H' D=some (.lst xs)->Reps X.K (vw H' (aJ hid D)) xs ys->(∃m,s'.heap.Ns C m)->H' C=none->s'.os=s.os->Mv s'.gens->HOk X.prog X.w H' s'.heap->Un (frs X.stack) fp H H' s.heap s'.heap->RR (.ref D) C (.ok .next) s'):
 II (model X.prog X.w) X.A (Ox []) (λacc s₃=>II (model X.prog X.w) X.A (Mz scope X.env.globals (o4 X.env.cells scope.names []) [] X.env.qual none .none (some X.env)) (λcenv s₄=>
  KZ (model X.prog X.w) X.A (.compStart (.ListComp elt [⟨tg,iter,ifs,0⟩] scope pos) 0 (.ref it) acc {cenv with scope:=My scope X.env}) (RR acc cenv.locals) s₄) E s₃) E s:=by
 refine Jw (o7 λh₁ hns₁ kp1 oc₁=>?_)
 dsimp only at hns₁ kp1 oc₁⊢
 generalize hH2:s.heap.push {cls:=.type "list",dict:=none,data:=.seq ([]:List Ia).toArray}=H2 at hns₁ kp1 oc₁⊢
 have hC:H2.objs.size=s.heap.objs.size+1:=by rw[<-hH2,J8]
 have hD:H s.heap.objs.size=none:=I.hok.fresh (Ie _)
 have I2:Inv X aa σ (aI H s.heap.objs.size (.lst [])) {s with heap:=H2}:=by
  rw[<-hH2];exact I.laid (t':=s.toks) (λb o e=>Ib _ e) (Ie _) ⟨Jh _,[],0,.nil,Io _ rfl⟩
 have fpLt: ∀b∈fp,b<s.heap.objs.size:=λb hb=>let⟨o,e,_⟩:=T.obj 0 s.heap st b hb;Ix e
 have hF2: ∀b∈fp,fN X aa (aI H s.heap.objs.size (.lst [])) b:=λb hb=>⟨by rw[af (IV (fpLt b hb))];exact(hF b hb).1,(hF b hb).2⟩
 have kp0: ∀b o,s.heap.get? b=some o->H2.get? b=some o:=λb o e=>by rw[<-hH2];exact Ib _ e
 have IY:=lY (tk:=s.toks) (N':=N') (fp:=fp) I2 hF2 (λb hb=>let⟨o,e,_⟩:=T.obj 0 s.heap st b hb;⟨o,kp0 b o e⟩) hk hs hn hns₁ kp1 oc₁
 rw[hm] at IY;dsimp only at IY;have sr0:SR X.K c (aJ hid s.heap.objs.size) (ρ++Im m .no) (σ++Im m none) (aI H s.heap.objs.size (.lst [])):=(sr.hide (aF hD _) hD ah).more m
 have hρ:ρ.length=X.N.length:=by rw[<-sr.len];exact I.len
 have nf:hid s.heap.objs.size=false:=sr.fresh hD
 have st1:tn 0 h₁:=T.keep _ _ _ st λb hb o e=>kp1 b o (kp0 b o e)
 have na0: ∀i:Nat,Ow (ρ++Im m Sl.no)[i]? ->(σ++Im m none)[i]? ≠some (some (V.ref s.heap.objs.size)):=(sr.more m).notOw nf
 have wv:Same (vw H hid) (vw (aI H s.heap.objs.size (.lst [])) (aJ hid s.heap.objs.size)):=by rw[mI hD];exact Same.refl _
 have loop: ∀s4:Ic,s4={s with heap:=h₁,toks:=s.toks}->
  KZ (model X.prog X.w) X.A (.compLoop (.ListComp elt [⟨tg,iter,ifs,0⟩] scope pos) 0 (.ref it) (.ref s.heap.objs.size) (N6 scope (kF X.env.cells scope H2.objs.size) H2.objs.size X.env)) (RR (.ref s.heap.objs.size) H2.objs.size) s4:=by
  rintro s4 rfl
  refine xu (H:=H) (hid:=aJ hid s.heap.objs.size) (W:=vw H hid) hcalm hT hg hp he hρ IY sr0 bf (sr.fresh0 hD) na0 ah (aF hD _) hD wv T st1 (λb hb=>(hF2 b hb).1) io hz hc ?_
  intro s' σ' H' xs I' sm' hx' rp';have un1:Un (frs X.stack) fp H (aI H s.heap.objs.size (.lst [])) s.heap H2:=Un.laid (λb o e=>kp0 b o e) (Ie _) hD
  refine hR s.heap.objs.size H2.objs.size s' H' xs (Ie _) (by rw[hC];exact LZ _) (by rw[hC];exact IV (JT _)) hD sm' hx' rp' (let⟨m,hm,_⟩:=I'.loc;⟨m,hm⟩) I'.free I'.os I'.bare I'.hok (un1.trans I'.base)
 exact MA (loop _ rfl) (T.self X.A 0 _ _ _ st1 (loop _ rfl))
theorem dP(hcalm:X.calm=true)(hT:gD X.N.length g)(hi:Hq IR X c tg iter gi)
 (hg: ∀C s₀ H₀ ex,Gp IR (aC X N' scope C s₀ H₀ ex) c tg g) (hp: ∀C s₀ H₀ ex,qc (aC X N' scope C s₀ H₀ ex) c ifs p) (he: ∀C s₀ H₀ ex,DP (aC X N' scope C s₀ H₀ ex) c .s elt f)
 (hk:scope.kind=.function:=by rfl) (hs:tq scope X.env.scope=true:=by kernel_rfl) (hn:tJ X.N N' scope=true:=by kernel_rfl) (hm:N'.length-X.N.length=m:=by rfl) (hset: ∀x,JE iter X.env x=pure x:=by intro _;rfl):
 DP X c .n (.ListComp elt [⟨tg,iter,ifs,0⟩] scope pos) (bJ m gi g p f):=by
 intro hid ρ aa s σ H Q I hq;obtain⟨sr,d,hd,q⟩:=hq
 obtain⟨ds,ys,e1,hz,hc,rfl⟩:=l4 hd
 rw[PB];refine KI (use:=none) rfl hset (ci λx hx=>I.ok.has x (eQ hs x hx)) hk (f9 hs) ?_
 refine bm (hi hid ρ aa s σ H (λJ H'=>Same H H'/\FK IR H' (vw H' hid) J ds) I ⟨sr,ds,e1,λJ H' s1 io=>⟨s1,io⟩⟩) λv s1 h1=>bm h1 λitv s2 h2=>?_
 obtain⟨it,fp,tn,J,H2,rfl,I2,T,st2,f2,sm,io⟩:=h2
 refine mT (RR:=λacc C=>Qd (model X.prog X.w) X.A X.xe none (EP X aa σ Q) acc C) hcalm hk hs hn hm hT hg hp he I2 (sr.ext sm) T st2 f2 io hz hc ?_
 intro D C s' H' xs hDge hCge hDC hD sm' hx rp ⟨mm,hns⟩ hC' hos hbare hok hun;refine⟨mm,hns,λh' hsb=>⟨.ref D,H',?_,rfl,q _ H' (sm.trans sm') ⟨D,xs,ys,rfl,rfl,sm.free hD,hx,rp⟩⟩⟩
 have neC: ∀b o,s2.heap.get? b=some o->b≠C:=λb o e z=>by subst z;exact absurd (Ix e) (Lo.mpr hCge)
 have hun':Un (frs X.stack) fp H2 H' s2.heap h':=⟨λb o e n h1 h2=>(hsb.2 b (neC b o e)).trans (hun.keep b o e n h1 h2),λb o e n h1 h2=>let⟨sl,z⟩:=hun.slot b o e n h1 h2;⟨sl,(hsb.2 b (neC b o e)).trans z⟩,hun.free,λb o e h2=>let⟨o',z⟩:=hun.there b o e h2;⟨o',(hsb.2 b (neC b o e)).trans z⟩,hun.tups,hun.frzs,hun.tbls⟩
 have hok':HOk X.prog X.w H' h':=λb o e=>by
  have nb: ∀b' o',H' b'=some o'->b'≠C:=λb' o' e' z=>by subst z;rw[hC'] at e';cases e'
  refine(hok b o e).stay (λc' u hc' z=>(hsb.2 c' ?_).trans z) (λ_ z=>z) λ_ _ z=>z
  rcases hc' with z'|z'
  ·rw[z'];exact nb b o e
  ·exact nb c' _ z'
 exact I2.call' (s':={s' with heap:=h'}) (ch:=fp) hos hun' hok' hbare λb hb=>⟨(f2 b hb).2.2.2.1,(f2 b hb).2.1,(f2 b hb).2.2.2.2.1,(f2 b hb).2.2.2.2.2⟩
end
section
variable {X:Cx}{c:Ct}{elt tg iter:Expr}{ifs:List Expr}{scope:KO}{pos spos py:Pos}{N':List Str}{m:Nat}{gi:FA}{g:FG}{p:FT}{f:FE}{y:Str}
theorem Bo(i:Nat)(hcalm:X.calm=true)(hN:X.N.Nodup)(hT:gD X.N.length g)(hi:Gm X c tg iter gi)
 (hg: ∀C s₀ H₀ ex,qi (aC X N' scope C s₀ H₀ ex) c tg g) (hp: ∀C s₀ H₀ ex,qc (aC X N' scope C s₀ H₀ ex) c ifs p) (he: ∀C s₀ H₀ ex,DP (aC X N' scope C s₀ H₀ ex) c .s elt f)
 (hsw:JU (.ListComp elt [⟨tg,iter,ifs,0⟩] scope pos) (some (.Name y py)) spos.line X.env=pure true) (hyi:X.N[i]? =some y) (hy:X.env.scope.names.lookup y=some .local)
 (hk:scope.kind=.function) (hs:tq scope X.env.scope=true) (hn:tJ X.N N' scope=true) (hm:N'.length-X.N.length=m) (hset: ∀x,JE iter X.env x=pure x) (ρ:aA):
 PS X (.Assign [.Name y py] (.ListComp elt [⟨tg,iter,ifs,0⟩] scope pos) spos) (Bi (λσ H Q=> ∃hid,Cv X.K c hid .n (bJ m gi g p f) ρ σ H Q) (qE i)):=by
 intro aa s σ H E I hq;obtain⟨hid,sr,d,hd,q⟩:=hq
 obtain⟨ds,ys,e1,hz,hc,rfl⟩:=l4 hd
 rw[OQ _ _ _ _ hsw];refine HZ (K2 (HZ ?_))
 show II _ X.A (do let _ <-Sc (.ListComp elt [⟨tg,iter,ifs,0⟩] scope pos) scope X.env _ (Ox []) false (eval iter X.env) (some (LN (.Name y py) X.env))) _ _ s
 refine HZ (Ji (KI (use:=some (LN (.Name y py) X.env)) (Q:=λ_ s'=>SP X aa E .next s') rfl hset (ci λx hx=>I.ok.has x (eQ hs x hx)) hk (f9 hs) ?_) (λ_ s' hq=>Ih (Ih hq)) λ_ _ e=>e)
 refine bm (hi hid ρ aa s σ H (λJ H'=>Same H H'/\FP X.K H' (vw H' hid) J ds) I ⟨sr,ds,e1,λJ H' s1 io=>⟨s1,io⟩⟩) λv s1 h1=>bm h1 λitv s2 h2=>?_
 obtain⟨it,fp,tn,J,H2,rfl,I2,T,st2,f2,sm,io⟩:=h2
 refine mT (IR:=Rep X.K) (RR:=λacc C=>Qd (model X.prog X.w) X.A X.xe (some (LN (.Name y py) X.env)) (λ_ s'=>SP X aa E .next s') acc C) hcalm hk hs hn hm hT hg hp he I2 (sr.ext sm) T st2 f2 io hz hc ?_
 intro D C s' H' xs hDge hCge hDC hD sm' hx rp ⟨mm,hns⟩ hC' hos hbare hok hun;have I3:Inv X aa σ H' s':=I2.call' (ch:=fp) hos hun hok hbare λb hb=>⟨(f2 b hb).2.2.2.1,(f2 b hb).2.1,(f2 b hb).2.2.2.2.1,(f2 b hb).2.2.2.2.2⟩
 have fin:=q _ H' (sm.trans sm') ⟨D,xs,ys,rfl,rfl,sm.free hD,hx,rp⟩
 have ltC: ∀b o,s2.heap.get? b=some o->b≠C:=λb o e z=>by subst z;exact absurd (Ix e) (Lo.mpr hCge)
 have hLC:C≠X.env.locals:=λz=>by
  have:=I2.lt
  rw[<-z] at this;exact absurd this (Lo.mpr hCge)
 show II _ X.A (LN (.Name y py) X.env (.ref D)) _ _ s';refine NF (kC (v:=.ref D) I3 hN hyi (.inl hy) rfl (λs'' I4 hb=>?_) (.inr hy))
 obtain⟨a,hsb,ha⟩:=hb
 have hCa:C≠a:=by
  rcases ha with rfl|ha
  ·exact hLC
  ·obtain⟨w',o,ho,_⟩:=I2.cell y a ha
   exact λz=>ltC a o ho z.symm
 refine⟨mm,hns.sameBut hsb hCa,λh3 hs3=>⟨_,H',?_,fin⟩⟩
 refine I4.turned (t':=s''.toks) (it:=C) (λb o nb e=>(hs3.2 b nb).trans e) hC' hLC (.inr (Jk I2.sz hCge)) (λx c' e z=>?_) (λq hq z=>?_)
 ·obtain⟨w',o,ho,_⟩:=I2.cell x c' e
  exact ltC c' o ho z
 ·exact ltC q.1 q.2 (I2.pin q hq).1 z
theorem AW(i:Nat){k:Kd}(hcalm:X.calm=true)(hN:X.N.Nodup)(hT:gD X.N.length g)(hi:Gm X c tg iter gi)
 (hg: ∀C s₀ H₀ ex,qi (aC X N' scope C s₀ H₀ ex) c tg g) (hp: ∀C s₀ H₀ ex,qc (aC X N' scope C s₀ H₀ ex) c ifs p) (he: ∀C s₀ H₀ ex,DP (aC X N' scope C s₀ H₀ ex) c .s elt f)
 (hsw:JU (.ListComp elt [⟨tg,iter,ifs,0⟩] scope pos) (some (.Name y py)) spos.line X.env=pure true:=by rfl) (hyi:X.N[i]? =some y:=by rfl) (hy:X.env.scope.names.lookup y=some .local:=by rfl)
 (hk:scope.kind=.function:=by rfl) (hs:tq scope X.env.scope=true:=by kernel_rfl) (hn:tJ X.N N' scope=true:=by kernel_rfl) (hm:N'.length-X.N.length=m:=by rfl) (hset: ∀x,JE iter X.env x=pure x:=by intro _;rfl):
 DS X c k (.Assign [.Name y py] (.ListComp elt [⟨tg,iter,ifs,0⟩] scope pos) spos) (cS i (bJ m gi g p f)):=λρ=>PS.imp (Bo i hcalm hN hT hi hg hp he hsw hyi hy hk hs hn hm hset ρ) λD σ H hq_=>by
 obtain⟨hid,sr,q⟩:=hq_
 unfold cS at q;cases e1:bJ m gi g p f ρ with
 |none=>rw[e1] at q;exact q.elim
 |some z=>
  rw[e1] at q;exact⟨hid,sr,z,e1,λv H' s r=>q _ H' hid ((sr.ext s).setV (RN.rep r λa n=>sr.fresh n) i) (aD s)⟩
end
mutual
def dC:D->D->Bool
 | .non,.non=>true
 | .bl a,.bl b=>a==b
 | .bl a,.int b=>(if a then 1 else 0)==b
 | .int a,.bl b=>a==(if b then 1 else 0)
 | .int a,.int b=>a==b
 | .str a,.str b=>a==b
 | .tup a,.tup b=>dw a b
 | .lst a,.lst b=>dw a b
 | .lst a,.scr b=>dw a b
 | .scr a,.lst b=>dw a b
 | .scr a,.scr b=>dw a b
 |_,_=>false
def dw:List D->List D->Bool
 | [],[]=>true
 |x::xs,y::ys=>dC x y&&dw xs ys
 |_,_=>false
end
mutual
def dh:D->Nat
 | .tup a=>b7 a+1
 | .lst a=>b7 a+1
 | .scr _=>Ke
 |_=>0
def b7:List D->Nat
 | []=>0
 |x::xs=>max (dh x) (b7 xs)
end
theorem mS: ∀ {xs:List D} {i:Nat} {d:D},xs[i]? =some d->dh d<=b7 xs
 | [],_,_,h=>by simp at h
 |x::xs,0,d,h=>by simp at h;subst h;unfold b7;exact Nat.le_max_left _ _
 |x::xs,i+1,d,h=>by
  have:=mS (xs:=xs) (i:=i) (d:=d) (by simpa using h)
  unfold b7;exact Jk this (N7 _ _)
mutual
theorem jN: ∀x:D,dC x x=true
 | .non=>by unfold dC;rfl
 | .bl a=>by unfold dC;simp
 | .int a=>by unfold dC;simp
 | .str a=>by unfold dC;simp
 | .tup a=>by unfold dC;exact iT a
 | .lst a=>by unfold dC;exact iT a
 | .scr a=>by unfold dC;exact iT a
theorem iT: ∀x:List D,dw x x=true
 | []=>by unfold dw;rfl
 |x::xs=>by unfold dw;rw[jN x,iT xs];rfl
end
def i8(xs ys:List D)(j:Nat):Bool:=match xs[j]?,ys[j]? with
 |some x,some y=>dC x y
 |_,_=>false
theorem oB {xs ys:List D}(h:xs.length=ys.length):(Iz xs.length).all (i8 xs ys)=dw xs ys:=by
 induction xs generalizing ys with
 |nil=>
  cases ys with
  |nil=>unfold dw;rfl
  |cons y ys=>simp at h
 |cons x xs ih=>
  cases ys with
  |nil=>simp at h
  |cons y ys=>
   rw[IK,Kb,PC,SW];have e0:i8 (x::xs) (y::ys) 0=dC x y:=rfl
   have e1:((i8 (x::xs) (y::ys))∘Uv)=i8 xs ys:=by funext j;simp[i8]
   rw[e0,e1,ih (by simpa using h)]
   conv=>rhs;unfold dw
theorem lQ: ∀ {xs ys:List D},xs.length≠ys.length->dw xs ys=false
 | [],[],h=>absurd rfl h
 | [],_::_,_=>by unfold dw;rfl
 |_::_,[],_=>by unfold dw;rfl
 |x::xs,y::ys,h=>by unfold dw;rw[lQ (xs:=xs) (ys:=ys) (by simpa using h)];simp
section
variable {X:Cx}{aa:List (Addr×Obj)}{σ:St}{H:Hp}{s:Ic}
theorem dW(I:Inv X aa σ H s){a:Addr}{xs ys:List V}(h:SqL X.K H a xs)(h':SqT X.K H a ys):False:=by
 obtain⟨its,_,pl,_⟩:=I.list h
 obtain⟨its',_,pt,_⟩:=I.tuple h'
 exact SeqAt.ne_of_list_tuple pl.isList pt rfl
theorem EG {a b:List D}(h: ∀zs,dw a zs=dw b zs):(∀z,dC (.tup a) z=dC (.tup b) z)/\(∀z,dC (.lst a) z=dC (.lst b) z)/\ ∀z,dC (.scr a) z=dC (.lst b) z:=by
 refine⟨λz=>?_,λz=>?_,λz=>?_⟩<;>cases z<;>unfold dC<;>first|exact h _|rfl
theorem Fz {b:List D}: ∀z,dC (.scr b) z=dC (.lst b) z:=(EG λ_=>rfl).2.2
mutual
theorem Rep.eqv(I:Inv X aa σ H s): ∀ {v:V} {x y:D},Rep X.K H v x->Rep X.K H v y-> ∀z,dC x z=dC y z
 |_,_,_,.non,.non=>λ_=>rfl
 |_,_,_,.bl,.bl=>λ_=>rfl
 |_,_,_,.int,.int=>λ_=>rfl
 |_,_,_,.str,.str=>λ_=>rfl
 |_,_,_,.tup h r,.tup h' r'=>by rw[I.tuple_inj h h'] at r;exact(EG (Reps.eqv I r r')).1
 |_,_,_,.lst h r,.lst h' r'=>by rw[I.list_inj (SqL.of h) (SqL.of h')] at r;exact(EG (Reps.eqv I r r')).2.1
 |_,_,_,.lst h r,.scr h' r'=>by rw[I.list_inj (SqL.of h) h'.seq] at r;exact λz=>((EG (Reps.eqv I r r')).2.1 z).trans (Fz z).symm
 |_,_,_,.scr h r,.lst h' r'=>by rw[I.list_inj h.seq (SqL.of h')] at r;exact(EG (Reps.eqv I r r')).2.2
 |_,_,_,.scr h r,.scr h' r'=>by rw[I.list_inj h.seq h'.seq] at r;exact λz=>((EG (Reps.eqv I r r')).2.2 z).trans (Fz z).symm
 |_,_,_,.tup h r,.lst h' r'=>(dW I (SqL.of h') h).elim
 |_,_,_,.lst h r,.tup h' r'=>(dW I (SqL.of h) h').elim
 |_,_,_,.tup h r,.scr h' r'=>(dW I h'.seq h).elim
 |_,_,_,.scr h r,.tup h' r'=>(dW I h.seq h').elim
theorem Reps.eqv(I:Inv X aa σ H s): ∀ {v:List V} {x y:List D},Reps X.K H v x->Reps X.K H v y-> ∀z,dw x z=dw y z
 |_,_,_,.nil,.nil=>λ_=>rfl
 |_,_,_,.cons r t,.cons r' t'=>λz=>by
  cases z with
  |nil=>unfold dw;rfl
  |cons w ws=>unfold dw;rw[Rep.eqv I r r' w,Reps.eqv I t t' ws]
end
theorem aH(I:Inv X aa σ H s){a:Addr}{xs:List V}{ds:List D}(h:SqL X.K H a xs)(r:Reps X.K H xs ds): ∃its:List Ia,s.heap.IsList a its.toArray/\its.length=ds.length/\ ∀(j:Nat) (hj:j<its.length),∃(v:V) (d:D),ds[j]? =some d/\RelV v its[j]/\Rep X.K H v d:=by
 obtain⟨its,rv,pl,_⟩:=I.list h
 have h1:=rv.length
 have h2:=r.length
 refine⟨its,pl.isList,by omega,λj hj=>?_⟩
 have e:xs[j]? =some xs[j]:=Ig (by omega)
 obtain⟨u,e1,r1⟩:=rv.get e
 obtain⟨d,e2,r2⟩:=r.get' e
 have:its[j]=u:=by rw[Ig hj] at e1;exact Je e1
 rw[this];exact⟨xs[j],d,e2,r1,r2⟩
theorem bD(I:Inv X aa σ H s){a:Addr}{xs:List V}{ds:List D}(h:SqT X.K H a xs)(r:Reps X.K H xs ds): ∃its:List Ia,s.heap.IsTuple a its.toArray/\its.length=ds.length/\ ∀(j:Nat) (hj:j<its.length),∃(v:V) (d:D),ds[j]? =some d/\RelV v its[j]/\Rep X.K H v d:=by
 obtain⟨its,rv,pl,_⟩:=I.tuple h
 have h1:=rv.length
 have h2:=r.length
 refine⟨its,pl,by omega,λj hj=>?_⟩
 have e:xs[j]? =some xs[j]:=Ig (by omega)
 obtain⟨u,e1,r1⟩:=rv.get e
 obtain⟨d,e2,r2⟩:=r.get' e
 have:its[j]=u:=by rw[Ig hj] at e1;exact Je e1
 rw[this];exact⟨xs[j],d,e2,r1,r2⟩
end
section
variable {X:Cx}{aa:List (Addr×Obj)}{σ:St}{H:Hp}{s:Ic}
theorem iZ(A:Jc):A.in1.units=A.units+1:=rfl
theorem Co {A:Jc}{n:Nat}(IH: ∀ {x y:D} {v u:V} {a b:Ia} {A:Jc},dh x<n->A.units+dh x<Ke->RelV v a->RelV u b->Rep X.K H v x->Rep X.K H u y->Lp A s a b (dC x y)){xs ys:List D}{its its2:List Ia}(hd:b7 xs<n)(hu:A.units+b7 xs<Ke)
 (g1: ∀(j:Nat) (hj:j<its.length),∃(v:V) (d:D),xs[j]? =some d/\RelV v its[j]/\Rep X.K H v d) (g2: ∀(j:Nat) (hj:j<its2.length),∃(v:V) (d:D),ys[j]? =some d/\RelV v its2[j]/\Rep X.K H v d):
 ∀j (h1:j<its.toArray.size) (h2:j<its2.toArray.size),Lp A s its.toArray[j] its2.toArray[j] (i8 xs ys j):=λj h1 h2=>by
 obtain⟨v,d,e1,r1,p1⟩:=g1 j (by simpa using h1)
 obtain⟨u,d',e2,r2,p2⟩:=g2 j (by simpa using h2)
 have ez:i8 xs ys j=dC d d':=by unfold i8;rw[e1,e2]
 rw[ez];have hdd:=mS e1
 exact IH (by omega) (by omega) (by simpa using r1) (by simpa using r2) p1 p2
theorem iP(I:Inv X aa σ H s){A:Jc}{n:Nat}(IH: ∀ {x y:D} {v u:V} {a b:Ia} {A:Jc},dh x<n->A.units+dh x<Ke->RelV v a->RelV u b->Rep X.K H v x->Rep X.K H u y->Lp A s a b (dC x y)){xs ys:List D}{zs ws:List V}{a b:Addr}(hd:b7 xs<n)(hu:A.units+(b7 xs+1)<Ke)
 (h1:SqL X.K H a zs) (r1:Reps X.K H zs xs) (h2:SqL X.K H b ws) (r2:Reps X.K H ws ys):Rq A s (.ref a) (.ref b) (dw xs ys)/\Qe A s (.ref a) (.ref b) (!dw xs ys):=by
 obtain⟨its,l1,n1,g1⟩:=aH I h1 r1
 obtain⟨its2,l2,n2,g2⟩:=aH I h2 r2
 by_cases e:xs.length=ys.length
 ·have hsz:its.toArray.size=its2.toArray.size:=by simp;omega
  have he:=Co (A:=A.in1) IH hd (by rw[iZ];omega) g1 g2
  have ea:(Iz its.toArray.size).all (i8 xs ys)=dw xs ys:=by rw[IF,n1];exact oB e
  rw[<-ea];exact⟨Xr l1 l2 hsz (by omega) he,Wg l1 l2 hsz (by omega) he⟩
 ·rw[lQ e]
  have hsz:(its.toArray.size !=its2.toArray.size)=true:=by simp;omega
  exact⟨Se l1 l2 hsz (by omega),Rr l1 l2 hsz (by omega)⟩
theorem uK(I:Inv X aa σ H s){A:Jc}{n:Nat}(IH: ∀ {x y:D} {v u:V} {a b:Ia} {A:Jc},dh x<n->A.units+dh x<Ke->RelV v a->RelV u b->Rep X.K H v x->Rep X.K H u y->Lp A s a b (dC x y)){xs ys:List D}{zs ws:List V}{a b:Addr}(hd:b7 xs<n)(hu:A.units+(b7 xs+1)<Ke)
 (h1:SqT X.K H a zs) (r1:Reps X.K H zs xs) (h2:SqT X.K H b ws) (r2:Reps X.K H ws ys):Rq A s (.ref a) (.ref b) (dw xs ys)/\Qe A s (.ref a) (.ref b) (!dw xs ys):=by
 obtain⟨its,l1,n1,g1⟩:=bD I h1 r1
 obtain⟨its2,l2,n2,g2⟩:=bD I h2 r2
 have he:=Co (A:=A.in1) IH hd (by rw[iZ];omega) g1 g2
 have ea:((Iz (min its.toArray.size its2.toArray.size)).all (i8 xs ys)&&its.toArray.size==its2.toArray.size)=dw xs ys:=by
  rw[IF,IF,n1,n2]
  by_cases e:xs.length=ys.length
  ·rw[<-e,Nat.min_self,oB e];simp
  ·rw[lQ e];simp[e]
 rw[<-ea];exact⟨WW l1 l2 (by omega) he,Vl l1 l2 (by omega) he⟩
theorem kQ(I:Inv X aa σ H s){A:Jc}{a b:Addr}{x y:D}(r1:Rep X.K H (.ref a) x)(r2:Rep X.K H (.ref b) y)(e:a=b):Lp A s (.ref a) (.ref b) (dC x y):=by
 subst e;rw[Rep.eqv I r1 r2,jN];exact Q1 _
theorem EB(I:Inv X aa σ H s){n:Nat}(IH: ∀ {x y:D} {v u:V} {a b:Ia} {A:Jc},dh x<n->A.units+dh x<Ke->RelV v a->RelV u b->Rep X.K H v x->Rep X.K H u y->Lp A s a b (dC x y)){x y:D}{v u:V}{a b:Ia}{A:Jc}(hd:dh x<n+1)(hu:A.units+dh x<Ke)(hc:A.units<Ke)
 (ra:RelV v a) (rb:RelV u b) (px:Rep X.K H v x) (py:Rep X.K H u y):Lp A s a b (dC x y):=by
 unfold dC;cases px with
 |non=>
  cases ra
  cases py with
  |non=>
   cases rb
   exact Q1 _
  |bl=>
   cases rb
   exact Uw _
  |int=>
   obtain⟨t2,rfl⟩:=rb
   exact Vm _ _
  |str=>
   obtain⟨t2,rfl⟩:=rb
   exact Vn _ _
  | @tup a2 _ _ h2 r2=>
    cases rb
    obtain⟨its2,l2,_⟩:=bD I h2 r2
    exact TF l2 (by omega)
  | @lst a2 _ _ h2 r2=>
    cases rb
    obtain⟨its2,l2,_⟩:=aH I (SqL.of h2) r2
    exact O2 l2 (by omega)
  | @scr a2 _ _ h2 r2=>
    cases rb
    obtain⟨its2,l2,_⟩:=aH I h2.seq r2
    exact O2 l2 (by omega)
 |bl=>
  cases ra
  cases py with
  |non=>
   cases rb
   exact Ux _
  |bl=>
   cases rb
   exact Uy _ _
  |int=>
   obtain⟨t2,rfl⟩:=rb
   exact Vo _ _ _
  |str=>
   obtain⟨t2,rfl⟩:=rb
   exact Vp _ _ _
  | @tup a2 _ _ h2 r2=>
    cases rb
    obtain⟨its2,l2,_⟩:=bD I h2 r2
    exact TH _ l2 (by omega)
  | @lst a2 _ _ h2 r2=>
    cases rb
    obtain⟨its2,l2,_⟩:=aH I (SqL.of h2) r2
    exact O3 _ l2 (by omega)
  | @scr a2 _ _ h2 r2=>
    cases rb
    obtain⟨its2,l2,_⟩:=aH I h2.seq r2
    exact O3 _ l2 (by omega)
 |int=>
  obtain⟨t1,rfl⟩:=ra
  cases py with
  |non=>
   cases rb
   exact Vq _ _
  |bl=>
   cases rb
   exact Vr _ _ _
  |int=>
   obtain⟨t2,rfl⟩:=rb
   exact Wh _ _ _ _
  |str=>
   obtain⟨t2,rfl⟩:=rb
   exact PF _ _ _ _
  | @tup a2 _ _ h2 r2=>
    cases rb
    obtain⟨its2,l2,_⟩:=bD I h2 r2
    exact Uz _ _ l2 (by omega)
  | @lst a2 _ _ h2 r2=>
    cases rb
    obtain⟨its2,l2,_⟩:=aH I (SqL.of h2) r2
    exact Pq _ _ l2 (by omega)
  | @scr a2 _ _ h2 r2=>
    cases rb
    obtain⟨its2,l2,_⟩:=aH I h2.seq r2
    exact Pq _ _ l2 (by omega)
 |str=>
  obtain⟨t1,rfl⟩:=ra
  cases py with
  |non=>
   cases rb
   exact Vs _ _
  |bl=>
   cases rb
   exact Vt _ _ _
  |int=>
   obtain⟨t2,rfl⟩:=rb
   exact PH _ _ _ _
  |str=>
   obtain⟨t2,rfl⟩:=rb
   exact Wi _ _ _ _
  | @tup a2 _ _ h2 r2=>
    cases rb
    obtain⟨its2,l2,_⟩:=bD I h2 r2
    exact UA _ _ l2 (by omega)
  | @lst a2 _ _ h2 r2=>
    cases rb
    obtain⟨its2,l2,_⟩:=aH I (SqL.of h2) r2
    exact Pr _ _ l2 (by omega)
  | @scr a2 _ _ h2 r2=>
    cases rb
    obtain⟨its2,l2,_⟩:=aH I h2.seq r2
    exact Pr _ _ l2 (by omega)
 | @tup a1 _ _ h1 r1=>
   cases ra
   obtain⟨its,l1,_⟩:=bD I h1 r1
   cases py with
   |non=>
    cases rb
    exact TJ l1 (by omega)
   |bl=>
    cases rb
    exact TK _ l1 (by omega)
   |int=>
    obtain⟨t2,rfl⟩:=rb
    exact UB _ _ l1 (by omega)
   |str=>
    obtain⟨t2,rfl⟩:=rb
    exact UC _ _ l1 (by omega)
   | @tup a2 _ _ h2 r2=>
     cases rb
     obtain⟨its2,l2,_⟩:=bD I h2 r2
     by_cases e:a1=a2
     ·exact(kQ I (.tup h1 r1) (.tup h2 r2) e)
     ·exact Nt e (uK I IH (by unfold dh at hd;omega) (by unfold dh at hu;omega) h1 r1 h2 r2).1
   | @lst a2 _ _ h2 r2=>
     cases rb
     obtain⟨its2,l2,_⟩:=aH I (SqL.of h2) r2
     exact OR l1 l2 (by omega)
   | @scr a2 _ _ h2 r2=>
     cases rb
     obtain⟨its2,l2,_⟩:=aH I h2.seq r2
     exact OR l1 l2 (by omega)
 | @scr a1 _ _ h1 r1=>exact absurd hu (by unfold dh;omega)
 | @lst a1 _ _ h1 r1=>
   cases ra
   obtain⟨its,l1,_⟩:=aH I (SqL.of h1) r1
   cases py with
   |non=>
    cases rb
    exact UD l1 (by omega)
   |bl=>
    cases rb
    exact UE _ l1 (by omega)
   |int=>
    obtain⟨t2,rfl⟩:=rb
    exact Vu _ _ l1 (by omega)
   |str=>
    obtain⟨t2,rfl⟩:=rb
    exact Vv _ _ l1 (by omega)
   | @tup a2 _ _ h2 r2=>
     cases rb
     obtain⟨its2,l2,_⟩:=bD I h2 r2
     exact TL l1 l2 (by omega)
   | @lst a2 _ _ h2 r2=>
     cases rb
     obtain⟨its2,l2,_⟩:=aH I (SqL.of h2) r2
     by_cases e:a1=a2
     ·exact(kQ I (.lst h1 r1) (.lst h2 r2) e)
     ·exact Nt e (iP I IH (by unfold dh at hd;omega) (by unfold dh at hu;omega) (SqL.of h1) r1 (SqL.of h2) r2).1
   | @scr a2 _ _ h2 r2=>
     cases rb
     obtain⟨its2,l2,_⟩:=aH I h2.seq r2
     by_cases e:a1=a2
     ·exact(kQ I (.lst h1 r1) (.scr h2 r2) e)
     ·exact Nt e (iP I IH (by unfold dh at hd;omega) (by unfold dh at hu;omega) (SqL.of h1) r1 h2.seq r2).1
theorem mY(I:Inv X aa σ H s): ∀(n:Nat) {x y:D} {v u:V} {a b:Ia} {A:Jc},dh x<n->A.units+dh x<Ke->RelV v a->RelV u b->Rep X.K H v x->Rep X.K H u y->Lp A s a b (dC x y)
 |0,x,y,v,u,a,b,A,hd,hu,ra,rb,px,py=>absurd hd (OL _)
 |n+1,x,y,v,u,a,b,A,hd,hu,ra,rb,px,py=>EB I (λh1 h2 h3 h4 h5 h6=>mY I n h1 h2 h3 h4 h5 h6) hd hu (by omega) ra rb px py
theorem D6(I:Inv X aa σ H s){x y:D}{v u:V}{a b:Ia}{A:Jc}(hu:A.units+dh x<Ke)(hc:A.units<Ke)(ra:RelV v a)(rb:RelV u b)(px:Rep X.K H v x)(py:Rep X.K H u y):Rq A s a b (dC x y):=by
 have IH:=λ{x y:D} {v u:V} {a b:Ia} {A:Jc} (n:Nat)=> @mY X aa σ H s I n x y v u a b A
 have IH: ∀ {n:Nat} {x y:D} {v u:V} {a b:Ia} {A:Jc},dh x<n->A.units+dh x<Ke->RelV v a->RelV u b->Rep X.K H v x->Rep X.K H u y->Lp A s a b (dC x y):=λ{n x y v u a b A}=>mY I n
 unfold dC;cases px with
 |non=>
  cases ra
  cases py with
  |non=>
   cases rb
   exact UF
  |bl=>
   cases rb
   exact UG _
  |int=>
   obtain⟨t2,rfl⟩:=rb
   exact Vw _ _
  |str=>
   obtain⟨t2,rfl⟩:=rb
   exact Vx _ _
  | @tup a2 _ _ h2 r2=>
    cases rb
    obtain⟨its2,l2,_⟩:=bD I h2 r2
    exact TM l2 (by omega)
  | @lst a2 _ _ h2 r2=>
    cases rb
    obtain⟨its2,l2,_⟩:=aH I (SqL.of h2) r2
    exact O4 l2 (by omega)
  | @scr a2 _ _ h2 r2=>
    cases rb
    obtain⟨its2,l2,_⟩:=aH I h2.seq r2
    exact O4 l2 (by omega)
 |bl=>
  cases ra
  cases py with
  |non=>
   cases rb
   exact UH _
  |bl=>
   cases rb
   exact UI _ _
  |int=>
   obtain⟨t2,rfl⟩:=rb
   exact Vy _ _ _
  |str=>
   obtain⟨t2,rfl⟩:=rb
   exact Vz _ _ _
  | @tup a2 _ _ h2 r2=>
    cases rb
    obtain⟨its2,l2,_⟩:=bD I h2 r2
    exact TN _ l2 (by omega)
  | @lst a2 _ _ h2 r2=>
    cases rb
    obtain⟨its2,l2,_⟩:=aH I (SqL.of h2) r2
    exact O5 _ l2 (by omega)
  | @scr a2 _ _ h2 r2=>
    cases rb
    obtain⟨its2,l2,_⟩:=aH I h2.seq r2
    exact O5 _ l2 (by omega)
 |int=>
  obtain⟨t1,rfl⟩:=ra
  cases py with
  |non=>
   cases rb
   exact VA _ _
  |bl=>
   cases rb
   exact VB _ _ _
  |int=>
   obtain⟨t2,rfl⟩:=rb
   exact Wj _ _ _ _
  |str=>
   obtain⟨t2,rfl⟩:=rb
   exact Wk _ _ _ _
  | @tup a2 _ _ h2 r2=>
    cases rb
    obtain⟨its2,l2,_⟩:=bD I h2 r2
    exact UJ _ _ l2 (by omega)
  | @lst a2 _ _ h2 r2=>
    cases rb
    obtain⟨its2,l2,_⟩:=aH I (SqL.of h2) r2
    exact Ps _ _ l2 (by omega)
  | @scr a2 _ _ h2 r2=>
    cases rb
    obtain⟨its2,l2,_⟩:=aH I h2.seq r2
    exact Ps _ _ l2 (by omega)
 |str=>
  obtain⟨t1,rfl⟩:=ra
  cases py with
  |non=>
   cases rb
   exact VC _ _
  |bl=>
   cases rb
   exact VD _ _ _
  |int=>
   obtain⟨t2,rfl⟩:=rb
   exact Wl _ _ _ _
  |str=>
   obtain⟨t2,rfl⟩:=rb
   exact Wm _ _ _ _
  | @tup a2 _ _ h2 r2=>
    cases rb
    obtain⟨its2,l2,_⟩:=bD I h2 r2
    exact UK _ _ l2 (by omega)
  | @lst a2 _ _ h2 r2=>
    cases rb
    obtain⟨its2,l2,_⟩:=aH I (SqL.of h2) r2
    exact Pt _ _ l2 (by omega)
  | @scr a2 _ _ h2 r2=>
    cases rb
    obtain⟨its2,l2,_⟩:=aH I h2.seq r2
    exact Pt _ _ l2 (by omega)
 | @tup a1 _ _ h1 r1=>
   cases ra
   obtain⟨its,l1,_⟩:=bD I h1 r1
   cases py with
   |non=>
    cases rb
    exact TQ l1 (by omega)
   |bl=>
    cases rb
    exact TR _ l1 (by omega)
   |int=>
    obtain⟨t2,rfl⟩:=rb
    exact UL _ _ l1 (by omega)
   |str=>
    obtain⟨t2,rfl⟩:=rb
    exact UM _ _ l1 (by omega)
   | @tup a2 _ _ h2 r2=>
     cases rb
     obtain⟨its2,l2,_⟩:=bD I h2 r2
     exact(uK I IH (JT _) (by unfold dh at hu;omega) h1 r1 h2 r2).1
   | @lst a2 _ _ h2 r2=>
     cases rb
     obtain⟨its2,l2,_⟩:=aH I (SqL.of h2) r2
     exact OS l1 l2 (by omega)
   | @scr a2 _ _ h2 r2=>
     cases rb
     obtain⟨its2,l2,_⟩:=aH I h2.seq r2
     exact OS l1 l2 (by omega)
 | @scr a1 _ _ h1 r1=>exact absurd hu (by unfold dh;omega)
 | @lst a1 _ _ h1 r1=>
   cases ra
   obtain⟨its,l1,_⟩:=aH I (SqL.of h1) r1
   cases py with
   |non=>
    cases rb
    exact UN l1 (by omega)
   |bl=>
    cases rb
    exact UO _ l1 (by omega)
   |int=>
    obtain⟨t2,rfl⟩:=rb
    exact VE _ _ l1 (by omega)
   |str=>
    obtain⟨t2,rfl⟩:=rb
    exact VF _ _ l1 (by omega)
   | @tup a2 _ _ h2 r2=>
     cases rb
     obtain⟨its2,l2,_⟩:=bD I h2 r2
     exact TU l1 l2 (by omega)
   | @lst a2 _ _ h2 r2=>
     cases rb
     obtain⟨its2,l2,_⟩:=aH I (SqL.of h2) r2
     exact(iP I IH (JT _) (by unfold dh at hu;omega) (SqL.of h1) r1 (SqL.of h2) r2).1
   | @scr a2 _ _ h2 r2=>
     cases rb
     obtain⟨its2,l2,_⟩:=aH I h2.seq r2
     exact(iP I IH (JT _) (by unfold dh at hu;omega) (SqL.of h1) r1 h2.seq r2).1
theorem xX(I:Inv X aa σ H s){x y:D}{v u:V}{a b:Ia}{A:Jc}(hu:A.units+dh x<Ke)(hc:A.units<Ke)(ra:RelV v a)(rb:RelV u b)(px:Rep X.K H v x)(py:Rep X.K H u y):Qe A s a b (!dC x y):=by
 have IH: ∀ {n:Nat} {x y:D} {v u:V} {a b:Ia} {A:Jc},dh x<n->A.units+dh x<Ke->RelV v a->RelV u b->Rep X.K H v x->Rep X.K H u y->Lp A s a b (dC x y):=λ{n x y v u a b A}=>mY I n
 unfold dC;cases px with
 |non=>
  cases ra
  cases py with
  |non=>
   cases rb
   exact SY
  |bl=>
   cases rb
   exact SZ _
  |int=>
   obtain⟨t2,rfl⟩:=rb
   exact TV _ _
  |str=>
   obtain⟨t2,rfl⟩:=rb
   exact TW _ _
  | @tup a2 _ _ h2 r2=>
    cases rb
    obtain⟨its2,l2,_⟩:=bD I h2 r2
    exact Sv l2 (by omega)
  | @lst a2 _ _ h2 r2=>
    cases rb
    obtain⟨its2,l2,_⟩:=aH I (SqL.of h2) r2
    exact Oy l2 (by omega)
  | @scr a2 _ _ h2 r2=>
    cases rb
    obtain⟨its2,l2,_⟩:=aH I h2.seq r2
    exact Oy l2 (by omega)
 |bl=>
  cases ra
  cases py with
  |non=>
   cases rb
   exact S0 _
  |bl=>
   cases rb
   exact S3 _ _
  |int=>
   obtain⟨t2,rfl⟩:=rb
   exact TX _ _ _
  |str=>
   obtain⟨t2,rfl⟩:=rb
   exact TY _ _ _
  | @tup a2 _ _ h2 r2=>
    cases rb
    obtain⟨its2,l2,_⟩:=bD I h2 r2
    exact Sw _ l2 (by omega)
  | @lst a2 _ _ h2 r2=>
    cases rb
    obtain⟨its2,l2,_⟩:=aH I (SqL.of h2) r2
    exact Oz _ l2 (by omega)
  | @scr a2 _ _ h2 r2=>
    cases rb
    obtain⟨its2,l2,_⟩:=aH I h2.seq r2
    exact Oz _ l2 (by omega)
 |int=>
  obtain⟨t1,rfl⟩:=ra
  cases py with
  |non=>
   cases rb
   exact TZ _ _
  |bl=>
   cases rb
   exact T0 _ _ _
  |int=>
   obtain⟨t2,rfl⟩:=rb
   exact UP _ _ _ _
  |str=>
   obtain⟨t2,rfl⟩:=rb
   exact UQ _ _ _ _
  | @tup a2 _ _ h2 r2=>
    cases rb
    obtain⟨its2,l2,_⟩:=bD I h2 r2
    exact S4 _ _ l2 (by omega)
  | @lst a2 _ _ h2 r2=>
    cases rb
    obtain⟨its2,l2,_⟩:=aH I (SqL.of h2) r2
    exact OT _ _ l2 (by omega)
  | @scr a2 _ _ h2 r2=>
    cases rb
    obtain⟨its2,l2,_⟩:=aH I h2.seq r2
    exact OT _ _ l2 (by omega)
 |str=>
  obtain⟨t1,rfl⟩:=ra
  cases py with
  |non=>
   cases rb
   exact T1 _ _
  |bl=>
   cases rb
   exact T2 _ _ _
  |int=>
   obtain⟨t2,rfl⟩:=rb
   exact UR _ _ _ _
  |str=>
   obtain⟨t2,rfl⟩:=rb
   exact US _ _ _ _
  | @tup a2 _ _ h2 r2=>
    cases rb
    obtain⟨its2,l2,_⟩:=bD I h2 r2
    exact S5 _ _ l2 (by omega)
  | @lst a2 _ _ h2 r2=>
    cases rb
    obtain⟨its2,l2,_⟩:=aH I (SqL.of h2) r2
    exact OU _ _ l2 (by omega)
  | @scr a2 _ _ h2 r2=>
    cases rb
    obtain⟨its2,l2,_⟩:=aH I h2.seq r2
    exact OU _ _ l2 (by omega)
 | @tup a1 _ _ h1 r1=>
   cases ra
   obtain⟨its,l1,_⟩:=bD I h1 r1
   cases py with
   |non=>
    cases rb
    exact Sx l1 (by omega)
   |bl=>
    cases rb
    exact Sy _ l1 (by omega)
   |int=>
    obtain⟨t2,rfl⟩:=rb
    exact S6 _ _ l1 (by omega)
   |str=>
    obtain⟨t2,rfl⟩:=rb
    exact S7 _ _ l1 (by omega)
   | @tup a2 _ _ h2 r2=>
     cases rb
     obtain⟨its2,l2,_⟩:=bD I h2 r2
     exact(uK I IH (JT _) (by unfold dh at hu;omega) h1 r1 h2 r2).2
   | @lst a2 _ _ h2 r2=>
     cases rb
     obtain⟨its2,l2,_⟩:=aH I (SqL.of h2) r2
     exact N8 l1 l2 (by omega)
   | @scr a2 _ _ h2 r2=>
     cases rb
     obtain⟨its2,l2,_⟩:=aH I h2.seq r2
     exact N8 l1 l2 (by omega)
 | @scr a1 _ _ h1 r1=>exact absurd hu (by unfold dh;omega)
 | @lst a1 _ _ h1 r1=>
   cases ra
   obtain⟨its,l1,_⟩:=aH I (SqL.of h1) r1
   cases py with
   |non=>
    cases rb
    exact S8 l1 (by omega)
   |bl=>
    cases rb
    exact S9 _ l1 (by omega)
   |int=>
    obtain⟨t2,rfl⟩:=rb
    exact T3 _ _ l1 (by omega)
   |str=>
    obtain⟨t2,rfl⟩:=rb
    exact T4 _ _ l1 (by omega)
   | @tup a2 _ _ h2 r2=>
     cases rb
     obtain⟨its2,l2,_⟩:=bD I h2 r2
     exact Sz l1 l2 (by omega)
   | @lst a2 _ _ h2 r2=>
     cases rb
     obtain⟨its2,l2,_⟩:=aH I (SqL.of h2) r2
     exact(iP I IH (JT _) (by unfold dh at hu;omega) (SqL.of h1) r1 (SqL.of h2) r2).2
   | @scr a2 _ _ h2 r2=>
     cases rb
     obtain⟨its2,l2,_⟩:=aH I h2.seq r2
     exact(iP I IH (JT _) (by unfold dh at hu;omega) (SqL.of h1) r1 h2.seq r2).2
end
theorem Rep1.full {K:Il}{H:Hp}{hid:a7}{v:V}{d:D}(h:Rep1 K H (vw H hid) v d):Rep K H v d:=by
 rcases h with h|⟨a,xs,ds,rfl,rfl,h1,h2⟩
 ·exact h.mono (bF _ _)
 ·exact .lst h1 (h2.mono (bF _ _))
def EY(K:Il):R2:=λv u H Q=> ∃x y,Rep K H v x/\Rep K H u y/\dh x<=32/\Q (.bl (dC x y)) H
def F8(K:Il):R2:=λv u H Q=> ∃x y,Rep K H v x/\Rep K H u y/\dh x<=32/\Q (.bl (!dC x y)) H
theorem ml {X:Cx}(hu:X.A.units+64<Ke):k8 X (L5 .Eq) (EY X.K):=by
 intro aa s σ H x y v u Q I rx ry h;obtain⟨dx,dy,p1,p2,hd,q⟩:=h
 exact D6 I (by omega) (by omega) rx ry p1 p2 X.prog X.w _ _ ⟨.bl _,H,I,rfl,q⟩
theorem ju {X:Cx}(hu:X.A.units+64<Ke):k8 X (L5 .NotEq) (F8 X.K):=by
 intro aa s σ H x y v u Q I rx ry h;obtain⟨dx,dy,p1,p2,hd,q⟩:=h
 exact xX I (by omega) (by omega) rx ry p1 p2 X.prog X.w _ _ ⟨.bl _,H,I,rfl,q⟩
def xF:D->D->Option D:=λx y=>if dh x<=32 then some (.bl (dC x y)) else none
def nl:D->D->Option D:=λx y=>if dh x<=32 then some (.bl (!dC x y)) else none
theorem qA {K:Il}:nr K .s (EY K) xF:=by
 intro H hid v u x y d Q hf h r1 r2 q;unfold xF at h;split at h
 ·cases h;exact⟨x,y,r1.full,r2.full, ‹_›,q _ H (Same.refl _) .bl⟩
 ·cases h
theorem mQ {K:Il}:nr K .s (F8 K) nl:=by
 intro H hid v u x y d Q hf h r1 r2 q;unfold nl at h;split at h
 ·cases h;exact⟨x,y,r1.full,r2.full, ‹_›,q _ H (Same.refl _) .bl⟩
 ·cases h
theorem uY {X:Cx}{aa:List (Addr×Obj)}{σ:St}{H:Hp}{s:Ic}(I:Inv X aa σ H s){x:D}{v:V}{a:Ia}{A:Jc}(hx:Rep X.K H v x)(ra:RelV v a): ∀ {ds:List D} {xs:List V} {its:List Ia},Reps X.K H xs ds->Vals xs its->A.units+b7 ds<Ke->
 ∃e:Ia->Bool,(∀y,y∈its->Lp A s y a (e y))/\its.any e=ds.any (λd=>dC d x):=by
 intro ds xs its r rv hu
 classical
 let e:Ia->Bool:=λy=>if h: ∃(d:D) (u:V),RelV u y/\Rep X.K H u d then dC h.choose x else false
 have key: ∀y u d,RelV u y->Rep X.K H u d->e y=dC d x:=λy u d h1 h2=>by
  have hex: ∃(d:D) (u:V),RelV u y/\Rep X.K H u d:=⟨d,u,h1,h2⟩
  show(if h: ∃(d:D) (u:V),RelV u y/\Rep X.K H u d then dC h.choose x else false)=dC d x
  rw[dif_pos hex];obtain⟨u',s1,s2⟩:=hex.choose_spec
  have eu:u'=u:=s1.inj h1
  rw[eu] at s2;exact Rep.eqv I s2 h2 x
 refine⟨e,?_,?_⟩
 ·induction rv generalizing ds with
  |nil=>intro y hy;cases hy
  |cons r1 t ih=>
   cases r with
   |cons p1 pt=>
    rename_i d ds;intro y hy;have hm:dh d<=b7 (d::ds):=mS (i:=0) rfl
    have hm2:b7 ds<=b7 (d::ds):=by conv=>rhs;unfold b7
                                   exact N7 _ _
    rcases IC.mp hy with rfl|hy
    ·rw[key _ _ _ r1 p1]
     exact mY I (dh d+1) (JT _) (by omega) r1 ra p1 hx
    ·exact ih pt (by omega) y hy
 ·induction rv generalizing ds with
  |nil=>cases r;rfl
  |cons r1 t ih=>
   cases r with
   |cons p1 pt=>
    rename_i d ds;have hm2:b7 ds<=b7 (d::ds):=by conv=>rhs;unfold b7
                                                 exact N7 _ _
    rw[Me,Me,key _ _ _ r1 p1,ih pt (by omega)]
def Fx(K:Il)(neg:Bool):R2:=λv u H Q=> ∃x ds a xs,Rep K H v x/\u=.ref a/\(SqL K H a xs\/SqT K H a xs)/\Reps K H xs ds/\b7 ds<=32/\Q (.bl (if neg then !ds.any (λd=>dC d x) else ds.any λd=>dC d x)) H
theorem xr {X:Cx}(hu:X.A.units+64<Ke):k8 X (L5 .NotIn) (Fx X.K true):=by
 intro aa s σ H v w a b Q I rx ry h;obtain⟨x,ds,p,xs,hx,rfl,hq,r,hd,q⟩:=h
 cases ry
 rcases hq with hq|hq
 ·obtain⟨its,rv,pl,hz⟩:=I.list hq
  obtain⟨e,h1,h2⟩:=uY (A:=X.A.in1) I hx rx r rv (by rw[iZ];omega)
  refine SeqAt.notIn_listAt e pl.isList (λy hy=>h1 y (by simpa using hy)) ⟨.bl _,H,I,rfl,?_⟩
  rw[show its.toArray.any e=its.any e by simp,h2]
  exact q
 ·obtain⟨its,rv,pl,hz⟩:=I.tuple hq
  obtain⟨e,h1,h2⟩:=uY (A:=X.A.in1) I hx rx r rv (by rw[iZ];omega)
  refine SeqAt.notIn_tupleAt e pl (λy hy=>h1 y (by simpa using hy)) ⟨.bl _,H,I,rfl,?_⟩
  rw[show its.toArray.any e=its.any e by simp,h2]
  exact q
def ye:D->Option (List D)
 | .lst ds=>some ds
 | .tup ds=>some ds
 |_=>none
def CT(neg:Bool):D->D->Option D:=λx y=>match ye y with
 |some ds=>if b7 ds<=32 then some (.bl (if neg then !ds.any (λd=>dC d x) else ds.any λd=>dC d x)) else none
 |none=>none
theorem F9 {K:Il}(neg:Bool):nr K .s (Fx K neg) (CT neg):=by
 intro H hid v u x y d Q hf h r1 r2 q;unfold CT at h;split at h
 ·split at h
  ·rename_i ds e _
   cases h
   cases y with
   |lst zs=>
    cases e
    obtain⟨a,xs,rfl,h1,h2⟩:=r2.lst
    exact⟨x,_,a,xs,r1.full,rfl,.inl h1,h2.mono (bF _ _), ‹_›,q _ H (Same.refl _) .bl⟩
   |tup zs=>
    cases e
    obtain⟨a,xs,rfl,_,h1,h2⟩:=r2.tup
    exact⟨x,_,a,xs,r1.full,rfl,.inr h1,h2.mono (bF _ _), ‹_›,q _ H (Same.refl _) .bl⟩
   |_=>cases e
  ·cases h
 ·cases h
def Hd(T:String):D->Bool
 | .non=>T=="NoneType"
 | .bl _=>T=="bool"||T=="int"
 | .int _=>T=="int"
 | .str _=>T=="str"
 | .tup _=>T=="tuple"
 | .lst _=>T=="list"
 | .scr _=>T=="list"
structure KT(T:String):Prop where
 n: ∀K,O6 K (.type "NoneType") (.type T)=some (T=="NoneType")
 b: ∀K,O6 K (.type "bool") (.type T)=some (T=="bool"||T=="int")
 i: ∀K,O6 K (.type "int") (.type T)=some (T=="int")
 s: ∀K,O6 K (.type "str") (.type T)=some (T=="str")
 t: ∀K,O6 K (.type "tuple") (.type T)=some (T=="tuple")
 l: ∀K,O6 K (.type "list") (.type T)=some (T=="list")
theorem C0:KT "int":=⟨λ_=>by kernel_rfl,λ_=>by kernel_rfl,λ_=>by kernel_rfl,λ_=>by kernel_rfl,λ_=>by kernel_rfl,λ_=>by kernel_rfl⟩
theorem BB:KT "bool":=⟨λ_=>by kernel_rfl,λ_=>by kernel_rfl,λ_=>by kernel_rfl,λ_=>by kernel_rfl,λ_=>by kernel_rfl,λ_=>by kernel_rfl⟩
theorem BL:KT "list":=⟨λ_=>by kernel_rfl,λ_=>by kernel_rfl,λ_=>by kernel_rfl,λ_=>by kernel_rfl,λ_=>by kernel_rfl,λ_=>by kernel_rfl⟩
theorem yy:KT "tuple":=⟨λ_=>by kernel_rfl,λ_=>by kernel_rfl,λ_=>by kernel_rfl,λ_=>by kernel_rfl,λ_=>by kernel_rfl,λ_=>by kernel_rfl⟩
section
variable {X:Cx}{c:Ct}{e o:Expr}{k:Kd}{f g:FE}{pos p p2:Pos}
theorem yE {T:String}(kt:KT T):eG X (.builtin "isinstance") (λxs H Q=> ∃v d,xs=[v,.ty T]/\Rep X.K H v d/\Q (.bl (Hd T d)) H):=by
 intro aa s σ H xs us Q I r h;obtain⟨v,d,rfl,rp,q⟩:=h
 obtain⟨u,w',rfl,rx,ry⟩:=Cp r
 cases ry
 have fin: ∀tk,EP X aa σ Q (.bool (Hd T d)) {s with toks:=tk}:=λtk=>⟨.bl _,H,I.tok _,rfl,q⟩
 cases rp with
 |non=>cases rx;exact Nk W.kitx_none I.kIn True.intro (kt.n _) (λz=>nomatch z) fin
 |bl=>cases rx;exact Nk W.kitx_bool I.kIn True.intro (kt.b _) (λz=>nomatch z) fin
 |int=>obtain⟨t,rfl⟩:=rx;exact Nk W.kitx_int I.kIn True.intro (kt.i _) (λz=>nomatch z) fin
 |str=>obtain⟨t,rfl⟩:=rx;exact Nk W.kitx_str I.kIn True.intro (kt.s _) (λz=>nomatch z) fin
 |tup h1 h2=>
  cases rx
  obtain⟨⟨ob,ho,hc⟩,_⟩:=I.tupleN h1
  exact Nk W.kitx_tuple I.kIn ⟨ob,ho,hc⟩ (kt.t _) (λz=>nomatch z) fin
 |lst h1 h2=>
  cases rx
  obtain⟨its,_,⟨ob,n,ho,hc,_⟩,_⟩:=I.list (SqL.of h1)
  exact Nk UT I.kIn ⟨ob,ho,hc⟩ (kt.l _) (λz=>nomatch z) fin
 |scr h1 h2=>
  cases rx
  obtain⟨its,_,⟨ob,n,ho,hc,_⟩,_⟩:=I.list h1.seq
  exact Nk UT I.kIn ⟨ob,ho,hc⟩ (kt.l _) (λz=>nomatch z) fin
def nz(T:String)(f:FE):FE:=λρ=>(f ρ).map λd=>.bl (Hd T d)
theorem pY(T:String){y:Str}(kt:KT T)(he:DP X c k e f)(hm:X.mg "isinstance"=none)(hmT:X.mg y=none)(hg:Gl X "isinstance":=by rfl)(hgT:Gl X y:=by rfl)(hv:J5 "isinstance"=some (.builtin "isinstance"):=by kernel_rfl)(hvT:J5 y=some (.type T):=by kernel_rfl)(hn:y≠"__name__":=by decide)(hd:(y==("__debug__":Str))=false:=by decide)
 (hs1:Iu [e,.Name y p2] X.env=(false,eval e X.env)::Iu [.Name y p2] X.env:=by rfl) (hs2:Iu [.Name y p2] X.env=(false,eval (.Name y p2) X.env)::Iu [] X.env:=by rfl) (hpl:(Ko pos (Iu [.Name y p2] X.env)).any (·.1)=false:=by rfl):
 DP X c .s (.Call (.Name "isinstance" p) [e,.Name y p2] [] pos) (nz T f):=λhid ρ=>
 PE.imp (mO (yE kt) hg hm hv (be (he hid ρ) (be (BZ (v:=.ty T) hgT hmT hvT rfl hn hd) cy hs2) hs1) (by decide) (by decide) hs1 hpl) λσ H Q hq_=>by
  obtain⟨sr,d,hd,q⟩:=hq_
  unfold nz at hd;cases e1:f ρ with
  |none=>rw[e1] at hd;cases hd
  |some z=>
   rw[e1] at hd;cases hd;exact⟨sr,z,e1,λv H' s' r=>⟨v,z,rfl,(RK.b k r λa n=>sr.fresh n).full,q _ H' s' .bl⟩⟩
def jp:List D->Option (List Bool)
 | []=>some []
 | .bl b::r=>(jp r).map (b:: ·)
 |_=>none
theorem rF: ∀ {ds:List D} {bs:List Bool} {i:Nat} {d:D},jp ds=some bs->ds[i]? =some d-> ∃b,d=.bl b/\bs[i]? =some b
 | [],_,_,_,_,h=>by simp at h
 |x::r,bs,i,d,h,e=>by
  cases x with
  |bl b=>
   unfold jp at h;cases e1:jp r with
   |none=>rw[e1] at h;cases h
   |some rs=>
    rw[e1] at h;cases h;cases i with
    |zero=>simp at e;subst e;exact⟨b,rfl,rfl⟩
    |succ i=>
     obtain⟨b',h1,h2⟩:=rF (i:=i) e1 (by simpa using e)
     exact⟨b',h1,by simpa using h2⟩
  |_=>cases h
theorem qG: ∀ {ds:List D} {bs:List Bool},jp ds=some bs->ds.length=bs.length
 | [],_,h=>by cases h;rfl
 |x::r,bs,h=>by
  cases x with
  |bl b=>
   unfold jp at h;cases e1:jp r with
   |none=>rw[e1] at h;cases h
   |some rs=>rw[e1] at h;cases h;simp[qG e1]
  |_=>cases h
theorem ui(bs:List Bool):(Iz bs.length).all (λi=>bs.getD i false)=bs.all id:=by
 induction bs with
 |nil=>rfl
 |cons b bs ih=>
  rw[IK,Kb,PC,SW,PC];rw[show((λi=>(b::bs).getD i false)∘Uv)=λi=>bs.getD i false by funext i;simp[JH],ih]
  rfl
theorem tB {aa:List (Addr×Obj)}{σ:St}{H:Hp}{s:Ic}{a:Addr}{xs:List V}{ds:List D}{bs:List Bool}(I:Inv X aa σ H s)(h1:SqL X.K H a xs)(h2:Reps X.K H xs ds)(hb:jp ds=some bs)(hc:X.calm=true){E:Ia->Ic->Prop}{R:Ia->Ic->Prop}
 (hR: ∀(J:Addr) (s2:Ic) (its:Array Ia) (hl:its.size=bs.length),Walks X.prog X.w X.A.in1 J [J,a] [J] its.size (λi v=>its[i]? =some v) (λi h=>h.IsListIter J a i/\h.IsList a its)->s2.heap.IsListIter J a 0->s2.heap.IsList a its->TruthOf X.prog X.w X.A.in1 (λi v=>its[i]? =some v) (λi=>bs.getD i false)->
   (∀h' tk,(∀b o,b∉ [J]->s2.heap.get? b=some o->h'.get? b=some o)->Inv X aa σ H {s2 with heap:=h',toks:=tk})->R (.ref J) s2):II (model X.prog X.w) X.A.in1 (PM (.ref a)) R E s:=by
 obtain⟨its,rv,pl,hz⟩:=I.list h1
 have l1:=rv.length
 have l2:=h2.length
 have l3:=qG hb
 have hlt:a<s.heap.objs.size:=by obtain⟨o,n,e,_⟩:=pl;exact Ix e
 refine P1 pl.isList (hR s.heap.objs.size _ its.toArray (by simp;omega) (Walks.list (A:=X.A.in1) (I.ok.hd hc) _ a (IV hlt) its.toArray) ⟨_,Io _ rfl,rfl,rfl⟩ ?_ ?_ ?_)
 ·obtain⟨o,ho,q⟩:=pl.isList
  exact⟨o,Ib _ ho,q⟩
 ·intro i v s' Q E hv hq
  have hv':its[i]? =some v:=by simpa using hv
  have hi:=(IA.mp hv').1
  have ex:xs[i]? =some xs[i]:=Ig (by omega)
  obtain⟨u,e1,r1⟩:=rv.get ex
  rw[hv'] at e1;cases e1;obtain⟨d,e2,r2⟩:=h2.get' ex
  obtain⟨b,rfl,e3⟩:=rF hb e2
  rcases hx:xs[i] with _|_|_|_|_|_|_|_<;>rw[hx] at r1 r2<;>cases r2
  cases r1
  have:bs.getD i false=b:=by simp[JH,e3]
  dsimp only at hq;rw[this] at hq;exact LQ hq
 ·intro h' tk hk
  refine I.kept λb o e=>hk b o (λhm=>?_) (Ib _ e)
  have:b=s.heap.objs.size:=by simpa using hm
  exact absurd (this▸Ix e) (Ku _)
theorem qy(hc:X.calm=true):eG X (.builtin "all") (λxs H Q=> ∃a ys ds bs,xs=[.ref a]/\SqL X.K H a ys/\Reps X.K H ys ds/\jp ds=some bs/\Q (.bl (bs.all id)) H):=by
 intro aa s σ H xs us Q I r h;obtain⟨a,ys,ds,bs,rfl,h1,h2,h3,q⟩:=h
 obtain⟨u,rfl,rx⟩:=jc r
 cases rx
 refine call_all_walk (tB I h1 h2 h3 hc λJ s2 its hl W st1 st2 tr kp=>?_)
 refine⟨J,_,_,_,_,_,_,rfl,W,⟨st1,st2⟩,tr,λh' tk hk=>⟨.bl _,H,kp h' tk hk,rfl,?_⟩⟩
 rw[hl,ui];exact q
def uJ:List D->Option D
 | [.lst ds]=>(jp ds).map λbs=>.bl (bs.all id)
 |_=>none
theorem zK:jZ X.K .s (λxs H Q=> ∃a ys ds bs,xs=[.ref a]/\SqL X.K H a ys/\Reps X.K H ys ds/\jp ds=some bs/\Q (.bl (bs.all id)) H) uJ:=by
 intro H hid vs ds d Q hf h r q;unfold uJ at h;split at h
 ·rename_i zs
  cases e1:jp zs with
  |none=>rw[e1] at h;cases h
  |some bs=>
   rw[e1] at h;cases h;obtain⟨x,rfl,r1⟩:=Reps1.one r
   obtain⟨a,xs,rfl,h1,h2⟩:=r1.lst
   exact⟨a,xs,zs,bs,rfl,h1,h2.mono (bF _ _),e1,q _ H (Same.refl _) .bl⟩
 ·cases h
def gP:List D->Option (List Int)
 | []=>some []
 | .int b::r=>(gP r).map (b:: ·)
 |_=>none
theorem f6: ∀ {ds:List D} {ns:List Int},gP ds=some ns->ds=ns.map D.int
 | [],_,h=>by cases h;rfl
 |x::r,bs,h=>by
  cases x with
  |int b=>
   unfold gP at h;cases e1:gP r with
   |none=>rw[e1] at h;cases h
   |some rs=>rw[e1] at h;cases h;simp[f6 e1]
  |_=>cases h
end
end L2
namespace PySem.SeqAt
open AutoSeq1 (wpAny_loadPart')
open MeetsSeq MeetsSeq2 MeetsSeq3 SeqRoads2
end PySem.SeqAt
namespace L2
open PySem PySem.Spec PyProof.Rows
section
variable {X:Cx}{c:Ct}{e o:Expr}{k k2:Kd}{f g:FE}{pos p p2 apos:Pos}
theorem xh:eG X (.type "range") (λxs H Q=> ∃j:Int,xs=[.int j]/\ ∀p,H p=none->Q (.ref p) (aI H p (.rng 0 j))):=by
 intro aa s σ H xs us Q I r h;obtain⟨j,rfl,q⟩:=h
 obtain⟨u,rfl,t,rfl⟩:=jc r
 refine call_range_1 ⟨.ref s.heap.objs.size,_,I.laid (λb o e=>Ib _ e) (Ie _) ?_,rfl,q _ (I.hok.fresh (Ie _))⟩
 exact⟨_,_,_,Io _ rfl⟩
def bt:=i2 (λ_ _=>true) λi j=>.int (i+j)
def lc:=i2 (λ_ _=>true) λi j=>.int (i-j)
def bz:=i2 (λi j=>decide (i.natAbs<2^1000)&&decide (j.natAbs<2^1000)) λi j=>.int (i*j)
def bY:=i2 (λ_ j=>decide (0<j)) λi j=>.int (i % j)
def jG:=i2 (λ_ j=>decide (0<j)&&decide (j.natAbs<2^1000)) λi j=>.int (i / j)
def df:=i2 (λi j=>decide (0<=j)&&decide (j<=1000000)&&decide (i.natAbs<2^64)) λi j=>.int (i^j.toNat)
def Ax:=i2 (λ_ _=>true) λi j=>.bl (decide (i<j))
def EL:=i2 (λ_ _=>true) λi j=>.bl (decide (j<i))
def Gn:=i2 (λ_ _=>true) λi j=>.bl (decide (j<=i))
theorem vT {i:Int}(h:i.natAbs<2^1000):Pu i<=2^20:=by
 unfold Pu;split
 ·exact Jh _
 ·rename_i hz
  have h0:i.natAbs≠0:=by simp at hz;omega
  have:=(UU h0).mpr h
  omega
theorem vL:k8 X (LI .Mult) (rI IntMulOk λi j=>.int (i*j)):=Gg λ_ _ _ _ _ _ _ hc q=>mul_int q hc
variable {a b:Expr}
theorem cN {k1 k2:Kd}(ha:DP X c k1 a f)(hb:DP X c k2 b g):DP X c .s (.BinOp a .Add b pos) (aB bt f g):=kZ xN wb ha hb
theorem uu {k1 k2:Kd}(ha:DP X c k1 a f)(hb:DP X c k2 b g):DP X c .s (.BinOp a .Sub b pos) (aB lc f g):=kZ yi wb ha hb
theorem zU {K:Il}:nr K .s (rI IntMulOk λi j=>.int (i*j)) bz:=Bl λi j h=>by
 simp only[Jn,decide_eq_true_eq] at h;exact IntMulOk.of_bits (vT h.1) (vT h.2)
theorem eR {k1 k2:Kd}(ha:DP X c k1 a f)(hb:DP X c k2 b g):DP X c .s (.BinOp a .Mult b pos) (aB bz f g):=kZ vL zU ha hb
theorem Dn {K:Il}:nr K .s (rI (λ_ j=>0<j) λi j=>.int (i % j)) bY:=Bl λi j h=>by simpa using h
theorem fK {k1 k2:Kd}(ha:DP X c k1 a f)(hb:DP X c k2 b g):DP X c .s (.BinOp a .Mod b pos) (aB bY f g):=kZ Dd Dn ha hb
theorem ze:k8 X (LI .FloorDiv) (rI (λ_ j=>0<j/\j.natAbs<2^1000) λi j=>.int (i / j)):=Gg λi j _ _ _ _ _ hc q=>by
 obtain⟨h1,h2⟩:=hc
 refine floordiv_int (by omega) (by rw[Int.fdiv_eq_ediv_of_nonneg i (by omega)];exact q) (.inl (PyProof.noPylong_of_log2 ?_))
 have:=(UU (n:=j.natAbs) (by omega)).mpr h2
 omega
theorem AJ {K:Il}:nr K .s (rI (λ_ j=>0<j/\j.natAbs<2^1000) λi j=>.int (i / j)) jG:=Bl λi j h=>by
 simp only[Jn,decide_eq_true_eq] at h;exact⟨h.1,h.2⟩
theorem uU {k1 k2:Kd}(ha:DP X c k1 a f)(hb:DP X c k2 b g):DP X c .s (.BinOp a .FloorDiv b pos) (aB jG f g):=kZ ze AJ ha hb
theorem CV {K:Il}:nr K .s (rI FY λi j=>.int (i^j.toNat)) df:=Bl λi j h=>by
 simp only[Jn,decide_eq_true_eq] at h;exact⟨h.1.1,h.1.2,h.2⟩
theorem kh {k1 k2:Kd}(ha:DP X c k1 a f)(hb:DP X c k2 b g):DP X c .s (.BinOp a .Pow b pos) (aB df f g):=kZ DN CV ha hb
theorem C9 {f g:GE}(ha:DE X c .s a f)(hb:DE X c .s b g):DE X c .s (.BinOp a .Add b pos) (fA bt f g):=xP xN wb ha hb
theorem Dp {f g:GE}(ha:DE X c .s a f)(hb:DE X c .s b g):DE X c .s (.BinOp a .Sub b pos) (fA lc f g):=xP yi wb ha hb
theorem DC {f g:GE}(ha:DE X c .s a f)(hb:DE X c .s b g):DE X c .s (.BinOp a .Mult b pos) (fA bz f g):=xP vL zU ha hb
def CM:D->Option D
 | .int i=>some (.int (-i))
 |_=>none
def fG(f:FE):FE:=λρ=>(f ρ).bind CM
theorem gG(ha:DP X c k a f):DP X c .s (.UnaryOp .USub a pos) (fG f):=λhid ρ=>PE.imp (FD Ee (ha hid ρ)) λσ H Q hq_=>by
 obtain⟨sr,d,hd,q⟩:=hq_
 unfold fG at hd;cases e1:f ρ with
 |none=>rw[e1] at hd;cases hd
 |some z=>
  rw[e1] at hd;have hd:CM z=some d:=hd
  unfold CM at hd;split at hd
  ·cases hd
   refine⟨sr,_,e1,λv H1 s1 r1=>?_⟩
   cases (RK.b k r1 λa n=>sr.fresh n).int
   exact⟨_,rfl,q _ H1 s1 .int⟩
  ·cases hd
end
structure Cl(P:IP)(w:Jo)(K:Il)(mg:Str->Option Ia)(base:Heap)(k:Nat)(x:Str)(ps:List Str)(sp:Sp):Prop where
 ex: ∃f fd,FnOk P w K mg base oA k f fd ps sp/\mg x=some (.ref f)/\Nn K (.ref f)=true/\Binds K fd ps []
structure Df(K:Il)(mg:Str->Option Ia)(x:Str)(st:Stmt)(ps:List Str):Prop where
 ex: ∃f fd,Fun K x x st f fd/\mg x=some (.ref f)/\Binds K fd ps []
section
variable {P:IP}{w:Jo}{K:Il}{mg:Str->Option Ia}{base:Heap}{x:Str}{st:Stmt}{N ps:List Str}{k n:Nat}{t:FS}{kd:Kd}
theorem b8(F:Df K mg x st ps)(S:FnScope N ps (av st))(hkd:kd≠ .b)(hn:ps.length=n)
 (body: ∀(f:Addr) (cdv:Ia) (A:Jc) (outer:List Env) (s:Ic) (H:Hp) (hid:a7) (E:XK),Room k (A.deeper (Mw x (av st) s.heap.objs.size f cdv))->
   tt (lq oA P w K mg base N x (av st) f cdv A outer s H E).nox ⟨H,hid,λ_=>false⟩ kd (bV st) t):
 Cl P w K mg base (k+1) x ps (fj K kd n (j7 kd N.length t)):=by
 obtain⟨f,fd,F,hm,hb⟩:=F.ex
 subst hn;exact⟨f,fd,wu F S hkd (body f),hm,F.kp,hb⟩
theorem Af(F:Df K mg x st ps)(S:FnScope N ps (av st))(hkd:kd≠ .b)(hn:ps.length=n+1)
 (body: ∀(f:Addr) (cdv:Ia) (A:Jc) (outer:List Env) (s:Ic) (H:Hp) (hid:a7) (a:Addr) (E:XK),Room k (A.deeper (Mw x (av st) s.heap.objs.size f cdv))->
   tt (lq oA P w K mg base N x (av st) f cdv A outer s H E).nox ⟨H,hid,λb=>decide (b=a)⟩ kd (bV st) t):
 Cl P w K mg base (k+1) x ps (Ay K kd n (AA kd N.length t)):=by
 obtain⟨f,fd,F,hm,hb⟩:=F.ex
 exact⟨f,fd,Eu F S hkd hn (body f),hm,F.kp,hb⟩
end
section
variable {X:Cx}{c:Ct}{e a b:Expr}{es rest:List Expr}{k:Kd}{pos p:Pos}{x:Str}{ps:List Str}{j n:Nat}
def nF(n:Nat)(P:List D->Option D):List D->Option D:=λds=>if ds.length=n then P ds else none
theorem dq {P:List D->Option D}{fs:FA}(C:Cl X.prog X.w X.K X.mg X.base j x ps (fj X.K k n P))(hr:Room j X.A)
 (ha:DA X c (e::es) fs) (hg:Gl X x:=by rfl) (hdb:(x==("__debug__":Str))=false:=by decide) (he:Iu (e::es) X.env=(false,eval e X.env)::Iu es X.env:=by rfl) (hpl:(Ko pos (Iu es X.env)).any (·.1)=false:=by rfl):
 DP X c k (.Call (.Name x p) (e::es) [] pos) (aq (nF n P) fs):=by
 obtain⟨f,fd,F,hm,hk,hb⟩:=C.ex
 exact Bx F hr hm hk hb ha hg hdb he hpl
theorem lR(i:Nat){y:Str}{py:Pos}{M:List D->List D->Option (D×List D)}{fs:GA}(C:Cl X.prog X.w X.K X.mg X.base j x ps (Ay X.K k n M))(hr:Room j X.A)
 (ha:DG X c es fs) (hkb:k≠ .b:=by decide) (hN:X.N[i]? =some y:=by rfl) (hv:jw X.env.scope y:=by first|exact Jp rfl|exact IQ (Jp rfl)|exact IQ (IQ rfl)) (hd:(y==("__debug__":Str))=false:=by decide)
 (hcd:(y==("__classdict__":Str))=false:=by decide) (hs:Iu (.Name y py::es) X.env=(false,eval (.Name y py) X.env)::Iu es X.env:=by rfl) (hg:Gl X x:=by rfl) (hdb:(x==("__debug__":Str))=false:=by decide) (hpl:(Ko pos (Iu es X.env)).any (·.1)=false:=by rfl):
 DE X c k (.Call (.Name x p) (.Name y py::es) [] pos) (bu i n M fs):=by
 obtain⟨f,fd,F,hm,hk,hb⟩:=C.ex
 exact yS i F hr hm hk hb ha hkb hN hv hd hcd hs hg hdb hpl
end
open PySem PySem.W PyProof.Rows
structure Od(b:Nat->Nat->Bool):Prop where
 tr: ∀ {i j k:Nat},b j i=false->b k j=false->b k i=false
 as: ∀ {i j:Nat},b i j=true->b j i=false
theorem Od.rf {b:Nat->Nat->Bool}(O:Od b)(i:Nat):b i i=false:=by
 cases h:b i i with
 |false=>rfl
 |true=>have:=O.as h;rw[h] at this;exact this
structure Pm(N:Nat)(p:Array Nat):Prop where
 perm:p.Perm (K0 (Iz N))
theorem Pm.size {N:Nat}{p:Array Nat}(h:Pm N p):p.size=N:=by rw[h.perm.size_eq];simp
theorem Pm.lt {N:Nat}{p:Array Nat}(h:Pm N p)(hN:0<N)(k:Nat):p.getD k 0<N:=by
 by_cases hk:k<p.size
 ·have e:p.getD k 0=p[k]:=by simp[KU,hk]
  rw[e];have:p[k]∈(K0 (Iz N)):=h.perm.mem_iff.mp (Array.getElem_mem hk)
  simpa using this
 ·have e:p.getD k 0=0:=by simp[KU,hk]
  rw[e];exact hN
theorem rq {p q:Array Nat}{i j:Nat}(h:p[i]? =q[j]?):p.getD i 0=q.getD j 0:=by
 rw[JL,JL,h]
section
variable {b:Nat->Nat->Bool}{N:Nat}{cmp:Nat->Nat->(Bool->Ic->Prop)->Ic->Prop}{s:Ic}
def Srt(b:Nat->Nat->Bool)(p:Array Nat)(n:Nat):Prop:= ∀i j,i<=j->j<n->b (p.getD j 0) (p.getD i 0)=false
def Fal(b:Nat->Nat->Bool)(p:Array Nat)(n:Nat):Prop:= ∀i j,i<=j->j<n->b (p.getD i 0) (p.getD j 0)=false
theorem Srt.succ(O:Od b){p:Array Nat}{n:Nat}(h:Srt b p n)(hn:1<=n)(e:b (p.getD n 0) (p.getD (n-1) 0)=false):Srt b p (n+1):=λi j hij hj=>by
 by_cases h1:j<n
 ·exact h i j hij h1
 ·have:j=n:=by omega
  subst this
  by_cases h2:i=j
  ·subst h2;exact O.rf _
  ·exact O.tr (h i (j-1) (by omega) (by omega)) e
theorem Fal.succ(O:Od b){p:Array Nat}{n:Nat}(h:Fal b p n)(hn:1<=n)(e:b (p.getD (n-1) 0) (p.getD n 0)=false):Fal b p (n+1):=λi j hij hj=>by
 by_cases h1:j<n
 ·exact h i j hij h1
 ·have:j=n:=by omega
  subst this
  by_cases h2:i=j
  ·subst h2;exact O.rf _
  ·exact O.tr e (h i (j-1) (by omega) (by omega))
theorem Fal.congr(O:Od b){p q:Array Nat}{n:Nat}(h:Fal b p n)(e: ∀k,k<n->b (p.getD k 0) (q.getD k 0)=false/\b (q.getD k 0) (p.getD k 0)=false):Fal b q n:=λi j hij hj=>
 O.tr (O.tr (e j hj).1 (h i j hij hj)) (e i (by omega)).2
theorem A8(O:Od b)(p:Array Nat):Srt b p 1:=λi j hij hj=>by
 have:i=j:=by omega
 subst this;exact O.rf _
theorem AT(O:Od b)(p:Array Nat):Fal b p 1:=λi j hij hj=>by
 have:i=j:=by omega
 subst this;exact O.rf _
theorem ke {p:Array Nat}{i j:Nat}(hj:j<=p.size)(k:Nat):(Ni p i j).getD k 0=if i<=k/\k<j then p.getD (i+j-1-k) 0 else p.getD k 0:=by
 have:=Pv (i:=i) hj k
 unfold Ni;split
 ·rename_i h;rw[if_pos h] at this;exact rq this
 ·rename_i h;rw[if_neg h] at this;exact rq this
theorem Pm.rev {p:Array Nat}(h:Pm N p)(i j:Nat):Pm N (Ni p i j):=⟨(mirror_perm _ _ _ _).trans h.perm⟩
variable(O:Od b)(hN:0<N)(hc: ∀(i j:Nat) (C:Bool->Ic->Prop),i<N->j<N->C (b i j) s->cmp i j C s)
include O hN hc
theorem tP {p:Array Nat}(P:Pm N p){Q:Nat->Ic->Prop}: ∀(f n:Nat),1<=n->n+f<=N->Srt b p n->
 (∀m,n<=m->m<=n+f->Srt b p m->(m<n+f->b (p.getD m 0) (p.getD (m-1) 0)=true)->Q m s)->(kas_asc p f n).kasWp cmp Q s
 |0,n,h1,h2,hs,q=>q n (Ie _) (Ie _) hs λz=>absurd z (Ku _)
 |f+1,n,h1,h2,hs,q=>by
  unfold kas_asc;refine hc _ _ _ (P.lt hN _) (P.lt hN _) ?_
  cases e:b (p.getD n 0) (p.getD (n-1) 0) with
  |true=>simp only[if_true];exact q n (Ie _) (by omega) hs λ_=>e
  |false=>
   simp only[JG,if_false];exact tP P f (n+1) (by omega) (by omega) (hs.succ O h1 e) λm a1 a2 a3 a4=>q m (by omega) (by omega) a3 λz=>a4 (by omega)
def Eqs(b:Nat->Nat->Bool)(p:Array Nat)(n q:Nat):Prop:= ∀i,n- (q+1)<=i->i<n->b (p.getD i 0) (p.getD (n-1) 0)=false/\b (p.getD (n-1) 0) (p.getD i 0)=false
omit hN hc in
theorem Eqs.rev {p:Array Nat}{n q:Nat}(hn:n<=p.size)(hq:q<n)(h:Eqs b p n q)(k:Nat):b (p.getD k 0) ((Ni p (n- (q+1)) n).getD k 0)=false/\b ((Ni p (n- (q+1)) n).getD k 0) (p.getD k 0)=false:=by
 rw[ke hn];split
 ·rename_i hk
  have h1:=h k hk.1 hk.2
  have h2:=h (n- (q+1)+n-1-k) (by omega) (by omega)
  exact⟨O.tr h2.2 h1.1,O.tr h1.2 h2.1⟩
 ·exact⟨O.rf _,O.rf _⟩
theorem lE {Q:Array Nat×Nat×Nat->Ic->Prop}: ∀(f:Nat) (p:Array Nat) (n q:Nat),Pm N p->1<=n->n+f<=N->q<n->Fal b p n->Eqs b p n q->
 (∀p' n' q',Pm N p'->n<=n'->n'<=n+f->q'<n'->Fal b p' n'->Eqs b p' n' q'->Q (p',n',q') s)->(kas_desc f p n q).kasWp cmp Q s
 |0,p,n,q,P,h1,h2,hq,hf,he,k=>k p n q P (Ie _) (Ie _) hq hf he
 |f+1,p,n,q,P,h1,h2,hq,hf,he,k=>by
  have hz:=P.size
  have e0: ∀p':Array Nat,Eqs b p' (n+1) 0:=λp' i a1 a2=>by
   have:i=n:=by omega
   subst this;exact⟨O.rf _,O.rf _⟩
  unfold kas_desc;refine hc _ _ _ (P.lt hN _) (P.lt hN _) ?_
  cases e:b (p.getD n 0) (p.getD (n-1) 0) with
  |true=>
   simp only[if_true];split
   ·rename_i hq0
    have ev:=he.rev O (by omega) hq
    have hf':Fal b (Ni p (n- (q+1)) n) n:=hf.congr O λk _=>ev k
    refine lE f _ (n+1) 0 (P.rev _ _) (by omega) (by omega) (by omega) (hf'.succ O h1 ?_) (e0 _) λp' n' q' a1 a2 a3=>k p' n' q' a1 (by omega) (by omega)
    have e1:(Ni p (n- (q+1)) n).getD n 0=p.getD n 0:=by rw[ke (by omega),if_neg (by omega)]
    rw[e1];exact O.tr (O.as e) (ev (n-1)).2
   ·exact lE f p (n+1) 0 P (by omega) (by omega) (by omega) (hf.succ O h1 (O.as e)) (e0 _) λp' n' q' a1 a2 a3=>k p' n' q' a1 (by omega) (by omega)
  |false=>
   simp only[JG,if_false];refine hc _ _ _ (P.lt hN _) (P.lt hN _) ?_
   cases e2:b (p.getD (n-1) 0) (p.getD n 0) with
   |true=>simp only[if_true];exact k p n q P (Ie _) (by omega) hq hf he
   |false=>
    simp only[JG,if_false];refine lE f p (n+1) (q+1) P (by omega) (by omega) (by omega) (hf.succ O h1 e2) (λi a1 a2=>?_) λp' n' q' b1 b2 b3=>k p' n' q' b1 (by omega) (by omega)
    rw[show n+1-1=n by omega]
    by_cases hi:i=n
    ·subst hi;exact⟨O.rf _,O.rf _⟩
    ·have z:=he i (by omega) (by omega)
     exact⟨O.tr e2 z.1,O.tr z.2 e⟩
theorem su {p:Array Nat}(P:Pm N p){n:Nat}(h1:1<=n)(hn:n<=N)(hf:Fal b p n){Q:Nat×Array Nat->Ic->Prop}(q: ∀m p',Pm N p'->1<=m->m<=N->Srt b p' m->Q (m,p') s):(kas_tail3 n N p).kasWp cmp Q s:=by
 unfold kas_tail3;rw[Mk];have hz:=P.size
 have hs:Srt b (Ni p 0 n) n:=λi j hij hj=>by
  rw[ke (by omega),ke (by omega),if_pos (by omega),if_pos (by omega)]
  exact hf _ _ (by omega) (by omega)
 exact tP O hN hc (P.rev _ _) (N-n) n h1 (by omega) hs λm a1 a2 a3 _=>q m _ (P.rev _ _) (by omega) (by omega) a3
theorem k5 {p:Array Nat}(P:Pm N p){n:Nat}(h1:1<=n)(hn:n+1<=N)(hf:Fal b p (n+1)){Q:Nat×Array Nat->Ic->Prop}(q: ∀m p',Pm N p'->1<=m->m<=N->Srt b p' m->Q (m,p') s):(kas_descPart n N p).kasWp cmp Q s:=by
 unfold kas_descPart;rw[Mk];refine lE O hN hc (N- (n+1)) p (n+1) 0 P (by omega) (by omega) (by omega) hf (λi a1 a2=>?_) λp' n' q' a1 a2 a3 a4 a5 a6=>?_
 ·have:i=n:=by omega
  subst this;exact⟨O.rf _,O.rf _⟩
 ·dsimp only
  have hz:=a1.size
  split
  ·exact su O hN hc (a1.rev _ _) (by omega) (by omega) (a5.congr O λk _=>a6.rev O (by omega) a4 k) q
  ·exact su O hN hc a1 (by omega) (by omega) a5 q
theorem Ah {p:Array Nat}(P:Pm N p){Q:Nat×Array Nat->Ic->Prop}(q: ∀m p',Pm N p'->1<=m->m<=N->Srt b p' m->Q (m,p') s):(kas_count N p).kasWp cmp Q s:=by
 unfold kas_count;rw[Mk];have hz:=P.size
 refine tP O hN hc P (N-1) 1 (Ie _) (by omega) (A8 O p) λm a1 a2 a3 a4=>?_
 split
 ·exact q m p P a1 (by omega) a3
 ·rename_i hm
  have hm':m≠N:=by simpa using hm
  have lt:=a4 (by omega)
  split
  ·refine hc _ _ _ (P.lt hN _) (P.lt hN _) ?_
   cases e:b (p.getD 0 0) (p.getD (m-1) 0) with
   |true=>simp only[if_true];exact q m p P a1 (by omega) a3
   |false=>
    simp only[JG,if_false];have eq: ∀i j,i<m->j<m->b (p.getD i 0) (p.getD j 0)=false:=λi j hi hj=>O.tr (O.tr (a3 j (m-1) (by omega) (by omega)) e) (a3 0 i (by omega) hi)
    have hr: ∀i,i<m->(Ni p 0 m).getD i 0=p.getD (0+m-1-i) 0:=λi hi=>by rw[ke (by omega),if_pos (by omega)]
    refine k5 O hN hc (P.rev _ _) a1 (by omega) (Fal.succ O (λi j hij hj=>?_) a1 ?_) q
    ·rw[hr i (by omega),hr j hj];exact eq _ _ (by omega) (by omega)
    ·have e1:(Ni p 0 m).getD m 0=p.getD m 0:=by rw[ke (by omega),if_neg (by omega)]
     rw[e1,hr (m-1) (by omega)]
     exact O.tr (O.as lt) (eq _ _ (by omega) (by omega))
  ·have:m=1:=by omega
   subst this;exact k5 O hN hc P (Ie _) (by omega) ((AT O p).succ O (Ie _) (O.as lt)) q
theorem lI {p:Array Nat}(P:Pm N p){k:Nat}(hs:Srt b p k){Q:Nat->Ic->Prop}: ∀(f l r:Nat),l<=r->r<=k->r-l<=f->(∀i,i<l->b (p.getD k 0) (p.getD i 0)=false)->(∀i,r<=i->i<k->b (p.getD k 0) (p.getD i 0)=true)->
 (∀m,m<=k->(∀i,i<m->b (p.getD k 0) (p.getD i 0)=false)->(∀i,m<=i->i<k->b (p.getD k 0) (p.getD i 0)=true)->Q m s)->(kas_place p k f l r).kasWp cmp Q s
 |0,l,r,h1,h2,h3,a,c,q=>q l (by omega) a λi z=>c i (by omega)
 |f+1,l,r,h1,h2,h3,a,c,q=>by
  unfold kas_place;split
  ·exact q l (by omega) a λi z=>c i (by omega)
  ·rename_i hlr
   refine hc _ _ _ (P.lt hN _) (P.lt hN _) ?_
   cases e:b (p.getD k 0) (p.getD ((l+r) / 2) 0) with
   |true=>
    simp only[if_true];refine lI P hs f l _ (by omega) (by omega) (by omega) a (λi z1 z2=>?_) q
    cases e2:b (p.getD k 0) (p.getD i 0) with
    |true=>rfl
    |false=>
     have:=O.tr (hs ((l+r) / 2) i z1 z2) e2
     rw[e] at this;exact this.symm
   |false=>
    simp only[JG,if_false];exact lI P hs f _ r (by omega) (by omega) (by omega) (λi z=>O.tr (hs i ((l+r) / 2) (by omega) (by omega)) e) c q
omit hN hc in
theorem tY {p:Array Nat}{k m:Nat}(hk:k<p.size)(hs:Srt b p k)(hm:m<=k)(a: ∀i,i<m->b (p.getD k 0) (p.getD i 0)=false)(c: ∀i,m<=i->i<k->b (p.getD k 0) (p.getD i 0)=true):Srt b (Tb p k (k-m)) (k+1):=by
 have g: ∀j,(Tb p k (k-m)).getD j 0=if j=m then p.getD k 0 else if m<j/\j<=k then p.getD (j-1) 0 else p.getD j 0:=λj=>by
  have:=Q2 hk (k-m) (by omega) j
  rw[show k- (k-m)=m by omega] at this
  by_cases h:j=m
  ·rw[if_pos h] at this⊢;exact rq this
  ·rw[if_neg h] at this⊢
   by_cases h2:m<j/\j<=k
   ·rw[if_pos h2] at this⊢;exact rq this
   ·rw[if_neg h2] at this⊢;exact rq this
 intro i j hij hj;rw[g,g]
 by_cases ej:j=m
 ·rw[if_pos ej]
  by_cases ei:i=m
  ·rw[if_pos ei];exact O.rf _
  ·rw[if_neg ei,if_neg (by omega)];exact a i (by omega)
 ·rw[if_neg ej]
  by_cases ei:i=m
  ·rw[if_pos ei,if_pos (by omega)];exact O.as (c _ (by omega) (by omega))
  ·rw[if_neg ei]
   by_cases hj2:m<j/\j<=k
   ·rw[if_pos hj2]
    by_cases hi2:m<i/\i<=k
    ·rw[if_pos hi2];exact hs _ _ (by omega) (by omega)
    ·rw[if_neg hi2];exact hs _ _ (by omega) (by omega)
   ·rw[if_neg hj2,if_neg (by omega)];exact hs _ _ hij (by omega)
theorem zD {Q:Array Nat->Ic->Prop}: ∀(f:Nat) (p:Array Nat) (k:Nat),Pm N p->1<=k->k+f=N->Srt b p k->(∀p',Pm N p'->Srt b p' N->Q p' s)->(kas_bin f p k).kasWp cmp Q s
 |0,p,k,P,h1,h2,hs,q=>q p P (by rw[<-h2];exact hs)
 |f+1,p,k,P,h1,h2,hs,q=>by
  unfold kas_bin;rw[Mk];have hz:=P.size
  refine lI O hN hc P hs k 0 k (Jh _) (Ie _) (by omega) (λi z=>absurd z (by omega)) (λi z1 z2=>absurd z2 (by omega)) λm a1 a2 a3=>?_
  exact zD f _ (k+1) ⟨(bubble_perm _ _ _).trans P.perm⟩ (by omega) (by omega) (tY O (by omega) hs a1 a2 a3) q
theorem vn {Q:Array Nat->Ic->Prop}(q: ∀p,Pm N p->Srt b p N->Q p s):(Rt N).kasWp cmp Q s:=by
 unfold Rt;rw[Mk];refine Ah O hN hc ⟨XU _⟩ λm p' P h1 h2 hs=>?_
 dsimp only;split
 ·exact zD O hN hc _ p' _ P (by omega) (by omega) (by rw[show max m 1=m by omega];exact hs) q
 ·have:m=N:=by omega
  subst this;exact q p' P hs
end
open PySem PySem.W PySem.Calls PyProof.Rows
section
variable {prog:IP}{w:Jo}{A:Jc}{E:Ia->Ic->Prop}{s:Ic}
theorem ue {a:Addr}{us:List Ia}{n:Nat}{P:Xw->Ic->Prop}(ho:s.heap.get? a=some (KG "list" us.toArray n))(hz:us.length<64)
 (few:us.length<2->P (.done (.ret .none)) {s with heap:=LB s.heap a us us.toArray})
 (many:2<=us.length-> ∀g:Heap,(∀c o,c≠a->s.heap.get? c=some o->g.get? c=some o)->II (model prog w) A (UX us.toArray) (λκ t=>t={s with heap:=g}/\
   (Rt us.length).kasWp (Tc prog w A κ us) (λp t'=>t'=t/\P (.done (.ret .none)) {s with heap:=LB s.heap a us (K0 (p.toList.map λi=>us.getD i Jm))}) t) (λ_ _=>False) {s with heap:=g}):
 II (model prog w) A (NK.«list.sort» ⟨[.ref a],[]⟩) P E s:=by
 have la:a<s.heap.objs.size:=Ix ho
 have z1:us.toArray.size<=sizeLine:=by rw[IF,JY];omega
 obtain⟨c1,h1⟩: ∃c,(s.heap.update a (Kp λ_=> #[])).get? a=some (KG "list" #[] c):=⟨_,Q3 ho (λ_=> #[])⟩
 have h2:(((s.heap.update a (Kp λ_=> #[])).push (KG "tuple" us.toArray 0)).push (KG "list" #[] 0)).get? a=some (KG "list" #[] c1):=Ib _ (Ib _ h1)
 have kp: ∀c o,c≠a->s.heap.get? c=some o->(((s.heap.update a (Kp λ_=> #[])).push (KG "tuple" us.toArray 0)).push (KG "list" #[] 0)).get? c=some o:=λc o nc e=>
  Ib _ (Ib _ (by rw[Pw _ _ _ _ nc];exact e))
 rw[Q4];refine HZ (listItems_at ho rfl (HZ (Mf ho rfl ?_ z1 (Jh _))))
 refine HZ (M3 h1 rfl (HZ (O7 ?_ (show us.length<=_ by rw[JY];omega))))
 refine HZ (NW (Kj ?_) (Jh _))
 show II (model prog w) A _ P E {s with heap:=((s.heap.update a (Kp λ_=> #[])).push (KG "tuple" us.toArray 0)).push (KG "list" #[] 0)}
 dsimp only
 by_cases hs:us.toArray.size<2
 ·rw[if_pos hs,if_pos hs]
  refine HZ (Ih ?_)
  rw[StateT.run_pure];refine HZ (Ih ?_)
  dsimp only;have ea:N9 (λx=>x.2) (us.toArray.zip us.toArray)=us.toArray:=by
   apply Qx.mp
   simp[Qy]
  refine HZ (M3 h2 rfl (HZ (Mf h2 rfl ?_ (Jh _) ?_)))
  ·simp only[bne_self_eq_false,JG,if_false]
   refine Ih ?_
   have:=few (by simpa using hs)
   show P _ {s with heap:=LB s.heap a us (N9 (λx=>x.2) (us.toArray.zip us.toArray))}
   rw[ea];exact this
  ·show(N9 (λx=>x.2) (us.toArray.zip us.toArray)).size<=_
   rw[ea];exact MB z1
 ·rw[if_neg hs,if_neg hs]
  have h2':2<=us.length:=by simpa using hs
  refine HZ (Ji (many h2' _ kp) (λκ t ⟨et,ht⟩=>?_) λ_ _ x=>x.elim)
  subst et;refine HZ (Ji (kat_run (ks:=us) (vs:=us) (G:=λp t'=>t'=_/\P (.done (.ret .none)) {s with heap:=LB s.heap a us (K0 (p.toList.map λi=>us.getD i Jm))})
   (Q:=λst t'=>t'=_/\Qf st=none/\ ∃p:Array Nat,p.size=us.length/\(NL st).map (·.2)=K0 (p.toList.map λi=>us.getD i Jm)/\P (.done (.ret .none)) {s with heap:=LB s.heap a us (K0 (p.toList.map λi=>us.getD i Jm))})
   rfl h2' hz (λp st t' a1 a2 a3 a4=>⟨a4.1,a3,p,a1,kat_snds rfl a2,a4.2⟩) ht) (λr t' hr=>?_) λ_ _ x=>x)
  obtain⟨u,st⟩:=r
  obtain⟨e1,hf,p,hp,ho',hP⟩:=hr
  subst e1;dsimp only at hf ho'⊢;rw[ho',hf];have zz:(K0 (p.toList.map λi=>us.getD i Jm)).size<=sizeLine:=by rw[IF,Ir,IW,hp,JY];omega
  refine HZ (M3 h2 rfl (HZ (Mf h2 rfl ?_ (Jh _) (MB zz))))
  simp only[bne_self_eq_false,JG,if_false];exact Ih hP
theorem tw {l:Addr}{T:String}{o:Obj}{us:List Ia}{n:Nat}{Q:List Ia->Ic->Prop}(hT:T="list"\/T="tuple")(ho:s.heap.get? l=some o)(hc:o.cls=.type T)(hd:o.data=.seq us.toArray n)(hz:us.length<64)
 (q: ∀g:Heap,(∀b u,s.heap.get? b=some u->g.get? b=some u)->s.heap.objs.size<=g.objs.size->Q us {s with heap:=g}):II (model prog w) A (Qg (.ref l)) Q E s:=by
 have z:us.toArray.size<=sizeLine:=by rw[IF,JY];omega
 have hN:(s.heap.push {cls:=.type "list",data:=.seq ([]:List Ia).toArray}).get? s.heap.objs.size=some {cls:=.type "list",data:=.seq #[] 0}:=Io _ rfl
 have hU:=Ki (Kp (·++us.toArray)) hN rfl
 have last:II (model prog w) A (do
  match (<-load s.heap.objs.size).data with
   |Data.seq xs _=>pure xs.toList
   |_=>NM "internal:collect") Q E {s with heap:=(s.heap.push {cls:=.type "list",data:=.seq ([]:List Ia).toArray}).update s.heap.objs.size (Kp (·++us.toArray))}:=by
  refine HZ (Oo hU (Ih ?_))
  show Q ((#[]:Array Ia)++us.toArray).toList _;rw[show((#[]:Array Ia)++us.toArray).toList=us by simp]
  refine q _ (λb u e=>(Ka _ _ (Kw (Ix e))).trans (Ib _ e)) ?_
  rw[Heap.size_update,J8];exact LZ _
 unfold Qg;refine HZ (O8 (LJ MN ?_))
 rw[KL MO _];show II _ A.in1 (Ox []>>=λr=>OI (.builtin "list.__iadd__" ⟨[r,.ref l],[]⟩)) _ _ s
 refine HZ (Jw (Ih ⟨PD Lf _,LJ NN ?_⟩))
 rw[KL Lf _];show II _ A.in1 (LV (.ref s.heap.objs.size) (.ref l) (.ref s.heap.objs.size)) _ _ _;have ext:=wpAny_extend_seq (prog:=prog) (w:=w) (A:=A) (hsz:=z) (R:=λr t=>r=.ok (.ret (.ref s.heap.objs.size))/\t={s with heap:=(s.heap.push {cls:=.type "list",data:=.seq ([]:List Ia).toArray}).update s.heap.objs.size (Kp (·++us.toArray))})
  (s:={s with heap:=s.heap.push {cls:=.type "list",data:=.seq ([]:List Ia).toArray}}) _ l (.ref s.heap.objs.size) 0 hT hN (Ib _ ho) hc hd ⟨rfl,rfl⟩
 refine Ji ext (λfin t h=>?_) (λe t h=>absurd h.1 (by simp))
 cases fin with
 |done f=>obtain⟨e,rfl⟩:=h;cases e;exact last
 |again c=>exact⟨h.1,L6 h.2 λr t' hr=>by obtain⟨rfl,rfl⟩:=hr;exact last⟩
theorem oN {l:Addr}{T:String}{o:Obj}{us:List Ia}{n:Nat}{Q:Ia->Ic->Prop}{G:List Nat->Prop}(hT:T="list"\/T="tuple")(ho:s.heap.get? l=some o)(hc:o.cls=.type T)(hd:o.data=.seq us.toArray n)(hz:us.length<64)
 (few:us.length<2->G (Iz us.length))
 (many:2<=us.length-> ∀g:Heap,(∀c o,s.heap.get? c=some o->g.get? c=some o)->II (model prog w) A.in1.in1 (UX us.toArray) (λκ t=>t={s with heap:=g}/\
   (Rt us.length).kasWp (Tc prog w A.in1.in1 κ us) (λp t'=>t'=t/\G p.toList) t) (λ_ _=>False) {s with heap:=g})
 (fin: ∀(g:Heap) (a e:Nat) (ix:List Nat),(∀c o,s.heap.get? c=some o->g.get? c=some o)->s.heap.objs.size<=a->G ix->g.get? a=some (KG "list" (K0 (ix.map λi=>us.getD i Jm)) e)->Q (.ref a) {s with heap:=g}):
 II (model prog w) A (call (.builtin "sorted") [.ref l]) Q E s:=by
 refine ND kind_sorted plain_sorted entry_sorted (args_sorted1 _) ?_
 unfold NK.«sorted»;refine HZ (m:=checkCount "sorted" 1 1 _) (Ih (HZ (tw hT ho hc hd hz λg kg sg=>?_)))
 refine HZ (NW ?_ (by rw[JY];omega))
 have hL:(g.push (KG "list" us.toArray 0)).get? g.objs.size=some (KG "list" us.toArray 0):=Io _ rfl
 show II _ _ _ _ _ {s with heap:=g.push (KG "list" us.toArray 0)}
 have end_: ∀ix:List Nat,G ix->Q (.ref g.objs.size) {s with heap:=LB (g.push (KG "list" us.toArray 0)) g.objs.size us (K0 (ix.map λi=>us.getD i Jm))}:=λix hG=>by
  obtain⟨e,he⟩:=Sg (out:=K0 (ix.map λi=>us.getD i Jm)) hL
  refine fin _ g.objs.size e ix (λc u hu=>?_) sg hG he
  have lt:=Ix (kg c u hu)
  rw[Ru (IV lt) (by rw[size_push'];exact Qh lt)]
  exact Ib _ (kg c u hu)
 refine HZ (Kj (JX Rv ⟨_,hL,rfl⟩ Q5 (ue (P:=λf t=> ∃v,f=.done (.ret v)/\II (model prog w) A.in1 (pure (Rw (.ret (JD g.objs.size)))) (λf t=> ∃v,f=.done (.ret v)/\Q v t) E t) hL hz (λh=>?_) (λh g' kg'=>?_)) (Rx _)))
 ·have e:=end_ (Iz us.length) (few h)
  rw[show(Iz us.length).map (λi=>us.getD i Jm)=us from Lg λi=>by
   by_cases hi:i<us.length
   ·simp[hi]
   ·simp[hi]] at e
  exact⟨_,rfl,Ih ⟨_,rfl,e⟩⟩
 ·refine Ji (many h g' λc u hu=>kg' c u (IV (Ix (kg c u hu))) (Ib _ (kg c u hu))) (λκ t ⟨et,ht⟩=>⟨et,?_⟩) λ_ _ x=>x
  rw[kat_ask_eq rfl] at ht⊢;exact kas_wp_mono ht λp t' ⟨e1,hG⟩=>⟨e1,_,rfl,Ih ⟨_,rfl,end_ _ hG⟩⟩
end
open PySem PySem.W PySem.Spec PyProof.Rows
def dG:List Int->List Int->Bool
 |_,[]=>false
 | [],_::_=>true
 |x::xs,y::ys=>if x=y then dG xs ys else decide (x<y)
def fc(x y:Int):Bool:=decide (x<y)
structure Lt {α:Type}(lt:α->α->Bool):Prop where
 tr: ∀ {a b c:α},lt b a=false->lt c b=false->lt c a=false
 as: ∀ {a b:α},lt a b=true->lt b a=false
 eq: ∀ {a b:α},lt a b=false->lt b a=false->a=b
theorem Aa:Lt fc:=⟨λh1 h2=>by simp only[fc,decide_eq_false_iff_not] at*;omega,λh=>by simp only[fc,decide_eq_false_iff_not,decide_eq_true_eq] at*;omega,λh1 h2=>by simp only[fc,decide_eq_false_iff_not] at*;omega⟩
theorem uM: ∀ {a b:List Int},dG a b=true->dG b a=false
 | [],[],h=>by simp[dG] at h
 |x::xs,[],h=>by simp[dG] at h
 | [],y::ys,h=>by simp[dG]
 |x::xs,y::ys,h=>by
  unfold dG at h⊢
  by_cases e:x=y
  ·subst e;simp only[if_true] at h⊢;exact uM h
  ·rw[if_neg e] at h;rw[if_neg (IT e)];simp only[decide_eq_true_eq,decide_eq_false_iff_not] at*;omega
theorem wr: ∀ {a b:List Int},dG a b=false->dG b a=false->a=b
 | [],[],_,_=>rfl
 |x::xs,[],_,h=>by simp[dG] at h
 | [],y::ys,h,_=>by simp[dG] at h
 |x::xs,y::ys,h,h'=>by
  unfold dG at h h'
  by_cases e:x=y
  ·subst e;simp only[if_true] at h h';rw[wr h h']
  ·rw[if_neg e] at h;rw[if_neg (IT e)] at h';simp only[decide_eq_false_iff_not] at*;omega
theorem vo: ∀ {a b c:List Int},dG b a=false->dG c b=false->dG c a=false
 | [],_,_,_,_=>by unfold dG;rfl
 |x::xs,[],_,h,_=>by simp[dG] at h
 |x::xs,y::ys,[],_,h=>by simp[dG] at h
 |x::xs,y::ys,z::zs,h1,h2=>by
  unfold dG at h1 h2⊢
  by_cases e1:y=x
  ·subst e1
   simp only[if_true] at h1
   by_cases e2:z=y
   ·subst e2;simp only[if_true] at h2⊢;exact vo h1 h2
   ·rw[if_neg e2] at h2⊢;exact h2
  ·rw[if_neg e1] at h1
   by_cases e2:z=y
   ·subst e2;rw[if_neg e1];exact h1
   ·rw[if_neg e2] at h2
    simp only[decide_eq_false_iff_not] at h1 h2;rw[if_neg (by omega)]
    simp only[decide_eq_false_iff_not];omega
theorem FH:Lt dG:=⟨vo,uM,wr⟩
def tZ {α:Type}(lt:α->α->Bool)(x:α):List α->List α
 | []=>[x]
 |y::r=>if lt x y=true then x::y::r else y::tZ lt x r
def br {α:Type}(lt:α->α->Bool):List α->List α
 | []=>[]
 |x::r=>tZ lt x (br lt r)
section
variable {α:Type}{lt:α->α->Bool}
theorem kE(x:α): ∀l:List α,(tZ lt x l).Perm (x::l)
 | []=>.refl _
 |y::r=>by
  unfold tZ;split
  ·exact .refl _
  ·exact((kE x r).cons y).trans (.swap _ _ _)
theorem aY: ∀l:List α,(br lt l).Perm l
 | []=>.refl _
 |x::r=>(kE x _).trans ((aY r).cons x)
theorem v6(O:Lt lt)(x:α): ∀ {l:List α},l.Pairwise (λa b=>lt b a=false)->(tZ lt x l).Pairwise (λa b=>lt b a=false)
 | [],_=>by simp[tZ]
 |y::r,h=>by
  obtain⟨h1,h2⟩:=LC.mp h
  unfold tZ;split
  ·rename_i e
   refine LC.mpr ⟨λz hz=>?_,h⟩
   rcases IC.mp hz with rfl|hz
   ·exact O.as e
   ·exact O.tr (O.as e) (h1 z hz)
  ·rename_i e
   refine LC.mpr ⟨λz hz=>?_,v6 O x h2⟩
   rcases IC.mp ((kE x r).mem_iff.mp hz) with rfl|hz
   ·simpa using e
   ·exact h1 z hz
theorem kj(O:Lt lt): ∀l:List α,(br lt l).Pairwise (λa b=>lt b a=false)
 | []=>.nil
 |x::r=>v6 O x (kj O r)
theorem kS(O:Lt lt){l l':List α}(p:l'.Perm l)(s:l'.Pairwise (λa b=>lt b a=false)):l'=br lt l:=
 NX (λa b _ _ h1 h2=>O.eq h2 h1) s (kj O l) (p.trans (aY l).symm)
theorem jm(ts:List α)(d:α):(Iz ts.length).map (λi=>ts.getD i d)=ts:=Lg λi=>by
 by_cases hi:i<ts.length
 ·simp[hi]
 ·simp[hi]
theorem kY(O:Lt lt){ts:List α}{d:α}{p:Array Nat}(P:Pm ts.length p)(S:Srt (λi j=>lt (ts.getD i d) (ts.getD j d)) p ts.length):p.toList.map (λi=>ts.getD i d)=br lt ts:=by
 refine kS O ?_ ?_
 ·have h1:p.toList.Perm (Iz ts.length):=by simpa using (Nu.mp P.perm)
  have h2:=h1.map (λi=>ts.getD i d)
  rw[jm] at h2;exact h2
 ·rw[KQ,JV]
  intro i j hi hj hij;have hz:=P.size
  have e:=S i j (by omega) (by simpa [hz] using hj)
  have g: ∀k (hk:k<p.toList.length),p.getD k 0=p.toList[k]:=λk hk=>by
   have:k<p.size:=by simpa using hk
   simp[KU,this]
  rw[g i hi,g j hj] at e;exact e
theorem CA(O:Lt lt)(f:Nat->α):Od (λi j=>lt (f i) (f j)):=⟨λh1 h2=>O.tr h1 h2,λh=>O.as h⟩
end
def Br:D->Option (List Int)
 | .tup ds=>match gP ds with
   |some (x::r)=>some (x::r)
   |_=>none
 |_=>none
def lN:List D->Option (List (List Int))
 | []=>some []
 |d::r=>(Br d).bind λk=>(lN r).map (k:: ·)
def eJ(k:List Int):D:=.tup (k.map D.int)
def je(ds:List D):Option (List D):=if ds.length<64 then match gP ds with
 |some ns=>some ((br fc ns).map D.int)
 |none=>(lN ds).map λks=>(br dG ks).map eJ else none
theorem mC(ns:List Int):gP (ns.map D.int)=some ns:=by
 induction ns with
 |nil=>rfl
 |cons n ns ih=>show(gP (ns.map D.int)).map (n:: ·)=_;rw[ih];rfl
theorem Bu {d:D}{k:List Int}(h:Br d=some k):d=eJ k/\k≠[]:=by
 unfold Br at h;split at h
 ·split at h
  ·rename_i e;cases h;rw[f6 e];exact⟨rfl,by simp⟩
  ·cases h
 ·cases h
theorem mM: ∀ {ds:List D} {ks:List (List Int)},lN ds=some ks->ds=ks.map eJ/\ ∀k∈ks,k≠[]
 | [],_,h=>by cases h;exact⟨rfl,λ_ h=>nomatch h⟩
 |d::r,ks,h=>by
  unfold lN at h;cases e1:Br d with
  |none=>rw[e1] at h;cases h
  |some k=>
   rw[e1] at h;cases e2:lN r with
   |none=>rw[e2] at h;cases h
   |some l=>
    rw[e2] at h;cases h;obtain⟨h1,h2⟩:=Bu e1
    obtain⟨h3,h4⟩:=mM e2
    refine⟨by rw[h1,h3];rfl,λz hz=>?_⟩
    rcases IC.mp hz with rfl|hz
    ·exact h2
    ·exact h4 z hz
theorem gH {α:Type}{lt:α->α->Bool}{l:List α}(h:l.length<2):br lt l=l:=by
 match l,h with
 | [],_=>rfl
 | [_],_=>rfl
theorem oC {xs:List V}{us:List Ia}(r:Vals xs us)(i:Nat):RelV (xs.getD i .non) (us.getD i Jm):=by
 cases e:xs[i]? with
 |none=>
  have hl:=r.length
  have:us[i]? =none:=by simp at e⊢;omega
  simp[JH,e,this];rfl
 |some x=>
  obtain⟨u,h1,h2⟩:=r.get e
  simp[JH,e,h1];exact h2
theorem oh {xs:List V}{us:List Ia}(r:Vals xs us): ∀ix:List Nat,Vals (ix.map λi=>xs.getD i .non) (ix.map λi=>us.getD i Jm)
 | []=>.nil
 |i::l=>.cons (oC r i) (oh r l)
theorem ou {K:Il}{F:Hp}{xs:List V}{ds:List D}(r:Reps K F xs ds)(i:Nat):Rep K F (xs.getD i .non) (ds.getD i .non):=by
 cases e:ds[i]? with
 |none=>
  have hl:=r.length
  have:xs[i]? =none:=by simp at e⊢;omega
  simp[JH,e,this];exact .non
 |some x=>
  obtain⟨u,h1,h2⟩:=r.get e
  simp[JH,e,h1];exact h2
theorem kI {K:Il}{F:Hp}{xs:List V}{ds:List D}(r:Reps K F xs ds): ∀ix:List Nat,Reps K F (ix.map λi=>xs.getD i .non) (ix.map λi=>ds.getD i .non)
 | []=>.nil
 |i::l=>.cons (ou r i) (kI r l)
def mn:List Ia->List Int->Prop:=Paired λu i=> ∃t,u=K3 i t
theorem o0 {K:Il}{F:Hp}: ∀ {xs:List V} {us:List Ia} {ns:List Int},Vals xs us->Reps K F xs (ns.map D.int)->mn us ns
 |_,_,[],r,p=>by cases p;cases r;exact .nil
 |_,_,n::ns,r,p=>by
  cases p with
  |cons p1 p2=>cases r with
   |cons r1 r2=>cases p1;exact .cons r1 (o0 r2 p2)
theorem rZ: ∀ {us:List Ia} {ns:List Int} {i:Nat} {u:Ia},mn us ns->us[i]? =some u-> ∃n,ns[i]? =some n/\ ∃t,u=K3 n t
 |_,_,_,_,.nil,e=>by simp at e
 |_,_,0,_,.cons h _,e=>by simp at e;subst e;exact⟨_,rfl,h⟩
 |_,_,i+1,u,.cons _ r,e=>by
  obtain⟨n,h1,h2⟩:=rZ (i:=i) (u:=u) r (by simpa using e)
  exact⟨n,by simpa using h1,h2⟩
section
variable {prog:IP}{w:Jo}{A:Jc}{s:Ic}{b fin:Bool}{Q:Bool->Ic->Prop}
theorem wo: ∀ {us ws:List Ia} {ns ms:List Int} (i:Nat),mn us ns->mn ws ms->fin=decide (ns.length<ms.length)->Q (dG ns ms) s->KatLex prog w A b fin Q (us.zip ws) i s
 |_,_,[],[],i,.nil,.nil,e,q=>by subst e;exact kat_nil q
 |_,_,[],m::ms,i,.nil,.cons _ _,e,q=>by subst e;simp only[List.zip_nil_left];refine kat_nil ?_;simpa [dG] using q
 |_,_,n::ns,[],i,.cons _ _,.nil,e,q=>by subst e;simp only[List.zip_nil_right];refine kat_nil ?_;simpa [dG] using q
 |_,_,n::ns,m::ms,i,.cons h1 r1,.cons h2 r2,e,q=>by
  obtain⟨t,rfl⟩:=h1
  obtain⟨t',rfl⟩:=h2
  rw[List.zip_cons_cons];refine kat_cons (Qo (kat_go (λhe=>?_) λhe=>?_))
  ·have:n=m:=by simpa using he
   subst this;refine kat_yes (wo (i+1) r1 r2 (by rw[e];simp) ?_)
   simpa [dG] using q
  ·have:n≠m:=by simpa using he
   have q':Q (decide (n<m)) s:=by simpa [dG,this] using q
   refine kat_no ?_
   cases (b&&i==0) with
   |true=>exact oneLt_int q'
   |false=>exact kat_one _ _ (lt_int q')
end
theorem si {X:Cx}:eG X (.builtin "sorted") (λxs H Q=> ∃a ys ds es,xs=[.ref a]/\(SqL X.K H a ys\/SqT X.K H a ys)/\Reps X.K H ys ds/\je ds=some es/\
 ∀(l:Addr) (ix:List Nat),H l=none->ix.length=ds.length->ix.map (λi=>ds.getD i .non)=es->Q (.ref l) (aI H l (.lst (ix.map λi=>ys.getD i .non)))):=by
 intro aa s σ H xs us Q I r h;obtain⟨a,ys,ds,es,rfl,hsq,rp,hs,q⟩:=h
 obtain⟨u,rfl,rx⟩:=jc r
 cases rx
 obtain⟨its,T,o,n,rv,hT,ho,hc,hd⟩: ∃(its:List Ia) (T:String) (o:Obj) (n:Nat),Vals ys its/\(T="list"\/T="tuple")/\s.heap.get? a=some o/\o.cls=.type T/\o.data=.seq its.toArray n:=by
  rcases hsq with hq|hq
  ·obtain⟨its,r',pl,hz⟩:=I.list hq
   obtain⟨o,ho,hc,n,hd⟩:=pl.isList
   exact⟨its,"list",o,n,r',.inl rfl,ho,hc,hd⟩
  ·obtain⟨its,r',pl,hz⟩:=I.tuple hq
   obtain⟨o,ho,hc,n,hd⟩:=pl
   exact⟨its,"tuple",o,n,r',.inr rfl,ho,hc,hd⟩
 have l1:=rv.length
 have l2:=rp.length
 have h64:ds.length<64:=by
  unfold je at hs;split at hs
  ·assumption
  ·cases hs
 unfold je at hs;rw[if_pos h64] at hs;refine oN (G:=λix=>ix.length=ds.length/\ix.map (λi=>ds.getD i .non)=es) hT ho hc hd (by omega) (λfew=>⟨by simp;omega,?_⟩) (λh2 g kg=>?_) (λg p e ix kg hp hG hg=>?_)
 ·rw[show its.length=ds.length by omega,jm]
  cases e1:gP ds with
  |some ns=>
   rw[e1] at hs;cases hs;have:=f6 e1
   subst this;rw[gH (by simp at l2;omega)]
  |none=>
   rw[e1] at hs;cases e2:lN ds with
   |none=>rw[e2] at hs;cases hs
   |some ks=>
    rw[e2] at hs;cases hs;obtain⟨h3,_⟩:=mM e2
    subst h3;dsimp only;rw[gH (by simp at l2;omega)]
 ·cases e1:gP ds with
  |some ns=>
   rw[e1] at hs;cases hs;have e0:=f6 e1
   subst e0;have hv:=o0 rv rp
   have hl:its.length=ns.length:=by simp at l2;omega
   have gi: ∀i,i<ns.length-> ∃t,its.getD i Jm=K3 (ns.getD i 0) t:=λi hi=>by
    have e2:its[i]? =some its[i]:=Ig (by omega)
    obtain⟨m,e3,t,e4⟩:=rZ hv e2
    refine⟨t,?_⟩
    simp[JH,e2,e3,e4]
   refine kas_kind (T:=.type "int") h2 (λv hv'=>?_) (by rfl) (by rfl) ⟨rfl,?_⟩
   ·obtain⟨i,hi,rfl⟩:=Ls hv'
    obtain⟨t,e⟩:=gi i (by omega)
    have:its[i]=its.getD i Value.none:=by simp[JH,Ig hi]
    rw[this,e];exact SA
   ·rw[hl]
    refine vn (b:=λi j=>fc (ns.getD i 0) (ns.getD j 0)) (CA Aa _) (by omega) (λi j C hi hj hC=>?_) λp P S=>⟨rfl,?_,?_⟩
    ·obtain⟨t,e⟩:=gi i hi
     obtain⟨t',e'⟩:=gi j hj
     unfold Tc;rw[e,e'];exact kat_lt_int hC
    ·rw[IW,P.size];simp
    ·have:=congrArg (Oa D.int) (kY Aa P S)
     rw[<-this,Jl];refine JP λi hi=>?_
     have:i<ns.length:=by
      have:=P.perm.mem_iff.mp (O9.mp hi)
      simpa using this
     simp[JH,Ig this]
  |none=>
   rw[e1] at hs;cases e2:lN ds with
   |none=>rw[e2] at hs;cases hs
   |some ks=>
    rw[e2] at hs;cases hs;obtain⟨h3,h4⟩:=mM e2
    subst h3;have hl:its.length=ks.length:=by simp at l2;omega
    have gi: ∀i,i<ks.length-> ∃(b:Addr) (o:Obj) (ts:List Ia) (n:Nat),its.getD i Jm=.ref b/\s.heap.get? b=some o/\o.cls=.type "tuple"/\o.data=.seq ts.toArray n/\mn ts (ks.getD i []):=λi hi=>by
     have r1:=oC rv i
     have r2:=ou rp i
     have e3:(ks.map eJ).getD i .non=.tup ((ks.getD i []).map D.int):=by simp[JH,Ig hi,eJ]
     rw[e3] at r2
     generalize hx:ys.getD i .non=x at r1 r2
     cases r2 with
     |tup q1 q2=>
      obtain⟨ts,r',⟨o,ho,hc,n,hd⟩,_⟩:=I.tuple q1
      exact⟨_,o,ts,n,r1,ho,hc,hd,o0 r' q2⟩
    have kt: ∀(l:List Ia) (ms:List (List Int)),l.length=ms.length->(∀i,i<ms.length-> ∃(b:Addr) (o:Obj) (ts:List Ia) (n:Nat),l.getD i Jm=.ref b/\s.heap.get? b=some o/\o.cls=.type "tuple"/\o.data=.seq ts.toArray n/\mn ts (ms.getD i []))->(∀k∈ms,k≠[])->
     ∃fs,KatTups g l fs/\fs.length=l.length/\ ∀v∈fs,∃i t,v=K3 i t:=by
     intro l
     induction l with
     |nil=>intro ms _ _ _;exact⟨[],.nil,rfl,λ_ h=>nomatch h⟩
     |cons v l ih=>
      intro ms hl hg hk;cases ms with
      |nil=>cases hl
      |cons m ms=>
       obtain⟨fs,f1,f2,f3⟩:=ih ms (by simpa using hl) (λi hi=>by simpa using hg (i+1) (by simpa using hi)) λk hk'=>hk k (by simp[hk'])
       obtain⟨b,o,ts,n,g1,g2,g3,g4,g5⟩:=hg 0 (by simp)
       simp[JH] at g1 g5;subst g1;cases m with
       |nil=>exact absurd rfl (hk [] (by simp))
       |cons x xs=>
        cases g5 with
        |cons y1 y2=>
         obtain⟨t,rfl⟩:=y1
         refine⟨_,KatTups.cons (kg _ _ g2) g3 g4 (by simp;rfl) f1,by simp[f2],λv hv=>?_⟩
         rcases IC.mp hv with rfl|hv
         ·exact⟨_,_,rfl⟩
         ·exact f3 v hv
    obtain⟨fs,f1,f2,f3⟩:=kt its ks hl gi h4
    refine kat_kind (T:=.type "int") f1 (by omega) (λv hv=>?_) (by rfl) ⟨rfl,?_⟩
    ·obtain⟨i,t,rfl⟩:=f3 v hv;exact SA
    ·rw[hl]
     refine vn (b:=λi j=>dG (ks.getD i []) (ks.getD j [])) (CA FH _) (by omega) (λi j C hi hj hC=>?_) λp P S=>⟨rfl,?_,?_⟩
     ·obtain⟨b1,o1,ts1,n1,x1,x2,x3,x4,x5⟩:=gi i hi
      obtain⟨b2,o2,ts2,n2,y1,y2,y3,y4,y5⟩:=gi j hj
      unfold Tc;rw[x1,y1];refine kat_lt (kg _ _ x2) x4 (kg _ _ y2) y4 ?_
      refine wo 0 x5 y5 ?_ hC
      have z1:=Ll x5
      have z2:=Ll y5
      simp[z1,z2]
     ·rw[IW,P.size];simp
     ·have:=congrArg (Oa eJ) (kY FH P S)
      dsimp only;rw[<-this,Jl];refine JP λi hi=>?_
      have:i<ks.length:=by
       have:=P.perm.mem_iff.mp (O9.mp hi)
       simpa using this
      simp[JH,Ig this]
 ·refine⟨.ref p,_,I.laid (t':=s.toks) kg hp (show ObjOk X.prog X.w _ g _ (.lst (ix.map λi=>ys.getD i .non)) from⟨?_,_,e,oh rv ix,hg⟩),rfl,q _ ix (I.hok.fresh hp) hG.1 hG.2⟩
  rw[Ir,hG.1,JY];omega
def iQ:List D->Option D
 | [.lst ds]=>(je ds).map D.lst
 | [.tup ds]=>(je ds).map D.lst
 |_=>none
theorem wF {K:Il}:jZ K .n (λxs H Q=> ∃a ys ds es,xs=[.ref a]/\(SqL K H a ys\/SqT K H a ys)/\Reps K H ys ds/\je ds=some es/\
 ∀(l:Addr) (ix:List Nat),H l=none->ix.length=ds.length->ix.map (λi=>ds.getD i .non)=es->Q (.ref l) (aI H l (.lst (ix.map λi=>ys.getD i .non)))) iQ:=by
 intro H hid vs ds d Q hf h r q;unfold iQ at h;split at h
 ·rename_i zs
  cases e:je zs with
  |none=>rw[e] at h;cases h
  |some es=>
   rw[e] at h;cases h;obtain⟨x,rfl,r1⟩:=Reps1.one r
   obtain⟨a,xs,rfl,h1,h2⟩:=r1.lst
   refine⟨a,xs,zs,es,rfl,.inl h1,h2.mono (bF _ _),e,λl ix hl _ he=>q _ _ (aF hl _) (jk hl (Same.refl _) ?_)⟩
   rw[<-he];exact kI h2 ix
 ·rename_i zs
  cases e:je zs with
  |none=>rw[e] at h;cases h
  |some es=>
   rw[e] at h;cases h;obtain⟨x,rfl,r1⟩:=Reps1.one r
   obtain⟨a,xs,rfl,_,h1,h2⟩:=r1.tup
   refine⟨a,xs,zs,es,rfl,.inr h1,h2.mono (bF _ _),e,λl ix hl _ he=>q _ _ (aF hl _) (jk hl (Same.refl _) ?_)⟩
   rw[<-he];exact kI h2 ix
 ·cases h
section
variable {X:Cx}{c:Ct}{e a b:Expr}{es rest:List Expr}{f g:GE}{fs:GA}{k:Kd}{pos p:Pos}{x:Str}{id T:String}{r:List V->Hp->VK->Prop}{F:List D->Option D}{ps:List Str}{j n:Nat}
theorem Fd {r:R2}{F:D->D->Option D}(hr:IxR X r)(hF:nr X.K k r F)(ha:DE X c .s a f)(hb:DE X c .s b g)(hs:oT b)(hk:k≠ .b:=by decide):DE X c k (.Subscript a b pos) (fA F f g):=λhid ρ=>
 PE.imp (CD hr (ha hid ρ) (iC λρ1=>hb hid ρ1) hs) λσ H Q h=>Fn hF hk h
def qJ(fs:GA):GE:=λρ=>(fs ρ).bind λq=>if q.1.length<=Iy then some (.tup q.1,q.2) else none
theorem xE {ρ ρ':aA}{d:D}(h:qJ fs ρ=some (d,ρ')): ∃ds,fs ρ=some (ds,ρ')/\ds.length<=Iy/\d=.tup ds:=by
 unfold qJ at h;cases e:fs ρ with
 |none=>rw[e] at h;cases h
 |some q=>
  rw[e] at h;dsimp only[Mt] at h;split at h
  ·cases h;exact⟨q.1,rfl, ‹_›,rfl⟩
  ·cases h
theorem DF {x1}(h:DG X c es fs):DE X c .s (.Tuple es x1 pos) (qJ fs):=λhid ρ=>PE.imp (tS (h hid ρ)) λσ H Q hq_=>by
 obtain⟨sr,d,ρ',hd,q⟩:=hq_
 obtain⟨ds,e1,hz,rfl⟩:=xE hd
 exact⟨sr,ds,ρ',e1,λvs H1 k1 s1 r1=>⟨by rw[r1.length];exact hz,λp hp=>q _ _ (PostE.left k1 (s1.post (k:=.s) (aF hp _) (eU hp (s1.fresh hp) r1) (by decide)))⟩⟩
end
section
variable {prog:IP}{w:Jo}{A:Jc}{R:Nm->Ic->Prop}{s:Ic}{elt t1 t2 i1 i2:Expr}{ifs1 ifs2:List Expr}{scope:KO}{pos:Pos}{it acc:Ia}{env:Env}
theorem Cg:Qc (.ListComp elt [⟨t1,i1,ifs1,0⟩,⟨t2,i2,ifs2,0⟩] scope pos) 1 it acc env=(do
 NH i2.pos
 match <-MS it with
 |none=>pure (.done .next)
 |some v=>
  Lb t2 it v
  LN t2 env v
  let ok <-jR ifs2 env
  if ok=true then do(do let _ <-call (.builtin "list.append") [acc,<-eval elt env]);OI (.compLoop (.ListComp elt [⟨t1,i1,ifs1,0⟩,⟨t2,i2,ifs2,0⟩] scope pos) 1 it acc env)
  else OI (.compLoop (.ListComp elt [⟨t1,i1,ifs1,0⟩,⟨t2,i2,ifs2,0⟩] scope pos) 1 it acc env)):=by rfl
theorem y9:Qc (.ListComp elt [⟨t1,i1,ifs1,0⟩,⟨t2,i2,ifs2,0⟩] scope pos) 0 it acc env=(do
 NH i1.pos
 match <-MS it with
 |none=>pure (.done .next)
 |some v=>
  Lb t1 it v
  LN t1 env v
  let ok <-jR ifs1 env
  if ok=true then do
   let x <-eval i2 env
   NH i2.pos
   let x <-JE i2 env x
   let _ <-runOwn (.compStart (.ListComp elt [⟨t1,i1,ifs1,0⟩,⟨t2,i2,ifs2,0⟩] scope pos) 1 (<-NG [x] (PM x)) acc env) env
   OI (.compLoop (.ListComp elt [⟨t1,i1,ifs1,0⟩,⟨t2,i2,ifs2,0⟩] scope pos) 0 it acc env)
  else OI (.compLoop (.ListComp elt [⟨t1,i1,ifs1,0⟩,⟨t2,i2,ifs2,0⟩] scope pos) 0 it acc env)):=by rfl
abbrev zC:=(Ic->Prop)->Ic->Prop
def vk(prog:IP)(w:Jo)(A:Jc)(elt:Expr)(acc:Ia)(env:Env):zC:=λQ s=>
 II (model prog w) A (eval elt env) (λx s₄=>II (model prog w) A (call (.builtin "list.append") [acc,x]) (λ_ s₅=>Q s₅) (λ_ _=>False) s₄) (λ_ _=>False) s
def pN(prog:IP)(w:Jo)(A:Jc)(e iter:Expr)(acc:Ia)(env:Env):zC:=λQ s=>
 II (model prog w) A (eval iter env) (λx s₄=>II (model prog w) A (PM x) (λit s₅=>KZ (model prog w) A (.compStart e 1 it acc env) (λr s'=>match r with
  | .ok _=>Q s'
  | .error _=>False) s₅) (λ_ _=>False) s₄) (λ_ _=>False) s
def yH(prog:IP)(w:Jo)(A:Jc)(code:Code)(tg:Expr)(ifs:List Expr)(it:Ia)(env:Env)(TA:zC)(R:Nm->Ic->Prop):Prop:= ∀(I:Nat->Ic->Prop),
 (∀n s,I n s->II (model prog w) A (MS it) (λr s₁=>match r with
   |none=>R (.ok .next) s₁
   |some v=>II (model prog w) A (Lb tg it v) (λ_ s₁=>II (model prog w) A (LN tg env v) (λ_ s₂=>
     II (model prog w) A (jR ifs env) (λok s₃=>
      if ok=true then TA (λs₅=> ∃m,m<n/\I m s₅) s₃
      else∃m,m<n/\I m s₃) (λ_ _=>False) s₂) (λ_ _=>False) s₁) (λ_ _=>False) s₁) (λ_ _=>False) s)->
 ∀(n:Nat) (s:Ic),I n s->KZ (model prog w) A code R s
theorem Am:yH prog w A (.compLoop (.ListComp elt [⟨t1,i1,ifs1,0⟩,⟨t2,i2,ifs2,0⟩] scope pos) 1 it acc env) t2 ifs2 it env (vk prog w A elt acc env) R:=by
 intro I turn n s h;have no: ∀ {E':Ia->Ic->Prop} (x:Ia) (s:Ic),False->E' x s:=λ_ _ z=>z.elim
 refine Qb rfl I (λn s hI=>?_) n h
 show II _ A ((Qc (.ListComp elt [⟨t1,i1,ifs1,0⟩,⟨t2,i2,ifs2,0⟩] scope pos) 1 it acc env).onRaise (λx=>do Qw x env;OJ x)) _ _ s
 refine QO ?_
 rw[Cg];refine HZ (K2 (HZ (Ji (turn n s hI) (λr s₁ h₁=>?_) no)))
 cases r with
 |none=>exact Ih h₁
 |some v=>
  refine HZ (Ji h₁ (λ_ s₁ h₁=>HZ (Ji h₁ (λ_ s₂ h₂=>HZ (Ji h₂ (λok s₃ h₃=>?_) no)) no)) no)
  cases ok with
  |false=>exact Ih ⟨rfl,h₃⟩
  |true=>exact HZ (HZ (Ji h₃ (λx s₄ h₄=>HZ (Ji h₄ (λ_ s₅ h₅=>Ih (Ih ⟨rfl,h₅⟩)) no)) no))
theorem wS(hset: ∀x,JE i2 env x=pure x):yH prog w A (.compLoop (.ListComp elt [⟨t1,i1,ifs1,0⟩,⟨t2,i2,ifs2,0⟩] scope pos) 0 it acc env) t1 ifs1 it env (pN prog w A (.ListComp elt [⟨t1,i1,ifs1,0⟩,⟨t2,i2,ifs2,0⟩] scope pos) i2 acc env) R:=by
 intro I turn n s h;have no: ∀ {E':Ia->Ic->Prop} (x:Ia) (s:Ic),False->E' x s:=λ_ _ z=>z.elim
 refine Qb rfl I (λn s hI=>?_) n h
 show II _ A ((Qc (.ListComp elt [⟨t1,i1,ifs1,0⟩,⟨t2,i2,ifs2,0⟩] scope pos) 0 it acc env).onRaise (λx=>do Qw x env;OJ x)) _ _ s
 refine QO ?_
 rw[y9];refine HZ (K2 (HZ (Ji (turn n s hI) (λr s₁ h₁=>?_) no)))
 cases r with
 |none=>exact Ih h₁
 |some v=>
  refine HZ (Ji h₁ (λ_ s₁ h₁=>HZ (Ji h₁ (λ_ s₂ h₂=>HZ (Ji h₂ (λok s₃ h₃=>?_) no)) no)) no)
  cases ok with
  |false=>exact Ih ⟨rfl,h₃⟩
  |true=>
   refine HZ (Ji h₃ (λx s₄ h₄=>HZ (K2 (HZ (QQ (hset x) (HZ (Kj (Ji h₄ (λit2 s₅ h₅=>?_) no))))))) no)
   refine HZ (wpAny_runOwn (L6 h₅ λr s' hr=>?_))
   cases r with
   |ok f=>exact Ih ⟨rfl,hr⟩
   |error e=>exact hr.elim
end
def mR(g:FG)(p:FT)(A:FA)(ρ0:aA):List D->Option (List D)
 | []=>some []
 |d::r=>(g d ρ0).bind λρ1=>(p ρ1).bind λb=>if b=true then(A ρ1).bind λys=>(mR g p A ρ0 r).map (ys++ ·) else mR g p A ρ0 r
def GJ(n:Nat)(ρ:aA):Prop:= ∀(i:Nat) (s:Sl),n<=i->ρ[i]? =some s->s=.no
def yO(Y:Cx)(c:Ct)(hid:a7)(D0:Addr)(L W:Hp)(A:FA)(TA:zC)(ρ1:aA):Prop:= ∀(aa:List (Addr×Obj)) (s:Ic) (σ:St) (H:Hp) (xs:List V) (ad zs:List D) (Q:Ic->Prop),Inv Y aa σ H s->SR Y.K c hid ρ1 σ H->
 H D0=some (.lst xs)->Reps Y.K (vw H hid) xs ad->xs.length+zs.length<=Iy->Same L H->Same W (vw H hid)->(∀i:Nat,Ow ρ1[i]? ->σ[i]? ≠some (some (.ref D0)))->A ρ1=some zs->
 (∀(s':Ic) (σ':St) (H':Hp) (xs':List V),Inv Y aa σ' H' s'->SR Y.K c hid ρ1 σ' H'->H' D0=some (.lst xs')->Reps Y.K (vw H' hid) xs' (ad++zs)->Same L H'->Same (vw H hid) (vw H' hid)->(∀i:Nat,Ow ρ1[i]? ->σ'[i]? ≠some (some (.ref D0)))->Q s')->TA Q s
section
variable {Y:Cx}{c:Ct}{tg:Expr}{ifs:List Expr}{g:FG}{p:FT}{A:FA}{TA:zC}{code:Code}
structure CLG(Y:Cx)(aa:List (Addr×Obj))(c:Ct)(hid:a7)(ρ0:aA)(L W H3:Hp)(D0:Addr)(fp:List Addr)(tn:Nat->Heap->Prop)(g:FG)(p:FT)(A:FA)(ds ys ad0:List D)(n i:Nat)(xs:List V)(ad:List D)(σ':St)(H':Hp)(s':Ic):Prop where
 e:n=ds.length-i
 hi:i<=ds.length
 I:Inv Y aa σ' H' s'
 st:tn i s'.heap
 fr: ∀b∈fp,H' b=none
 sr:SR Y.K c hid ρ0 σ' H'
 sm:Same L H'
 ac:H' D0=some (.lst xs)
 rp:Reps Y.K (vw H' hid) xs ad
 w:Same W (vw H' hid)
 v:Same (vw H3 hid) (vw H' hid)
 na: ∀i:Nat,Ow ρ0[i]? ->σ'[i]? ≠some (some (.ref D0))
 go: ∃rest,mR g p A ρ0 (ds.drop i)=some rest/\ad++rest=ad0++ys
theorem qv(hcalm:Y.calm=true)(hxe:Y.xe=λ_ _=>False){n0:Nat}(hT:gD n0 g)(hg:qi Y c tg g)(hp:qc Y c ifs p)
 {aa:List (Addr×Obj)} {σ3:St} {H3 L W:Hp} {s4:Ic} {hid:a7} {ρ0:aA} {J:It} {it D0:Addr} {fp:List Addr} {tn:Nat->Heap->Prop} {ds ys ad0:List D} {xs0:List V} {R:Nm->Ic->Prop}
 (hA: ∀d ρ1,g d ρ0=some ρ1->yO Y c hid D0 L W A TA ρ1)
 (hN:GJ n0 ρ0) (I:Inv Y aa σ3 H3 s4) (sr:SR Y.K c hid ρ0 σ3 H3) (hh:hid D0=true) (na: ∀i:Nat,Ow ρ0[i]? ->σ3[i]? ≠some (some (.ref D0))) (hacc:H3 D0=some (.lst xs0)) (rp0:Reps Y.K (vw H3 hid) xs0 ad0) (sm:Same L H3) (wv:Same W (vw H3 hid)) (T:Turn Y.prog Y.w Y.K tg J fp it tn) (st:tn 0 s4.heap) (hF: ∀b∈fp,fN Y aa H3 b)
 (io:FP Y.K L W J ds) (hz:ad0.length+ys.length<=Iy) (hc:mR g p A ρ0 ds=some ys)
 (hTP:yH Y.prog Y.w Y.A code tg ifs (.ref it) Y.env TA R)
 (hR: ∀(s':Ic) (σ':St) (H':Hp) (xs:List V),Inv Y aa σ' H' s'->SR Y.K c hid ρ0 σ' H'->Same L H'->H' D0=some (.lst xs)->Reps Y.K (vw H' hid) xs (ad0++ys)->Same (vw H3 hid) (vw H' hid)->(∀i:Nat,Ow ρ0[i]? ->σ'[i]? ≠some (some (.ref D0)))->R (.ok .next) s'):
 KZ (model Y.prog Y.w) Y.A code R s4:=by
 have stat: ∀ {H':Hp},(∀b∈fp,H' b=none)-> ∀b∈fp,fN Y aa H' b:=λ{H'} hn b hb=>⟨hn b hb,(hF b hb).2⟩
 refine hTP (λn s'=> ∃(i:Nat) (xs:List V) (ad:List D) (σ':St) (H':Hp),CLG Y aa c hid ρ0 L W H3 D0 fp tn g p A ds ys ad0 n i xs ad σ' H' s') ?_ ds.length s4
  ⟨0,xs0,ad0,σ3,H3,by simp,Jh _,I,st,λb hb=>(hF b hb).1,sr,sm,hacc,rp0,wv,Same.refl _,na,ys,by simpa using hc,rfl⟩
 rintro n s5 ⟨i,xs,ad,σ5,H5,rfl,hi,I5,st5,f5,sr5,sm5,ac5,rp5,w5,v5,na5,rest,hc5,hy5⟩
 have wH:Same W H5:=w5.trans (bF _ _)
 by_cases hlt:i<ds.length
 ·have hd:ds[i]? =some ds[i]:=Ig hlt
  have e2:ds.drop i=ds[i]::ds.drop (i+1):=Kf hlt
  rw[e2] at hc5;unfold mR at hc5;obtain⟨go,yl⟩:=io.1 i ds[i] H5 hd sm5 wH
  refine bm (T.item Y rfl rfl rfl hcalm i aa s5 σ5 H5 (λ_ _=>False) I5 (stat f5) st5 go) λr s6 hq_=>?_
  obtain⟨u,hr,h6⟩:=hq_
  subst hr;refine bm h6 λ_ s7 hq_=>?_
  obtain⟨x,H7,I7,r7,y7,st7,f7⟩:=hq_
  obtain⟨s7',rp⟩:=yl x H7 y7
  have rx:=rp hid sr5.tr w5
  have I7':=I7.pinned (stat f7) (T.obj _ _ st7)
  cases e3:g ds[i] ρ0 with
  |none=>rw[e3] at hc5;cases hc5
  |some ρ1=>
   rw[e3] at hc5;have hc5:(p ρ1).bind (λb=>if b=true then(A ρ1).bind λys=>(mR g p A ρ0 (ds.drop (i+1))).map (ys++ ·) else mR g p A ρ0 (ds.drop (i+1)))=some rest:=hc5
   obtain⟨tl1,tl2⟩:=hT _ _ _ e3
   have fg: ∀ {σ':St} {H':Hp},SR Y.K c hid ρ1 σ' H'->SR Y.K c hid ρ0 σ' H':=λ{σ' H'} z=>z.forget tl1 λj s e=>by
    by_cases hj:j<n0
    ·exact .inr ((tl2 j hj).trans e)
    ·exact .inl (hN j s (by omega) e)
   have ow01: ∀j:Nat,Ow ρ0[j]? ->Ow ρ1[j]? :=λj o=>by
    by_cases hj:j<n0
    ·rw[tl2 j hj];exact o
    ·exfalso
     cases e:ρ0[j]? with
     |none=>rw[e] at o;exact o
     |some s=>have:=hN j s (by omega) e;subst this;rw[e] at o;exact o
   have keepT: ∀ {σ':St} {H':Hp} {s':Ic},Inv Y (aa++jn fp s7.heap) σ' H' s'->tn (i+1) s'.heap/\ ∀b∈fp,H' b=none:=λ{σ' H' s'} J'=>by
    refine⟨T.keep _ _ _ st7 λb hb o e=>(J'.pin (b,o) (Iw _ (Iw _ (cg hb e)))).1,λb hb=>?_⟩
    obtain⟨o,e,_⟩:=T.obj _ _ st7 b hb
    exact(J'.pin (b,o) (Iw _ (Iw _ (cg hb e)))).2.1
   refine bm (hxe▸hg hid ρ0 ds[i] _ s7 σ5 H7 x u (λσ' H'=>H'=H7/\SR Y.K c hid ρ1 σ' H7/\OwK ρ0 ρ1 σ5 σ') I7' r7 ⟨sr5.ext s7',rx,ρ1,e3,λσ' z o=>⟨rfl,z,o⟩⟩) λ_ s8 hq_=>?_
   obtain⟨σ8,H8,I8,e8,q8,o8⟩:=hq_
   subst e8;have na1: ∀j:Nat,Ow ρ1[j]? ->σ8[j]? ≠some (some (.ref D0)):=λj o=>by
    rw[(o8 j o).2];exact na5 j (o8 j o).1
   cases e4:p ρ1 with
   |none=>rw[e4] at hc5;cases hc5
   |some b=>
    rw[e4] at hc5;have hc5:(if b=true then(A ρ1).bind λys=>(mR g p A ρ0 (ds.drop (i+1))).map (ys++ ·) else mR g p A ρ0 (ds.drop (i+1)))=some rest:=hc5
    refine bm (hxe▸hp hid ρ1 _ s8 σ8 H8 (λb' H'=>b'=b/\Same H8 H') I8 ⟨q8,b,e4,λH' s'=>⟨rfl,s'⟩⟩) λok s9 hq_=>?_
    obtain⟨H9,I9,e9,sm9⟩:=hq_
    subst e9;have w9:Same (vw H5 hid) (vw H9 hid):=aD (s7'.trans sm9)
    cases ok with
    |false=>
     have hc5:mR g p A ρ0 (ds.drop (i+1))=some rest:=hc5
     obtain⟨k1,k2⟩:=keepT I9
     exact⟨ds.length- (i+1),by omega,i+1,xs,ad,σ8,H9,rfl,hlt,I9.unpinned,k1,k2,fg (q8.ext sm9),sm5.trans (s7'.trans sm9),sm9 _ _ (s7' _ _ ac5),rp5.mono w9,w5.trans w9,v5.trans w9,λj o=>na1 j (ow01 j o),rest,hc5,hy5⟩
    |true=>
     have hc5:((A ρ1).bind λys=>(mR g p A ρ0 (ds.drop (i+1))).map (ys++ ·))=some rest:=hc5
     cases e5:A ρ1 with
     |none=>rw[e5] at hc5;cases hc5
     |some zs=>
      rw[e5] at hc5;have hc5:(mR g p A ρ0 (ds.drop (i+1))).map (zs++ ·)=some rest:=hc5
      cases e6:mR g p A ρ0 (ds.drop (i+1)) with
      |none=>rw[e6] at hc5;cases hc5
      |some rest'=>
       rw[e6] at hc5;cases hc5
       have l1:=rp5.length
       have l2:=congrArg LY hy5
       simp only[Jf] at l2;refine hA ds[i] ρ1 e3 _ s9 σ8 H9 xs ad zs _ I9 (q8.ext sm9) (sm9 _ _ (s7' _ _ ac5)) (rp5.mono w9) (by omega) (sm5.trans (s7'.trans sm9)) (w5.trans w9) na1 e5 λs10 σ10 H10 xs' I10 q10 a10 rp10 smL v10 na10=>?_
       obtain⟨k1,k2⟩:=keepT I10
       exact⟨ds.length- (i+1),by omega,i+1,xs',ad++zs,σ10,H10,rfl,hlt,I10.unpinned,k1,k2,fg q10,smL,a10,rp10,(w5.trans w9).trans v10,(v5.trans w9).trans v10,λj o=>na10 j (ow01 j o),rest',e6,by rw[<-hy5];simp⟩
 ·have e:i=ds.length:=by omega
  subst e;rw[Kx (Ie _)] at hc5;cases hc5
  rw[JF] at hy5;subst hy5;refine bm (T.done Y rfl rfl rfl hcalm ds.length aa s5 σ5 H5 (λ_ _=>False) I5 (stat f5) st5 (io.2 H5 sm5 wH)) λr s6 hq_=>?_
  obtain⟨hr,I6⟩:=hq_
  subst hr;exact hR s6 σ5 H5 xs I6 sr5 sm5 ac5 rp5 v5 na5
end
def qY(f:FE):FA:=λρ=>(f ρ).map λd=>[d]
def y8(gi:FA)(g:FG)(p:FT)(f:FE):FA:=λρ1=>(gi ρ1).bind λds=>mR g p (qY f) ρ1 ds
def xB(m:Nat)(gi1:FA)(g1:FG)(p1:FT)(gi2:FA)(g2:FG)(p2:FT)(f:FE):FE:=λρ=>(gi1 ρ).bind λds=>(mR g1 p1 (y8 gi2 g2 p2 f) (ρ++Im m .no) ds).bind λys=>if ys.length<=Iy then some (.lst ys) else none
theorem xz {m:Nat}{gi1 gi2:FA}{g1 g2:FG}{p1 p2:FT}{f:FE}{ρ:aA}{d:D}(h:xB m gi1 g1 p1 gi2 g2 p2 f ρ=some d): ∃ds ys,gi1 ρ=some ds/\mR g1 p1 (y8 gi2 g2 p2 f) (ρ++Im m .no) ds=some ys/\ys.length<=Iy/\d=.lst ys:=by
 unfold xB at h;cases e1:gi1 ρ with
 |none=>rw[e1] at h;cases h
 |some ds=>
  rw[e1] at h;dsimp only[Mt] at h;cases e2:mR g1 p1 (y8 gi2 g2 p2 f) (ρ++Im m .no) ds with
  |none=>rw[e2] at h;cases h
  |some ys=>
   rw[e2] at h;dsimp only at h;split at h
   ·cases h;exact⟨ds,ys,rfl,e2, ‹_›,rfl⟩
   ·cases h
def yz(n:Nat)(g:FG):Prop:= ∀d (ρ0 ρ1:aA),g d ρ0=some ρ1-> ∀i:Nat,n<=i->ρ1[i]? =ρ0[i]?
def uZ(n:Nat)(g:vi):Prop:= ∀d (ρ0 ρ1:aA),g d ρ0=some ρ1-> ∀i:Nat,n<=i->ρ1[i]? =ρ0[i]?
theorem Fo {n i:Nat}(h:i<n):yz n (gN i):=λd ρ0 ρ1 e=>by
 cases e
 exact λj hj=>Iv (by omega)
theorem AN {n:Nat}:uZ n gb:=λd ρ0 ρ1 e=>by
 unfold gb at e;split at e
 ·cases e;exact λ_ _=>rfl
 ·cases e
theorem sP {n:Nat}{g:FG}{gs:vi}(h1:yz n g)(h2:uZ n gs):uZ n (cx g gs):=λd ρ0 ρ1 e=>by
 cases d with
 |nil=>cases e
 |cons d ds=>
  have e:(g d ρ0).bind (λρ'=>gs ds ρ')=some ρ1:=e
  cases e1:g d ρ0 with
  |none=>rw[e1] at e;cases e
  |some ρ2=>
   rw[e1] at e;exact λi hi=>(h2 ds ρ2 ρ1 e i hi).trans (h1 d ρ0 ρ2 e1 i hi)
theorem Gq {n m:Nat}{gs:vi}(h:uZ n gs):yz n (gT m gs):=λd ρ0 ρ1 e=>by
 unfold gT at e;split at e
 ·split at e
  ·exact h _ _ _ e
  ·cases e
 ·cases e
section
variable {prog:IP}{w:Jo}{A:Jc}{R:Nm->Ic->Prop}{s:Ic}{elt t1 t2 i1 i2:Expr}{ifs1 ifs2:List Expr}{scope:KO}{pos:Pos}{it acc:Ia}{env:Env}
theorem x0
 (h0:KZ (model prog w) A (.compLoop (.ListComp elt [⟨t1,i1,ifs1,0⟩,⟨t2,i2,ifs2,0⟩] scope pos) 1 it acc env) R s)
 (h:II (model prog w) A (PM it) (λit' s'=>KZ (model prog w) A (.compLoop (.ListComp elt [⟨t1,i1,ifs1,0⟩,⟨t2,i2,ifs2,0⟩] scope pos) 1 it' acc env) R s')
   (notedBy (model prog w) A env λx s'=>R (.error x) s') s):
 KZ (model prog w) A (.compStart (.ListComp elt [⟨t1,i1,ifs1,0⟩,⟨t2,i2,ifs2,0⟩] scope pos) 1 it acc env) R s:=by
 refine codeAny_of_tree (show II _ _ ((compStart (.ListComp elt [⟨t1,i1,ifs1,0⟩,⟨t2,i2,ifs2,0⟩] scope pos) 1 it acc env).onRaise (λx=>do Qw x env;NH theWindowsPlace)) _ _ s from wpAny_notedAt ?_)
 unfold compStart;show II _ _ (ask>>=_) _ _ s;refine HZ (wpAny_askSetting (wpAny_ite ?_))
 split
 ·first
   |exact HZ (Ih (Ih (Qz rfl h0)))
   |exact Ih (Qz rfl h0)
 ·first
   |exact HZ (KH (HZ (K2 (HZ (Ji h (λit' s' h'=>Ih (Qz rfl h')) λ_ _ x=>x)))))
   |(refine HZ (KH ?_);show II _ _ (NH i2.pos>>=_) _ _ s;exact HZ (K2 (HZ (Ji h (λit' s' h'=>Ih (Qz rfl h')) λ_ _ x=>x))))
end
section
variable {Y:Cx}{c:Ct}{elt t1 t2 i1 i2:Expr}{ifs1 ifs2:List Expr}{scope:KO}{pos:Pos}{f:FE}{g2:FG}{p2:FT}{gi2:FA}{hid:a7}{D0:Addr}{L W:Hp}{ρ1:aA}
theorem Aw(hxe:Y.xe=λ_ _=>False)(he:DP Y c .s elt f)(hh:hid D0=true)(h00:c.H₀ D0=none)(nD:L D0=none):yO Y c hid D0 L W (qY f) (vk Y.prog Y.w Y.A elt (.ref D0) Y.env) ρ1:=by
 intro aa s σ H xs ad zs Q I sr ac rp hz smL wv na hA hQ;unfold qY at hA;cases e5:f ρ1 with
 |none=>rw[e5] at hA;cases hA
 |some y=>
  rw[e5] at hA;cases hA;unfold vk;refine bm (hxe▸he hid ρ1 _ s σ H (λv H'=>Same H H'/\Rep Y.K (vw H' hid) v y) I ⟨sr,y,e5,λv H' s' r=>⟨s',r⟩⟩) λv s10 hq_=>?_
  obtain⟨z,H10,I10,rz,sm10,rp10⟩:=hq_
  have a10:H10 D0=some (.lst xs):=sm10 _ _ ac
  refine bm (hxe▸fR (X:=Y) _ s10 σ H10 (.ref D0) [z] (.ref D0) [v] (λ_ H'=>H'=aI H10 D0 (.lst (xs++[z]))) I10 rfl (.cons rz .nil) ⟨D0,xs,z,rfl,rfl,a10,by simp at hz;omega,rfl⟩) λ_ s11 ⟨_,H11,I11,_,e11⟩=>?_
  subst e11;have vv:vw (aI H10 D0 (.lst (xs++[z]))) hid=vw H10 hid:=bH hh
  have w10:Same (vw H hid) (vw H10 hid):=aD sm10
  refine hQ s11 σ _ (xs++[z]) I11 ((sr.ext sm10).write hh h00 na a10) ah ?_ (λb o e=>?_) ?_ na
  ·rw[vv];exact(rp.mono w10).append (.cons rp10 .nil)
  ·rw[af (aQ e nD)];exact sm10 _ _ (smL _ _ e)
  ·rw[vv];exact w10
theorem wZ(hcalm:Y.calm=true)(hxe:Y.xe=λ_ _=>False){n1:Nat}(hT:gD n1 g2)(hN:GJ n1 ρ1)(hi:DIp Y c t2 i2 gi2)(hg:qi Y c t2 g2)(hp:qc Y c ifs2 p2)(he:DP Y c .s elt f)(hh:hid D0=true)(h00:c.H₀ D0=none)(nD:L D0=none):
 yO Y c hid D0 L W (y8 gi2 g2 p2 f) (pN Y.prog Y.w Y.A (.ListComp elt [⟨t1,i1,ifs1,0⟩,⟨t2,i2,ifs2,0⟩] scope pos) i2 (.ref D0) Y.env) ρ1:=by
 intro aa s σ H xs ad zs Q I sr ac rp hz smL wv na hA hQ;unfold y8 at hA;cases e5:gi2 ρ1 with
 |none=>rw[e5] at hA;cases hA
 |some ds=>
  rw[e5] at hA;have hA:mR g2 p2 (qY f) ρ1 ds=some zs:=hA
  unfold pN;refine bm (hxe▸hi hid ρ1 aa s σ H (λJ H'=>Same H H'/\ItOk Y.K (vw H' hid) J ds) I ⟨sr,ds,e5,λJ H' s1 io=>⟨s1,io⟩⟩) λv s1 h1=>bm h1 λitv s2 h2=>?_
  obtain⟨it,fp,tn,J,H2,rfl,I2,T,st2,f2,sm,io⟩:=h2
  have l1:=rp.length
  have loop:KZ (model Y.prog Y.w) Y.A (.compLoop (.ListComp elt [⟨t1,i1,ifs1,0⟩,⟨t2,i2,ifs2,0⟩] scope pos) 1 (.ref it) (.ref D0) Y.env) (λr s'=>match r with
   | .ok _=>Q s'
   | .error _=>False) s2:=by
   refine qv (L:=L) (W:=vw H2 hid) (ad0:=ad) (xs0:=xs) (A:=qY f) (TA:=vk Y.prog Y.w Y.A elt (.ref D0) Y.env) hcalm hxe hT hg hp (λd ρ2 _=>Aw hxe he hh h00 nD) hN I2 (sr.ext sm) hh na (sm _ _ ac) (rp.mono (aD sm)) (smL.trans sm) (Same.refl _) T st2 f2 io.b (by omega) hA Am ?_
   intro s' σ' H' xs' I' sr' smL' ac' rp' v' na';exact hQ s' σ' H' xs' I' sr' ac' rp' smL' ((aD sm).trans v') na'
  exact x0 loop (T.self Y.A 0 _ _ _ st2 loop)
end
section
variable {X:Cx}{c:Ct}{elt t1 t2 i1 i2:Expr}{ifs1 ifs2:List Expr}{scope:KO}{pos:Pos}{N':List Str}{m n1:Nat}{gi1 gi2:FA}{g1 g2:FG}{p1 p2:FT}{f:FE}
theorem rB(hcalm:X.calm=true)(hk:scope.kind=.function)(hs:tq scope X.env.scope=true)(hn:tJ X.N N' scope=true)(hm:N'.length-X.N.length=m)(hT1:gD X.N.length g1)(hU1:yz n1 g1)(hn1:X.N.length<=n1)(hT2:gD n1 g2)
 (hset: ∀C s₀ H₀ ex,∀x,JE i2 (aC X N' scope C s₀ H₀ ex).env x=pure x)
 (hg1: ∀C s₀ H₀ ex,qi (aC X N' scope C s₀ H₀ ex) c t1 g1) (hp1: ∀C s₀ H₀ ex,qc (aC X N' scope C s₀ H₀ ex) c ifs1 p1) (hi2: ∀C s₀ H₀ ex,DIp (aC X N' scope C s₀ H₀ ex) c t2 i2 gi2)
 (hg2: ∀C s₀ H₀ ex,qi (aC X N' scope C s₀ H₀ ex) c t2 g2) (hp2: ∀C s₀ H₀ ex,qc (aC X N' scope C s₀ H₀ ex) c ifs2 p2) (he: ∀C s₀ H₀ ex,DP (aC X N' scope C s₀ H₀ ex) c .s elt f)
 {E:Ia->Ic->Prop} {aa:List (Addr×Obj)} {σ:St} {H:Hp} {s:Ic} {hid:a7} {ρ:aA} {J:It} {it:Addr} {fp:List Addr} {tn:Nat->Heap->Prop} {ds ys:List D} {RR:Ia->Addr->Nm->Ic->Prop}
 (I:Inv X aa σ H s) (sr:SR X.K c hid ρ σ H) (T:Turn X.prog X.w X.K t1 J fp it tn) (st:tn 0 s.heap) (hF: ∀b∈fp,fN X aa H b) (io:FP X.K H (vw H hid) J ds) (hz:ys.length<=Iy) (hc:mR g1 p1 (y8 gi2 g2 p2 f) (ρ++Im m .no) ds=some ys)
 (hR: ∀(D C:Addr) (s':Ic) (H':Hp) (xs:List V),s.heap.objs.size<=D->s.heap.objs.size<=C->D≠C->H D=none->Same H H'->H' D=some (.lst xs)->Reps X.K (vw H' (aJ hid D)) xs ys->(∃m,s'.heap.Ns C m)->H' C=none->s'.os=s.os->Mv s'.gens->HOk X.prog X.w H' s'.heap->Un (frs X.stack) fp H H' s.heap s'.heap->RR (.ref D) C (.ok .next) s'):
 II (model X.prog X.w) X.A (Ox []) (λacc s₃=>II (model X.prog X.w) X.A (Mz scope X.env.globals (o4 X.env.cells scope.names []) [] X.env.qual none .none (some X.env)) (λcenv s₄=>
  KZ (model X.prog X.w) X.A (.compStart (.ListComp elt [⟨t1,i1,ifs1,0⟩,⟨t2,i2,ifs2,0⟩] scope pos) 0 (.ref it) acc {cenv with scope:=My scope X.env}) (RR acc cenv.locals) s₄) E s₃) E s:=by
 refine Jw (o7 λh₁ hns₁ kp1 oc₁=>?_)
 dsimp only at hns₁ kp1 oc₁⊢
 generalize hH2:s.heap.push {cls:=.type "list",dict:=none,data:=.seq ([]:List Ia).toArray}=H2 at hns₁ kp1 oc₁⊢
 have hC:H2.objs.size=s.heap.objs.size+1:=by rw[<-hH2,J8]
 have hD:H s.heap.objs.size=none:=I.hok.fresh (Ie _)
 have I2:Inv X aa σ (aI H s.heap.objs.size (.lst [])) {s with heap:=H2}:=by
  rw[<-hH2];exact I.laid (t':=s.toks) (λb o e=>Ib _ e) (Ie _) ⟨Jh _,[],0,.nil,Io _ rfl⟩
 have fpLt: ∀b∈fp,b<s.heap.objs.size:=λb hb=>let⟨o,e,_⟩:=T.obj 0 s.heap st b hb;Ix e
 have hF2: ∀b∈fp,fN X aa (aI H s.heap.objs.size (.lst [])) b:=λb hb=>⟨by rw[af (IV (fpLt b hb))];exact(hF b hb).1,(hF b hb).2⟩
 have kp0: ∀b o,s.heap.get? b=some o->H2.get? b=some o:=λb o e=>by rw[<-hH2];exact Ib _ e
 have IY:=lY (tk:=s.toks) (N':=N') (fp:=fp) I2 hF2 (λb hb=>let⟨o,e,_⟩:=T.obj 0 s.heap st b hb;⟨o,kp0 b o e⟩) hk hs hn hns₁ kp1 oc₁
 rw[hm] at IY;dsimp only at IY;have sr0:SR X.K c (aJ hid s.heap.objs.size) (ρ++Im m .no) (σ++Im m none) (aI H s.heap.objs.size (.lst [])):=(sr.hide (aF hD _) hD ah).more m
 have hρ:ρ.length=X.N.length:=by rw[<-sr.len];exact I.len
 have nf:hid s.heap.objs.size=false:=sr.fresh hD
 have st1:tn 0 h₁:=T.keep _ _ _ st λb hb o e=>kp1 b o (kp0 b o e)
 have na0: ∀i:Nat,Ow (ρ++Im m Sl.no)[i]? ->(σ++Im m none)[i]? ≠some (some (V.ref s.heap.objs.size)):=(sr.more m).notOw nf
 have wv:Same (vw H hid) (vw (aI H s.heap.objs.size (.lst [])) (aJ hid s.heap.objs.size)):=by rw[mI hD];exact Same.refl _
 have nos:GJ X.N.length (ρ++Im m Sl.no):=λi s hi e=>by
  rw[IX (by omega),Jj] at e
  split at e
  ·cases e;rfl
  ·cases e
 have loop: ∀s4:Ic,s4={s with heap:=h₁,toks:=s.toks}->
  KZ (model X.prog X.w) X.A (.compLoop (.ListComp elt [⟨t1,i1,ifs1,0⟩,⟨t2,i2,ifs2,0⟩] scope pos) 0 (.ref it) (.ref s.heap.objs.size) (N6 scope (kF X.env.cells scope H2.objs.size) H2.objs.size X.env)) (RR (.ref s.heap.objs.size) H2.objs.size) s4:=by
  rintro s4 rfl
  have fpY: ∀b∈fp,fN (aC X N' scope H2.objs.size {s with heap:=H2} (aI H s.heap.objs.size (.lst [])) fp) [] (aI H s.heap.objs.size (.lst [])) b:=λb hb=>
   ⟨(hF2 b hb).1,(IY.ok.exf b hb).1,IY.ok.exfs b hb,.inl hb,(IY.ok.exf b hb).2,λq hq=>by have hq':q∈([]:List (Addr×Obj))++[]:=hq;simp at hq'⟩
  refine qv (Y:=aC X N' scope H2.objs.size {s with heap:=H2} (aI H s.heap.objs.size (.lst [])) fp) (L:=H) (hid:=aJ hid s.heap.objs.size) (W:=vw H hid) (ad0:=[]) (xs0:=[]) (A:=y8 gi2 g2 p2 f) (TA:=pN X.prog X.w X.A (.ListComp elt [⟨t1,i1,ifs1,0⟩,⟨t2,i2,ifs2,0⟩] scope pos) i2 (.ref s.heap.objs.size) (N6 scope (kF X.env.cells scope H2.objs.size) H2.objs.size X.env))
   hcalm rfl hT1 (hg1 _ _ _ _) (hp1 _ _ _ _) (λd ρ1 e=>wZ (Y:=aC X N' scope H2.objs.size {s with heap:=H2} (aI H s.heap.objs.size (.lst [])) fp) hcalm rfl hT2 (λi s hi e'=>?_) (hi2 _ _ _ _) (hg2 _ _ _ _) (hp2 _ _ _ _) (he _ _ _ _) bf (sr.fresh0 hD) hD) nos IY sr0 bf na0 ah .nil (aF hD _) wv T st1 fpY io (by simpa using hz) hc (wS (hset H2.objs.size {s with heap:=H2} (aI H s.heap.objs.size (.lst [])) fp)) ?_
  ·rw[hU1 _ _ _ e i hi] at e'
   exact nos i s (by omega) e'
  ·intro s' σ' H' xs I' _ sm' hx' rp' _ _
   have un1:Un (frs X.stack) fp H (aI H s.heap.objs.size (.lst [])) s.heap H2:=Un.laid (λb o e=>kp0 b o e) (Ie _) hD
   exact hR s.heap.objs.size H2.objs.size s' H' xs (Ie _) (by rw[hC];exact LZ _) (by rw[hC];exact IV (JT _)) hD sm' hx' rp' (let⟨m,hm,_⟩:=I'.loc;⟨m,hm⟩) I'.free I'.os I'.bare I'.hok (un1.trans I'.base)
 exact MA (loop _ rfl) (T.self X.A 0 _ _ _ st1 (loop _ rfl))
theorem Ag(hcalm:X.calm=true)(n1:Nat)(hT1:gD X.N.length g1)(hU1:yz n1 g1)(hT2:gD n1 g2)(hi:Gm X c t1 i1 gi1)
 (hg1: ∀C s₀ H₀ ex,qi (aC X N' scope C s₀ H₀ ex) c t1 g1) (hp1: ∀C s₀ H₀ ex,qc (aC X N' scope C s₀ H₀ ex) c ifs1 p1) (hi2: ∀C s₀ H₀ ex,DIp (aC X N' scope C s₀ H₀ ex) c t2 i2 gi2)
 (hg2: ∀C s₀ H₀ ex,qi (aC X N' scope C s₀ H₀ ex) c t2 g2) (hp2: ∀C s₀ H₀ ex,qc (aC X N' scope C s₀ H₀ ex) c ifs2 p2) (he: ∀C s₀ H₀ ex,DP (aC X N' scope C s₀ H₀ ex) c .s elt f)
 (hk:scope.kind=.function:=by rfl) (hs:tq scope X.env.scope=true:=by kernel_rfl) (hn:tJ X.N N' scope=true:=by kernel_rfl) (hm:N'.length-X.N.length=m:=by rfl) (hn1:X.N.length<=n1:=by exact IL rfl) (hset: ∀x,JE i1 X.env x=pure x:=by intro _;rfl)
 (hset2: ∀C s₀ H₀ ex,∀x,JE i2 (aC X N' scope C s₀ H₀ ex).env x=pure x:=by intros;rfl):
 DP X c .n (.ListComp elt [⟨t1,i1,ifs1,0⟩,⟨t2,i2,ifs2,0⟩] scope pos) (xB m gi1 g1 p1 gi2 g2 p2 f):=by
 intro hid ρ aa s σ H Q I hq;obtain⟨sr,d,hd,q⟩:=hq
 obtain⟨ds,ys,e1,hc,hz,rfl⟩:=xz hd
 rw[PB];refine KI (use:=none) rfl hset (ci λx hx=>I.ok.has x (eQ hs x hx)) hk (f9 hs) ?_
 refine bm (hi hid ρ aa s σ H (λJ H'=>Same H H'/\FP X.K H' (vw H' hid) J ds) I ⟨sr,ds,e1,λJ H' s1 io=>⟨s1,io⟩⟩) λv s1 h1=>bm h1 λitv s2 h2=>?_
 obtain⟨it,fp,tn,J,H2,rfl,I2,T,st2,f2,sm,io⟩:=h2
 refine rB (RR:=λacc C=>Qd (model X.prog X.w) X.A X.xe none (EP X aa σ Q) acc C) hcalm hk hs hn hm hT1 hU1 hn1 hT2 hset2 hg1 hp1 hi2 hg2 hp2 he I2 (sr.ext sm) T st2 f2 io hz hc ?_
 intro D C s' H' xs hDge hCge hDC hD sm' hx rp ⟨mm,hns⟩ hC' hos hbare hok hun;refine⟨mm,hns,λh' hsb=>⟨.ref D,H',?_,rfl,q _ H' (sm.trans sm') ⟨D,xs,ys,rfl,rfl,sm.free hD,hx,rp⟩⟩⟩
 have neC: ∀b o,s2.heap.get? b=some o->b≠C:=λb o e z=>by subst z;exact absurd (Ix e) (Lo.mpr hCge)
 have hun':Un (frs X.stack) fp H2 H' s2.heap h':=⟨λb o e n h1 h2=>(hsb.2 b (neC b o e)).trans (hun.keep b o e n h1 h2),λb o e n h1 h2=>let⟨sl,z⟩:=hun.slot b o e n h1 h2;⟨sl,(hsb.2 b (neC b o e)).trans z⟩,hun.free,λb o e h2=>let⟨o',z⟩:=hun.there b o e h2;⟨o',(hsb.2 b (neC b o e)).trans z⟩,hun.tups,hun.frzs,hun.tbls⟩
 have hok':HOk X.prog X.w H' h':=λb o e=>by
  have nb: ∀b' o',H' b'=some o'->b'≠C:=λb' o' e' z=>by subst z;rw[hC'] at e';cases e'
  refine(hok b o e).stay (λc' u hc' z=>(hsb.2 c' ?_).trans z) (λ_ z=>z) λ_ _ z=>z
  rcases hc' with z'|z'
  ·rw[z'];exact nb b o e
  ·exact nb c' _ z'
 exact I2.call' (s':={s' with heap:=h'}) (ch:=fp) hos hun' hok' hbare λb hb=>⟨(f2 b hb).2.2.2.1,(f2 b hb).2.1,(f2 b hb).2.2.2.2.1,(f2 b hb).2.2.2.2.2⟩
end
def gQ(ds:List D)(lo hi:Option Int):List D:=(ds.drop (HT.sIx ds.length 0 lo)).take (HT.sIx ds.length ds.length hi-HT.sIx ds.length 0 lo)
theorem rP {K:Il}{F:Hp}{xs:List V}{ds:List D}(r:Reps K F xs ds)(lo hi:Option Int):Reps K F (rA xs lo hi) (gQ ds lo hi):=by
 unfold rA gQ;rw[r.length];exact(r.drop _).take _
abbrev FO:=aA->Option (Option Int)
def HH(K:Il)(c:Ct)(hid:a7)(f:FO)(ρ:aA):TO:=λσ H Q=>SR K c hid ρ σ H/\ ∃o,f ρ=some o/\ ∀H',Same H H'->Q o H'
def DO(X:Cx)(c:Ct)(e:Option Expr)(f:FO):Prop:= ∀hid ρ,PO X e (HH X.K c hid f ρ)
theorem PO.imp {X:Cx}{e:Option Expr}{t t':TO}(h:PO X e t)(i: ∀σ H Q,t' σ H Q->t σ H Q):PO X e t':=λaa s σ H Q I q=>h aa s σ H Q I (i σ H Q q)
section
variable {X:Cx}{c:Ct}{e a b:Expr}{f g:FE}{k:Kd}{pos p2:Pos}{lo hi:Option Expr}{l u:FO}
def vU:FO:=λ_=>some none
def nM(f:FE):FO:=λρ=>(f ρ).bind λd=>match d with
 | .int i=>some (some i)
 |_=>none
theorem jA:DO X c none vU:=λhid ρ=>PO.imp BS λσ H Q ⟨sr,o,e,q⟩=>by cases e;exact q H (Same.refl _)
theorem gg(h:DP X c k e f):DO X c (some e) (nM f):=λhid ρ=>PO.imp (A4 (h hid ρ)) λσ H Q hq_=>by
 obtain⟨sr,o,e,q⟩:=hq_
 unfold nM at e;cases e1:f ρ with
 |none=>rw[e1] at e;cases e
 |some d=>
  rw[e1] at e;cases d with
  |int i=>
   cases e
   refine⟨sr,_,e1,λv H' s r=>⟨i,?_,q H' s⟩⟩
   exact(RK.b k r λa n=>sr.fresh n).int
  |_=>cases e
def gJ(f:FE)(l u:FO):FE:=λρ=>(f ρ).bind λd=>match d with
 | .lst ds=>(l ρ).bind λlo=>(u ρ).map λhi=>.lst (gQ ds lo hi)
 |_=>none
theorem oP(he:DP X c k e f)(hl:DO X c lo l)(hu:DO X c hi u):DP X c .n (.Subscript e (.Slice lo hi none p2) pos) (gJ f l u):=λhid ρ=>
 PE.imp (qf Bb (he hid ρ) (hl hid ρ) (hu hid ρ)) λσ H Q hq_=>by
  obtain⟨sr,d,hd,q⟩:=hq_
  unfold gJ at hd;cases e1:f ρ with
  |none=>rw[e1] at hd;cases hd
  |some z=>
   rw[e1] at hd;cases z with
   |lst ds=>
    have hd:((l ρ).bind λlo=>(u ρ).map λhi=>D.lst (gQ ds lo hi))=some d:=hd
    cases e2:l ρ with
    |none=>rw[e2] at hd;cases hd
    |some o1=>
     rw[e2] at hd;cases e3:u ρ with
     |none=>rw[e3] at hd;cases hd
     |some o2=>
      rw[e3] at hd;cases hd;refine⟨sr,_,e1,λv H1 s1 r1=>⟨sr.ext s1,o1,e2,λH2 s2=>⟨(sr.ext s1).ext s2,o2,e3,λH3 s3=>?_⟩⟩⟩
      obtain⟨a,xs,rfl,h1,h2⟩:=((RK.b k r1 λa n=>sr.fresh n).ext (s2.trans s3)).lst
      exact⟨a,xs,rfl,h1,λp hp=>q _ _ ((s1.trans (s2.trans s3)).trans (aF hp _)) (jk hp (s1.trans (s2.trans s3)) (rP h2 o1 o2))⟩
   |_=>cases hd
end
end L2
namespace PySem
open Sem (wp)
open AutoSeq1 (wpAny_loadPart')
section
variable {prog:IP}{w:Jo}{A:Jc}{E:Ia->Ic->Prop}{s:Ic}
theorem mj {it t:Addr}{i:Nat}{us}{x:Ia}{Q:Ia->Ic->Prop}(hit:s.heap.IsTupleIter it t i)(ht:s.heap.IsTuple t us)(hx:us[i]? =some x)
 (hQ: ∀g,g.IsTupleIter it t (i+1)->J9 it s.heap g->Q x {s with heap:=g}):II (model prog w) A (Kg (.ref it)) Q E s:=by
 obtain⟨o,ho,hc,hd⟩:=id hit
 obtain⟨ot,hot,_,nt,hdt⟩:=ht
 unfold Kg;refine HZ (JS (name:=Lz "__next__") hit.typeIs K7 (JX K7 hit.typeIs Nj (show II _ _ (Ry (.ref it) 0>>=_) _ _ s from HZ (KC ho hd (x:=.ref t) rfl ?_)) (M9 _)))
 show II _ _ (if(JD t==Jm)=true then _ else _) _ _ s
 rw[if_neg (show¬((JD t==Jm)=true) from Kq)];refine(show II _ _ (Ry (.ref it) 1>>=_) _ _ s from HZ (KC ho hd (x:=.int i 0) rfl (show II _ _ (seqItems? (.ref t)>>=_) _ _ s from HZ (Rz hot hdt ?_))))
 simp only[KP,hx];exact HZ (Nv ho hd (by simp) (Ih ⟨x,rfl,Ih (hQ _ ⟨_,Ki _ ho (LO (Mo hd _)),(Qi ..).trans hc,by rw[Mo hd];simp[MT]⟩ (KB ..))⟩))
theorem nB {it t:Addr}{i:Nat}{us}{Q:Ia->Ic->Prop}(hh:A.handled=none)(hit:s.heap.IsTupleIter it t i)(ht:s.heap.IsTuple t us)(hx:us[i]? =none)
 (hE: ∀g e,Pa it s.heap g->(∃o,g.get? e=some o/\o.cls=.type "StopIteration")->E (.ref e) {s with heap:=g}):II (model prog w) A (Kg (.ref it)) Q E s:=by
 obtain⟨o,ho,hc,hd⟩:=id hit
 obtain⟨ot,hot,_,nt,hdt⟩:=ht
 unfold Kg;refine HZ (JS (name:=Lz "__next__") hit.typeIs K7 (JX K7 hit.typeIs Nj (show II _ _ (Ry (.ref it) 0>>=_) _ _ s from HZ (KC ho hd (x:=.ref t) rfl ?_)) (M9 _)))
 show II _ _ (if(JD t==Jm)=true then _ else _) _ _ s
 rw[if_neg (show¬((JD t==Jm)=true) from Kq)];refine(show II _ _ (Ry (.ref it) 1>>=_) _ _ s from HZ (KC ho hd (x:=.int i 0) rfl (show II _ _ (seqItems? (.ref t)>>=_) _ _ s from HZ (Rz hot hdt ?_))))
 simp only[KP,hx];refine HZ (KH (HZ (Nv ho hd (by simp) (show II _ _ (Wt (.type "StopIteration") []>>=_) _ _ _ from HZ ?_))))
 simp only[Wt,UZ];refine HZ (Jw ?_ (by size_fits))
 refine HZ (m:=Nw _ _) (QQ (a:=Jm) (by first|rfl|(simp only[Nw];rfl)) (Jw ?_ (by size_fits)))
 simp only[raiseNew];refine HZ (Sh ?_)
 first|rw[show A.in1.handled=none from hh]|rw[hh]
 exact HZ (Ih (wpAny_throw (hE _ _ (((KB ..).extBut.push _).push _) ⟨_,Io _ rfl,rfl⟩)))
theorem pH {e it:Addr}{i:Nat}{x old:Ia}{N:Heap->Prop}{Q:Option Ia->Ic->Prop}(he:Na s.heap e it i old)(hne:e≠it)(hNk: ∀g g',N g->(∀o,g.get? it=some o->g'.get? it=some o)->N g')
 (nx: ∀(A':Jc) (Q':Ia->Ic->Prop) (E':Ia->Ic->Prop),(∀g,N g->J9 it s.heap g->Q' x {s with heap:=g})->II (model prog w) A' (Kg (.ref it)) Q' E' s)
 (hQ: ∀g,SB g e it ((i:Int)+1) x s.heap.objs.size->N g->g.get? s.heap.objs.size=some {cls:=.type "tuple",data:=.seq #[.int i s.toks,x]}->g.objs.size=s.heap.objs.size+1->
   (∀b o,b≠e->b≠it->s.heap.get? b=some o->g.get? b=some o)->Q (some (.ref s.heap.objs.size)) {s with heap:=g,toks:=s.toks+1}):II (model prog w) A (MS (.ref e)) Q E s:=by
 have hT:s.TypeIs (.ref e) "enumerate":=⟨_,he,rfl⟩
 unfold MS;refine HZ (MZ (JS (name:=Lz "__next__") hT LP (JX LP hT OA ?_ (Oc _))))
 obtain⟨hp,gn,dr,tk,os⟩:=s
 refine(show II _ _ (Ry (.ref e) 2>>=_) _ _ _ from HZ (KC he rfl (x:=.ref it) rfl (HZ (nx _ _ _ λg₁ n₁ b₁=>?_))))
 replace b₁:J9 it hp g₁:=b₁
 have e₁:Na g₁ e it i old:=(b₁.2 e hne).trans he
 refine(show II _ _ (Ry (.ref e) 3>>=_) _ _ ⟨g₁,gn,dr,tk,os⟩ from HZ (KC e₁ rfl (x:=MT i) rfl ?_))
 refine(show II _ _ (Ry (.ref e) 4>>=_) _ _ ⟨g₁,gn,dr,tk,os⟩ from HZ (KC e₁ rfl (x:=.none) rfl ?_))
 refine(show II _ _ (mkInt i>>=_) _ _ ⟨g₁,gn,dr,tk,os⟩ from HZ (wpAny_mkInt ?_))
 refine(show II _ _ (RA (.ref e) 3 (MT ((i:Int)+1))>>=_) _ _ ⟨g₁,gn,dr,tk+1,os⟩ from HZ (LD e₁ (by simp) λg₂ e₂ b₂=>?_))
 replace b₂:J9 e g₁ g₂:=b₂
 replace e₂:Na g₂ e it ((i:Int)+1) old:=e₂
 refine(show II _ _ (RA (.ref e) 4 .none>>=_) _ _ ⟨g₂,gn,dr,tk+1,os⟩ from HZ (LD e₂ (by simp) λg₃ e₃ b₃=>?_))
 replace b₃:J9 e g₂ g₃:=b₃
 replace e₃:Na g₃ e it ((i:Int)+1) old:=e₃
 refine(show II _ _ (UZ [.int i tk,x]>>=_) _ _ ⟨g₃,gn,dr,tk+1,os⟩ from HZ (O7 ?_))
 have z₃:g₃.objs.size=hp.objs.size:=by rw[b₃.1,b₂.1,b₁.1]
 have le:e<hp.objs.size:=Ix he
 have e₄:Na (g₃.push {cls:=.type "tuple",data:=.seq #[.int i tk,x]}) e it ((i:Int)+1) old:=Ib _ e₃
 have n₄:N (g₃.push {cls:=.type "tuple",data:=.seq #[.int i tk,x]}):=hNk _ _ n₁ λo ho=>Ib _ (b₃.extBut _ _ (IT hne) (b₂.extBut _ _ (IT hne) ho))
 have t₄:(g₃.push {cls:=.type "tuple",data:=.seq #[.int i tk,x]}).get? hp.objs.size=some {cls:=.type "tuple",data:=.seq #[.int i tk,x]}:=by rw[<-z₃];exact Io _ rfl
 have s₄:(g₃.push {cls:=.type "tuple",data:=.seq #[.int i tk,x]}).objs.size=hp.objs.size+1:=by rw[J8,z₃]
 have k₄: ∀b o,b≠e->b≠it->hp.get? b=some o->(g₃.push {cls:=.type "tuple",data:=.seq #[.int i tk,x]}).get? b=some o:=λb o h1 h2 h3=>Ib _ (b₃.extBut b o h1 (b₂.extBut b o h1 (b₁.extBut b o h2 h3)))
 generalize g₃.push {cls:=.type "tuple",data:=.seq #[.int i tk,x]}=g₄ at e₄ n₄ t₄ s₄ k₄
 rw[z₃];refine(show II _ _ (Mg (.ref e)>>=_) _ _ ⟨g₄,gn,dr,tk+1,os⟩ from HZ ?_)
 unfold Mg;refine HZ (KC e₄ rfl (x:=.none) rfl (Ih ?_))
 simp only[if_true];refine HZ (KH (HZ (KC e₄ rfl (x:=old) rfl (HZ (LD e₄ (by simp) λg₅ e₅ b₅=>?_)))))
 replace b₅:J9 e g₄ g₅:=b₅
 replace e₅:Na g₅ e it ((i:Int)+1) x:=e₅
 refine(show II _ _ (Ma (.ref e) (.ref hp.objs.size)>>=_) _ _ ⟨g₅,gn,dr,tk+1,os⟩ from HZ ?_)
 unfold Ma;refine HZ (LD e₅ (by simp) λg₆ e₆ b₆=>?_)
 replace b₆:J9 e g₅ g₆:=b₆
 replace e₆:SB g₆ e it ((i:Int)+1) x hp.objs.size:=e₆
 refine LD e₆ (by simp) λg₇ e₇ b₇=>?_
 replace b₇:J9 e g₆ g₇:=b₇
 replace e₇:SB g₇ e it ((i:Int)+1) x hp.objs.size:=e₇
 refine HZ (wpAny_letGo (Ih ⟨_,rfl,Ih (hQ g₇ e₇ (hNk _ _ n₄ λo ho=>?_) ?_ ?_ λb o h1 h2 h3=>?_)⟩))
 ·exact b₇.extBut _ _ (IT hne) (b₆.extBut _ _ (IT hne) (b₅.extBut _ _ (IT hne) ho))
 ·exact b₇.extBut _ _ (Kw le) (b₆.extBut _ _ (Kw le) (b₅.extBut _ _ (Kw le) t₄))
 ·rw[b₇.1,b₆.1,b₅.1,s₄]
 ·exact b₇.extBut b o h1 (b₆.extBut b o h1 (b₅.extBut b o h1 (k₄ b o h1 h2 h3)))
theorem qu {e it:Addr}{i:Nat}{old:Ia}{Q:Option Ia->Ic->Prop}(he:Na s.heap e it i old)
 (nx: ∀(A':Jc),A'.handled=A.handled-> ∀(Q':Ia->Ic->Prop) (E':Ia->Ic->Prop),(∀g x,Pa it s.heap g->(∃o,g.get? x=some o/\o.cls=.type "StopIteration")->E' (.ref x) {s with heap:=g})->II (model prog w) A' (Kg (.ref it)) Q' E' s)
 (hQ: ∀g,Pa it s.heap g->Q none {s with heap:=g}):II (model prog w) A (MS (.ref e)) Q E s:=by
 have hT:s.TypeIs (.ref e) "enumerate":=⟨_,he,rfl⟩
 unfold MS;refine HZ (MZ (JS (name:=Lz "__next__") hT LP (JX LP hT OA (show II _ _ (Ry (.ref e) 2>>=_) _ _ _ from HZ (KC he rfl (x:=.ref it) rfl (HZ (nx A.in1 rfl _ _ λg x k hx=>?_)))) (Oc _))))
 obtain⟨o,ho,hc⟩:=hx
 exact HZ (QB (T:="StopIteration") (b:=true) ⟨o,ho,hc⟩ RB (Ih (hQ _ k)))
end
set_option maxHeartbeats 1000000 in
theorem pI(l:Addr)(us:Array Ia)(n:Nat)(dct:Option Addr)(sl:Array (Option Ia)):
 Meets (NK.«enumerate.__new__» ⟨[.type "enumerate",.ref l],[]⟩) (λ_ R s=>s.heap.get? l=some {cls:=.type "tuple",dict:=dct,data:=.seq us n,slots:=sl}/\
  R (.ok (.ret (.ref (s.heap.push {cls:=.type "tuple_iterator",data:=.fields #[.ref l,.int 0 0]}).objs.size)))
   {s with heap:=(s.heap.push {cls:=.type "tuple_iterator",data:=.fields #[.ref l,.int 0 0]}).push {cls:=.type "enumerate",data:=.fields #[.none,.bool false,.ref s.heap.objs.size,MT 0,.none,.none]}}):=
 .of_wp λprog w A R s h=>by
  obtain⟨hp,g,d,tk,os⟩:=s;obtain⟨hl,h⟩:=h
  have hsub:=sub_enumerate
  have hL:Heap.IsTuple (Shared.heap ⟨hp,g,d,tk,os⟩) l us:=⟨_,hl,rfl,n,rfl⟩
  wp_walk using Lc hl
  refine wpAny_stack_any λst=>Ih ?_
  split
  ·rename_i c _ _ _ _ _
   cases (c==PJ "enumerate")
   ·wp_walk using Lc hl,Mm hL
    exact⟨_,rfl,h⟩
   ·wp_walk using Lc hl,Mm hL
    exact⟨_,rfl,h⟩
  ·wp_walk using Lc hl,Mm hL
   exact⟨_,rfl,h⟩
section
variable {prog:IP}{w:Jo}{A:Jc}{E:Ia->Ic->Prop}{s:Ic}
theorem nO {l:Addr}{us:Array Ia}{Q:Ia->Ic->Prop}(hL:s.heap.IsTuple l us)
 (h: ∀g,Na g (s.heap.objs.size+1) s.heap.objs.size 0 .none->g.IsTupleIter s.heap.objs.size l 0->g.objs.size=s.heap.objs.size+2->(∀b o,s.heap.get? b=some o->g.get? b=some o)->Q (.ref (s.heap.objs.size+1)) {s with heap:=g}):
 II (model prog w) A (call (.type "enumerate") [.ref l]) Q E s:=by
 obtain⟨⟨cls,dct,dat,sl⟩,ho,hc,n,hd⟩:=hL
 have hc:cls=.type "tuple":=hc
 have hd:dat=.seq us n:=hd
 subst hc hd;refine Qj PR (by decide) (OB _) (OV _) (λobj=>M4 obj _) OW (pI l us n dct sl) ⟨ho,?_⟩
 have hz:(s.heap.push {cls:=.type "tuple_iterator",data:=.fields #[.ref l,.int 0 0]}).objs.size=s.heap.objs.size+1:=J8 ..
 show _/\_;rw[hz];have he:Na ((s.heap.push {cls:=.type "tuple_iterator",data:=.fields #[.ref l,.int 0 0]}).push {cls:=.type "enumerate",data:=.fields #[.none,.bool false,.ref s.heap.objs.size,MT 0,.none,.none]}) (s.heap.objs.size+1) s.heap.objs.size 0 .none:=by
  have:=Io (s.heap.push {cls:=.type "tuple_iterator",data:=.fields #[.ref l,.int 0 0]}) (o:={cls:=.type "enumerate",data:=.fields #[.none,.bool false,.ref s.heap.objs.size,MT 0,.none,.none]}) rfl
  rw[hz] at this;exact this
 exact⟨⟨_,he,rfl⟩,h _ he ⟨_,Ib _ (Io _ rfl),rfl,rfl⟩ (by rw[J8,hz]) λb o x=>Ib _ (Ib _ x)⟩
end
end PySem
namespace L2
open PySem PySem.Spec PyProof.Rows
def Hv(K:Il)(a:Addr):It:=
 ⟨λi H=> ∃xs x,SqT K H a xs/\xs[i]? =some x,λi H x H'=> ∃T,x=.ref T/\H T=none/\ ∀xs,SqT K H a xs-> ∃y,xs[i]? =some y/\H'=aI H T (.tup [.int i,y]),λi H=> ∃xs,SqT K H a xs/\xs.length<=i⟩
theorem uB {P:IP}{w:Jo}{K:Il}{es:List Expr}{x1}{pos:Pos}(a it e:Addr)(hei:e≠it):Turn P w K (.Tuple es x1 pos) (Hv K a) [e,it] e (λi h=>(∃old,Na h e it i old)/\h.IsTupleIter it a i) where
 mem:=by simp
 obj:=λi h st b hb=>by
  obtain⟨⟨old,he⟩,o,ho,hc,hd⟩:=st
  rcases IC.mp hb with rfl|hb
  ·exact⟨_,he,λv z=>by cases z⟩
  ·have:b=it:=by simpa using hb
   subst this;exact⟨o,ho,λv z=>by rw[hd] at z;cases z⟩
 keep:=λi h h' st k=>by
  obtain⟨⟨old,he⟩,hit⟩:=st
  exact⟨⟨old,k e (by simp) _ he⟩,hit.at λo x=>k it (by simp) o x⟩
 item:=by
  intro X hP hw hK hc i aa s σ H E I hf st hg;subst hP hw hK;obtain⟨xs,x,hq,hx⟩:=hg
  obtain⟨its,rv,p,hz⟩:=I.tuple hq
  obtain⟨u,hu,ru⟩:=rv.get hx
  obtain⟨⟨old,he⟩,hit⟩:=st
  obtain⟨e0,e1,e2,e3,e4,e5⟩:=hf e (by simp)
  obtain⟨f0,f1,f2,f3,f4,f5⟩:=hf it (by simp)
  have ht:s.heap.IsTuple a its.toArray:=p
  refine pH (x:=u) (N:=λg=>g.IsTupleIter it a (i+1)) he hei (λg g' n k=>n.at k) (λA' Q' E' hq'=>mj hit ht (by simpa using hu) λg n b=>hq' g n b) λg hout hit' hT hsz hk=>⟨_,rfl,?_⟩
  refine Nx hout λg' he' hs'=>?_
  have elt:e<s.heap.objs.size:=Ix he
  have k2: ∀b o,b≠e->b≠it->s.heap.get? b=some o->g'.get? b=some o:=λb o h1 h2 h3=>(hs'.2 b h1).trans (hk b o h1 h2 h3)
  have hT':g'.get? s.heap.objs.size=some {cls:=.type "tuple",data:=.seq #[.int i s.toks,u]}:=(hs'.2 _ (Kw elt)).trans hT
  have hn:H s.heap.objs.size=none:=I.hok.fresh (Ie _)
  have I1:Inv X aa σ (aI H s.heap.objs.size (.tup [.int i,x])) {s with heap:=g',toks:=s.toks+1}:=by
   obtain⟨oi,hoi,hci,hdi⟩:=id (show g'.IsTupleIter it a (i+1) from hit'.at λo y=>(hs'.2 it (IT hei)).trans y)
   obtain⟨os0,hos0,_⟩:=id hit
   have ilt:it<s.heap.objs.size:=Ix hos0
   have I0:Inv X aa σ (aI H s.heap.objs.size (.tup [.int i,x])) {s with heap:=s.heap.push {cls:=.type "tuple",data:=.seq #[.int i s.toks,u]},toks:=s.toks+1}:=
    I.laid (t':=s.toks+1) (λb o q=>Ib _ q) (Ie _) (show ObjOk X.prog X.w _ _ _ (.tup [.int i,x]) from
     ⟨Le (fT (by simp)),[.int i s.toks,u],.cons ⟨_,rfl⟩ (.cons ru .nil),⟨_,Io _ rfl,rfl,_,rfl⟩,_,Io _ rfl,rfl⟩)
   have u1:((s.heap.push {cls:=.type "tuple",data:=.seq #[.int i s.toks,u]}).update it λ_=>oi).get? it=some oi:=Ki (λ_=>oi) (Ib _ hos0) (LO hdi)
   have I1:Inv X aa σ (aI H s.heap.objs.size (.tup [.int i,x])) {s with heap:=(s.heap.push {cls:=.type "tuple",data:=.seq #[.int i s.toks,u]}).update it λ_=>oi,toks:=s.toks+1}:=
    I0.turned (t':=s.toks+1) (λb o hb q=>(Ka _ _ (IT hb)).trans q) (by rw[af (IV ilt)];exact f0) f1 f3 f4 f5
   refine I1.turned (t':=s.toks+1) (λb o hb q=>?_) (by rw[af (IV elt)];exact e0) e1 e3 e4 e5
   by_cases hbi:b=it
   ·subst hbi
    have q':((s.heap.push {cls:=.type "tuple",data:=.seq #[.int i s.toks,u]}).update b λ_=>oi).get? b=some o:=q
    rw[u1] at q';cases q';exact hoi
   ·have q':((s.heap.push {cls:=.type "tuple",data:=.seq #[.int i s.toks,u]}).update it λ_=>oi).get? b=some o:=q
    rw[Ka _ _ (IT hbi)] at q'
    by_cases hbT:b=s.heap.objs.size
    ·subst hbT
     rw[Io _ rfl] at q';cases q'
     exact hT'
    ·rw[NP _ _ _ hbT] at q'
     exact k2 b o hb hbi q'
  refine⟨.ref s.heap.objs.size,aI H s.heap.objs.size (.tup [.int i,x]),I1,rfl,⟨_,rfl,hn,λys hy=>⟨x,by rw[I.tuple_inj hy hq];exact hx,rfl⟩⟩,⟨⟨u,by simpa using he'⟩,hit'.at λo y=>(hs'.2 it (IT hei)).trans y⟩,λb hb=>?_⟩
  rcases IC.mp hb with rfl|hb
  ·rw[af (IV elt)];exact e0
  ·have:b=it:=by simpa using hb
   subst this;obtain⟨o,ho,_⟩:=hit
   rw[af (IV (Ix ho))];exact f0
 done:=by
  intro X hP hw hK hc i aa s σ H E I hf st hg;subst hP hw hK;obtain⟨xs,hq,hx⟩:=hg
  obtain⟨its,rv,p,hz⟩:=I.tuple hq
  obtain⟨⟨old,he⟩,hit⟩:=st
  obtain⟨f0,f1,f2,f3,f4,f5⟩:=hf it (by simp)
  have hl:=rv.length
  have hh:=I.ok.hd hc
  refine qu he (λA' hA' Q' E' hq'=>nB (hA'.trans hh) hit (show s.heap.IsTuple a its.toArray from p) (by simp;omega) hq') λg k=>⟨rfl,I.turned (t':=s.toks) (λb o hb z=>k b o hb z) f0 f1 f3 f4 f5⟩
 self:=λ_ _ _ _ _ st h=>let⟨⟨_,he⟩,_⟩:=st;MC he h
section
variable {X:Cx}{c:Ct}{k:Kd}{es:List Expr}{x1:Nat}{tp pos p:Pos}
def js(ds:List D):List D:=(Iz ds.length).map λ(i:Nat)=>D.tup [.int i,ds.getD i .non]
def yd(f:FE):FA:=λρ=>(f ρ).bind λd=>match d with
 | .tup ds=>some (js ds)
 |_=>none
theorem wB {K:Il}{W:Hp}{a:Addr}{xs:List V}{ds:List D}(h1:SqT K W a xs)(h2:Reps K W xs ds):ItOk K W (Hv K a) (js ds):=by
 have l:=h2.length
 have el:(js ds).length=ds.length:=by simp[js]
 refine⟨λi d H e s=>?_,λH s=>⟨_,Same.seqT s h1,by rw[el,<-l];exact Ie _⟩⟩
 have hi:i<ds.length:=by rw[<-el];exact(IA.mp e).1
 have ex:xs[i]? =some xs[i]:=Ig (by omega)
 refine⟨⟨_,xs[i],Same.seqT s h1,ex⟩,λy H' ⟨T,e2,hT,e3⟩=>?_⟩
 subst e2;obtain⟨z,e4,e5⟩:=e3 _ (Same.seqT s h1)
 subst e5;refine⟨aF hT _,λhid tr sw=>?_⟩
 have hf:hid T=false:=by
  cases eh:hid T with
  |false=>rfl
  |true=>obtain⟨o,ho⟩:=tr T eh;rw[hT] at ho;cases ho
 obtain⟨d',e6,r6⟩:=h2.get' e4
 have ed:d=.tup [.int i,d']:=by
  unfold js at e;rw[Jd,Mb hi] at e;have:ds.getD i .non=d':=by simp[JH,e6]
  rw[Ld,this] at e;exact(Je e).symm
 rw[ed];exact eU hT hf (.cons .int (.cons (r6.mono sw) .nil))
theorem zX {iter:Expr}{f:FE}(h:DP X c .s iter f)(hm:X.mg "enumerate"=none)(hg:Gl X "enumerate":=by rfl)(hs:Iu [iter] X.env=[(false,eval iter X.env)]:=by rfl):DIp X c (.Tuple es x1 tp) (.Call (.Name "enumerate" p) [iter] [] pos) (yd f):=by
 intro hid ρ aa s σ H R I hq;obtain⟨sr,ds,hd,q⟩:=hq
 unfold yd at hd;cases e1:f ρ with
 |none=>rw[e1] at hd;cases hd
 |some z=>
  rw[e1] at hd;cases z with
  |tup us=>
   cases hd
   refine Call_ (jo (u:=.type "enumerate") I hg hm (by kernel_rfl) (Kt (bm (be (h hid ρ) cy hs pos aa s σ H (λvs H'=> ∃v,vs=[v]/\Same H H'/\Rep X.K (vw H' hid) v (.tup us)) I ⟨sr,_,e1,λv H' s' r=>⟨v,rfl,s',r⟩⟩) λvs s1 ⟨ws,H1,I1,r1,w,e,s',r⟩=>?_) hs rfl))
   subst e;cases r1 with
   |cons ra rb=>
    cases rb
    cases r with
    |tup t1 t2=>
     cases ra
     obtain⟨its,rv,pt,hz⟩:=I1.tuple (Same.seqT (bF _ _) t1)
     refine nO (show s1.heap.IsTuple _ its.toArray from pt) λg he hit hsz hk=>?_
     refine MC he ⟨_,[s1.heap.objs.size+1,s1.heap.objs.size],_,_,H1,rfl,I1.kept (t':=s1.toks) λb o e=>hk b o e,uB _ _ _ (Kw (JT _)),⟨⟨_,he⟩,hit⟩,λb hb=>?_,q _ H1 s' (wB t1 t2)⟩
     rcases IC.mp hb with rfl|hb
     ·exact I1.fpOk (LZ _) (I1.hok.fresh (LZ _))
     ·have:b=s1.heap.objs.size:=by simpa using hb
      subst this;exact I1.fpOk (Ie _) (I1.hok.fresh (Ie _))
  |_=>cases hd
end
open PySem PySem.W PySem.Calls PyProof.Rows
def qz(i:Nat)(g:FE):GE:=λρ=>match g ρ with
 |some (.lst zs)=>(match eI i ρ with
  |some bs=>if bs.length+zs.length<=Iy then some (.non,eK i (bs++zs) ρ) else none
  |none=>none)
 |_=>none
theorem xt {i:Nat}{g:FE}{ρ ρ':aA}{d:D}(h:qz i g ρ=some (d,ρ')): ∃zs bs,g ρ=some (.lst zs)/\eI i ρ=some bs/\bs.length+zs.length<=Iy/\d=.non/\ρ'=eK i (bs++zs) ρ:=by
 unfold qz at h;split at h
 ·split at h
  ·split at h
   ·cases h;exact⟨_,_, ‹_›, ‹_›, ‹_›,rfl,rfl⟩
   ·cases h
  ·cases h
 ·cases h
section
variable {X:Cx}{c:Ct}{e:Expr}{y:Str}{py apos pos:Pos}{g:FE}
theorem wx(i:Nat)(he:DP X c .n e g)
 (hN:X.N[i]? =some y:=by rfl) (hv:jw X.env.scope y:=by first|exact Jp rfl|exact IQ (Jp rfl)|exact IQ (IQ rfl)) (hd:(y==("__debug__":Str))=false:=by decide) (hcd:(y==("__classdict__":Str))=false:=by decide)
 (hbase:LK (.Name y py) "extend" X.env (eval (.Name y py) X.env)=eval (.Name y py) X.env:=by rfl)
 (hfew:((Ko pos (Iu [e] X.env)).all (λx=> !x.1)&&(P8 pos (NJ [] X.env)).all (λx=>x.1.isSome)
   &&decide ([e].length+([]:List Nh).length+(if([]:List Nh).isEmpty then 0 else 1)<30))=true:=by rfl)
 (hline:(apos.endLine==pos.line)=true:=by rfl) (hs:Iu [e] X.env=(false,eval e X.env)::Iu [] X.env:=by rfl) (hplain:(Ko pos (Iu [] X.env)).any (·.1)=false:=by rfl):
 DE X c .s (.Call (.Attribute (.Name y py) "extend" apos) [e] [] pos) (qz i g):=λhid ρ=>
 PE.imp (zE Mr NY NZ om (pv i hN hv hd hcd) (be (he hid ρ) cy hs) hbase hfew hline hs hplain) λσ H Q hq_=>by
  obtain⟨sr,d,ρ',hd',q⟩:=hq_
  obtain⟨zs,bs,e1,e2,e3,rfl,rfl⟩:=xt hd'
  obtain⟨a,xs0,a1,a2,a3,a4,a5⟩:=sr.held e2
  refine⟨.ref a,a1,.inl ⟨rfl,_,SqL.of a2⟩,sr,_,e1,λv H1 s1 r1=>?_⟩
  obtain⟨l,ws,ds',z,rfl,n1,n2,n3⟩:=r1
  cases z
  have rw1:Reps X.K (vw H1 hid) ws zs:=n3.mono (cL λb w=>aO w)
  have rx1:Reps X.K (vw H1 hid) xs0 bs:=a4.mono (aD s1)
  refine⟨a,l,xs0,ws,rfl,rfl,s1 _ _ a2,n2,by rw[rx1.length,rw1.length];exact e3,?_⟩
  have vv:vw (aI H1 a (.lst (xs0++ws))) hid=vw H1 hid:=bH a3
  refine q .non _ ⟨λb o z hb=>?_,(sr.ext s1).put e2 a1 (λb o z hb=>by rw[af hb];exact z) ah (by rw[vv];exact rx1.append rw1),.non⟩
  rw[af (λe=>by subst e;rw[a3] at hb;cases hb)]
  exact s1 _ _ z
end
def F5 {α:Type}(d:α)(n:Nat):Option α:=if n<=Iy then some d else none
def Ho {α:Type}(d:α)(n:Nat):Option α:=if n<Iy then some d else none
theorem fY {α:Type}{d:α}{n:Nat}(h:n<=1000):F5 d n=some d:=if_pos (Le (fT h))
theorem wT {α:Type}{d:α}{n:Nat}(h:n<=1000):Ho d n=some d:=if_pos (fT h)
theorem BV(fs:FA)(ρ:aA):bB fs ρ=(fs ρ).bind λds=>F5 (.tup ds) ds.length:=rfl
theorem pT(fs:FA)(ρ:aA):cn fs ρ=(fs ρ).bind λds=>F5 (.lst ds) ds.length:=rfl
theorem yo(m:Nat)(gi:FA)(g:FG)(p:FT)(f:FE)(ρ:aA):bJ m gi g p f ρ=(gi ρ).bind λds=>(F5 () ds.length).bind λ_=>(cr g p f (ρ++Im m .no) ds).map D.lst:=by
 unfold bJ F5;congr 1;funext ds
 split<;>rfl
theorem BR(bs:List D)(d:D):pG bs [d]=Ho (.non,bs++[d]) bs.length:=rfl
def FR(ds:List D):Option (List D):=match ds with
 | [.int j]=>if j.natAbs<4000000000 then some (sV 0 j.toNat) else none
 |_=>none
theorem qC(f:FA)(ρ:aA):cY f ρ=(f ρ).bind FR:=rfl
theorem qH {j:Int}(h:j.natAbs<=1000):FR [.int j]=some (sV 0 j.toNat):=by
 show(if j.natAbs<4000000000 then some (sV 0 j.toNat) else none)=_
 rw[if_pos (by omega)]
theorem dn(i j:Int):bt (.int i) (.int j)=some (.int (i+j)):=rfl
theorem mJ(i j:Int):lc (.int i) (.int j)=some (.int (i-j)):=rfl
theorem jY(i j:Int):Ax (.int i) (.int j)=some (.bl (decide (i<j))):=rfl
theorem Ch(i j:Int):EL (.int i) (.int j)=some (.bl (decide (j<i))):=rfl
theorem vA(i j:Int):Gn (.int i) (.int j)=some (.bl (decide (j<=i))):=rfl
theorem cZ {i j:Int}(h:0<j):bY (.int i) (.int j)=some (.int (i % j)):=by
 unfold bY i2;dsimp only;rw[if_pos (by simpa using h)]
theorem tR {n:Nat}(h:n<10^200):n<2^1000:=IJ h (by decide)
theorem cj {i j:Int}(h1:i.natAbs<10^200)(h2:j.natAbs<10^200):bz (.int i) (.int j)=some (.int (i*j)):=by
 unfold bz i2;dsimp only;rw[if_pos (by rw[decide_eq_true (tR h1),decide_eq_true (tR h2)];rfl)]
theorem oD {i j:Int}(h1:0<j)(h2:j.natAbs<10^200):jG (.int i) (.int j)=some (.int (i / j)):=by
 unfold jG i2;dsimp only;rw[if_pos (by rw[decide_eq_true h1,decide_eq_true (tR h2)];rfl)]
theorem jy {i j:Int}(h0:0<=j)(h1:j<=1000000)(h2:i.natAbs<2^64):df (.int i) (.int j)=some (.int (i^j.toNat)):=by
 unfold df i2;dsimp only;rw[if_pos (by rw[decide_eq_true h0,decide_eq_true h1,decide_eq_true h2];rfl)]
theorem mU {x y:D}(h:dh x<=32):xF x y=some (.bl (dC x y)):=if_pos h
theorem tF {x y:D}(h:dh x<=32):nl x y=some (.bl (!dC x y)):=if_pos h
theorem gj(i j:Int):dC (.int i) (.int j)=decide (i=j):=by
 unfold dC;rw[OM];simp
theorem eM(i:Int):dh (.int i)=0:=by unfold dh;rfl
structure Bag(N:Nat)(a b:Int):Prop where
 a0:0<=a
 a1:a.natAbs<10^180
 b0:0<=b
 b1:b<=N
 lo:b≠0->a.natAbs<2147483647
abbrev a8(a b:Int):List D:=[.int a,.int b]
def pP:FS:=
 aS (gO (cs (aB Ax (ao 1) (aq dB (ae (ao 0) (ag))))) (bo (aB en (ao 0) (ao 1))) (skip))
 (bo (ax (.int 0)))
def fm:List D->Option D:=j7 .s 2 pP
def zc:FS:=
 aS (cS 2 (aB bY (aq nC (ae (aq (nF 2 fm) (ae (ao 0) (ae (ao 1) (ag)))) (ag))) (aB bz (aB bz (aB df (ax (.int 10)) (ax (.int 60))) (aB df (ax (.int 10)) (ax (.int 60)))) (aB df (ax (.int 10)) (ax (.int 60))))))
 (aS (gO (cs (aB Gn (ao 2) (aB df (ax (.int 10)) (ax (.int 18))))) (bo (cn (ae (ao 2) (ae (ax (.int 0)) (ag))))) (skip))
 (aS (cS 3 (aB bY (aB bt (aB bt (ao 2) (aB bz (ax (.int 7919)) (ao 1))) (ax (.int 17))) (ax (.int 2147483647))))
 (aS (cD (b9 (cY (ae (aq my (ae (aq dB (ae (ao 0) (ag))) (ae (ax (.int 9)) (ag)))) (ag)))) (gN 4) (cS 3 (aB bY (aB bt (aB bt (aB df (ao 3) (ax (.int 5))) (aB bY (aB en (ao 0) (ao 4)) (ax (.int 2147483629)))) (aB bz (ax (.int 31)) (ao 4))) (ax (.int 2147483647)))))
 (bo (cn (ae (ao 3) (ae (ax (.int 1)) (ag))))))))
def zb:List D->Option D:=j7 .n 5 zc
def oQ:FS:=
 aS (gO (cs (aB xF (aB en (iL 0) (ax (.int 1))) (ax (.int 0)))) (aS (cS 2 (aB bY (aB en (iL 0) (ax (.int 0))) (ao 1)))
 (aS (jX (eS 0 (ax (.int 0))) (pu (aB jG (aB en (iL 0) (ax (.int 0))) (ao 1))))
 (bo (ao 2)))) (skip))
 (aS (jX (eS 0 (ax (.int 0))) (pu (aB bY (aB bt (aB bt (aB df (aB en (iL 0) (ax (.int 0))) (ax (.int 5))) (aB bz (ax (.int 48271)) (aB en (iL 0) (ax (.int 1))))) (ax (.int 11))) (ax (.int 2147483647)))))
 (aS (jX (eS 0 (ax (.int 1))) (pu (aB bt (aB en (iL 0) (ax (.int 1))) (ax (.int 1)))))
 (bo (aB bY (aB jG (aB bY (aB bz (aB en (iL 0) (ax (.int 0))) (ax (.int 69621))) (ax (.int 2147483629))) (ax (.int 8))) (ao 1)))))
def pJ:List D->List D->Option (D×List D):=AA .s 3 oQ
theorem dJ {i m:Int}(h:0<m):0<=i % m/\i % m<m:=⟨Int.emod_nonneg _ (by omega),Int.emod_lt_of_pos _ h⟩
theorem iU {N:Nat}{a b m:Int}(B:Bag N a b)(hN:N<=1000000000)(hm:0<m)(hm2:m.natAbs<10^20): ∃d a' b',pJ (a8 a b) [.int m]=some (.int d,a8 a' b')/\Bag (N+1) a' b'/\0<=d/\d<m:=by
 have hm3:m.natAbs<10^200:=IJ hm2 (by decide)
 by_cases hb:b=0
 ·subst hb
  refine⟨a % m,a / m,0,?_,⟨Q6 B.a0 (by omega),?_,by omega,by omega,λz=>absurd rfl z⟩,dJ hm⟩
  ·simp[pJ,AA,oQ,o9,a8,aS,gO,cs,aB,en,iL,ao,ax,mU,gj,eM,Bv,rG,wl,cS,cZ hm,jX,pu,oD hm hm3,eS,eI,eK,Es,bo,nA]
  ·have h1:=B.a1
   have:a / m<=a:=Int.ediv_le_self _ B.a0
   have:0<=a / m:=Q6 B.a0 (by omega)
   omega
 ·have lo:=B.lo hb
  have p1:a.natAbs<2^64:=Th lo (by decide)
  have p2:b.natAbs<10^200:=IJ (show b.natAbs<10^10 by have:=B.b1;have:=B.b0;omega) (by decide)
  generalize hA:(a^5+48271*b+11) % 2147483647=A
  have hA':0<=A/\A<2147483647:=by rw[<-hA];exact dJ (by decide)
  have p3:A.natAbs<10^200:=IJ (show A.natAbs<10^10 by omega) (by decide)
  refine⟨A*69621 % 2147483629 / 8 % m,A,b+1,?_,⟨hA'.1,?_,by have:=B.b0;omega,by have:=B.b1;omega,λ_=>by omega⟩,dJ hm⟩
  ·have c1:(48271:Int).natAbs<10^200:=IJ (show(48271:Int).natAbs<10^10 by decide) (by decide)
   have c2:(69621:Int).natAbs<10^200:=IJ (show(69621:Int).natAbs<10^10 by decide) (by decide)
   have c3:(8:Int).natAbs<10^200:=IJ (show(8:Int).natAbs<10^10 by decide) (by decide)
   have e1:df (.int a) (.int 5)=some (.int (a^5)):=jy (by decide) (by decide) p1
   have e2:bz (.int 48271) (.int b)=some (.int (48271*b)):=cj c1 p2
   have e3: ∀i:Int,bY (.int i) (.int 2147483647)=some (.int (i % 2147483647)):=λi=>cZ (by decide)
   have e4: ∀i:Int,bY (.int i) (.int 2147483629)=some (.int (i % 2147483629)):=λi=>cZ (by decide)
   have e5:bz (.int A) (.int 69621)=some (.int (A*69621)):=cj p3 c2
   have e6: ∀i:Int,jG (.int i) (.int 8)=some (.int (i / 8)):=λi=>oD (by decide) c3
   simp[pJ,AA,oQ,o9,a8,aS,gO,cs,aB,en,iL,ao,ax,mU,gj,eM,Bv,rG,wl,hb,skip,e1,e2,e3,e4,dn,jX,pu,eS,eI,eK,Es,bo,nA,hA,e5,e6,cZ hm]
  ·exact IJ (show A.natAbs<10^10 by omega) (by decide)
theorem aX {t u:FS}{ρ ρ':aA}(h:t ρ=.nx ρ'):aS t u ρ=u ρ':=by unfold aS;rw[h]
abbrev nI(i:Nat):D:=.int (i:Int)
abbrev fo(ns:List Int):D:=.scr (ns.map D.int)
theorem CH(n:Nat):sV 0 n=(Iz n).map nI:=by
 unfold sV;simp
theorem jB {n j:Nat}(h:j<n):wl n (j:Int)=some j:=by
 unfold wl;rw[if_pos (by omega),if_pos (by omega)];simp
theorem AX(ns:List Int)(k:Nat): ∃c,fm [fo ns,nI k]=some (.int c):=by
 by_cases h:k<ns.length
 ·refine⟨ns[k],?_⟩
  simp[fm,j7,pP,i7,aS,gO,cs,aB,ao,aq,ae,ag,dB,jY,Bv,h,bo,en,rG,jB (show k<(ns.map D.int).length by simpa using h)]
  simp[jB h,h]
 ·refine⟨0,?_⟩
  simp[fm,j7,pP,i7,aS,gO,cs,aB,ao,aq,ae,ag,dB,jY,Bv,h,bo,skip,ax]
theorem qx(ns:List Int)(k:D)(c:D): ∀(l:List Nat),(∀i∈l,i<ns.length/\i<1000)-> ∀(x:Int) (s4:Sl),0<=x->x<2147483647-> ∃(x':Int) (s4':Sl),0<=x'/\x'<2147483647/\
 dZ (gN 4) (cS 3 (aB bY (aB bt (aB bt (aB df (ao 3) (ax (.int 5))) (aB bY (aB en (ao 0) (ao 4)) (ax (.int 2147483629)))) (aB bz (ax (.int 31)) (ao 4))) (ax (.int 2147483647)))) (l.map nI) [.v (fo ns),.v k,.v c,.v (.int x),s4]=.nx [.v (fo ns),.v k,.v c,.v (.int x'),s4']
 | [],_,x,s4,h1,h2=>⟨x,s4,h1,h2,rfl⟩
 |i::l,hl,x,s4,h1,h2=>by
  obtain⟨hi,hi2⟩:=hl i (by simp)
  have e1:df (.int x) (.int 5)=some (.int (x^5)):=jy (by decide) (by decide) (IJ (show x.natAbs<10^10 by omega) (by decide))
  have e2:bz (.int 31) (nI i)=some (.int (31*i)):=cj (IJ (show(31:Int).natAbs<10^10 by decide) (by decide)) (IJ (show(i:Int).natAbs<10^10 by omega) (by decide))
  have e3: ∀i:Int,bY (.int i) (.int 2147483647)=some (.int (i % 2147483647)):=λi=>cZ (by decide)
  have e4: ∀i:Int,bY (.int i) (.int 2147483629)=some (.int (i % 2147483629)):=λi=>cZ (by decide)
  obtain⟨y1,y2⟩:=dJ (i:=x^5+ns[i] % 2147483629+31*i) (m:=2147483647) (by decide)
  obtain⟨x',s4',g1,g2,g3⟩:=qx ns k c l (λj hj=>hl j (by simp[hj])) _ (.v (nI i)) y1 y2
  refine⟨x',s4',g1,g2,?_⟩
  rw[<-g3];simp[dZ,gN,cS,aB,ao,ax,e1,e2,e3,e4,en,rG,jB (show i<(ns.map D.int).length by simpa using hi),jB hi,hi,dn]
theorem Em(ns:List Int)(k:Nat)(hk:k<=1000)(hn:ns.length<=63): ∃a b,zb [fo ns,nI k]=some (.lst (a8 a b))/\Bag 1 a b:=by
 obtain⟨c,hc⟩:=AX ns k
 have p1:df (.int 10) (.int 60)=some (.int (10^60)):=jy (by decide) (by decide) (by decide)
 have p2:df (.int 10) (.int 18)=some (.int (10^18)):=jy (by decide) (by decide) (by decide)
 have q60:((10:Int)^60).natAbs<10^200:=by decide
 have q120:((10:Int)^60*10^60).natAbs<10^200:=by decide
 have m1:bz (.int (10^60)) (.int (10^60))=some (.int (10^60*10^60)):=cj q60 q60
 have m2:bz (.int (10^60*10^60)) (.int (10^60))=some (.int (10^60*10^60*10^60)):=cj q120 q60
 have m3:bz (.int 7919) (nI k)=some (.int (7919*k)):=cj (IJ (show(7919:Int).natAbs<10^10 by decide) (by decide)) (IJ (show(k:Int).natAbs<10^10 by omega) (by decide))
 generalize hA:(if c<0 then -c else c) % (10^60*10^60*10^60)=A
 have hA':0<=A/\A<10^60*10^60*10^60:=by rw[<-hA];exact dJ (by decide)
 have s1:cS 2 (aB bY (aq nC (ae (aq (nF 2 fm) (ae (ao 0) (ae (ao 1) (ag)))) (ag))) (aB bz (aB bz (aB df (ax (.int 10)) (ax (.int 60))) (aB df (ax (.int 10)) (ax (.int 60)))) (aB df (ax (.int 10)) (ax (.int 60))))) [.v (fo ns),.v (nI k),.no,.no,.no]=.nx [.v (fo ns),.v (nI k),.v (.int A),.no,.no]:=by
  have m4: ∀i:Int,bY (.int i) (.int (10^60*10^60*10^60))=some (.int (i % (10^60*10^60*10^60))):=λi=>cZ (by decide)
  unfold cS;have:aB bY (aq nC (ae (aq (nF 2 fm) (ae (ao 0) (ae (ao 1) (ag)))) (ag))) (aB bz (aB bz (aB df (ax (.int 10)) (ax (.int 60))) (aB df (ax (.int 10)) (ax (.int 60)))) (aB df (ax (.int 10)) (ax (.int 60)))) [.v (fo ns),.v (nI k),.no,.no,.no]=some (.int A):=by
   have ec:aq (nF 2 fm) (ae (ao 0) (ae (ao 1) ag)) [.v (fo ns),.v (nI k),.no,.no,.no]=some (.int c):=hc
   simp only[aB,aq,ae,ag,ax,IB,p1,m1,m2,nC];have ec':((ao 0 [.v (fo ns),.v (nI k),.no,.no,.no]).bind λd=>((ao 1 [.v (fo ns),.v (nI k),.no,.no,.no]).bind λd=>(some []).map λr=>d::r).map λr=>d::r).bind (nF 2 fm)=some (.int c):=hc
   rw[ec'];simp only[IB,Ld,m4,nC,hA]
  rw[this];rfl
 have r0:i7 5 [fo ns,nI k]=[.v (fo ns),.v (nI k),.no,.no,.no]:=rfl
 unfold zb j7 zc;rw[r0,aX s1];have hA180:A.natAbs<10^180:=by
  have:(10:Int)^60*10^60*10^60=((10^180:Nat):Int):=by decide
  rw[this] at hA';omega
 by_cases hb:(10:Int)^18<=A
 ·refine⟨A,0,?_,⟨hA'.1,hA180,by decide,by decide,λz=>absurd rfl z⟩⟩
  simp only[aS,gO,cs,aB,ao,Lv,KR,IB,ax,p2,vA,Bv,decide_eq_true hb,bo,pT,ae,ag,Ld];rw[fY (by simp)]
 ·generalize hx:(A+7919*(k:Int)+17) % 2147483647=x
  have hx':0<=x/\x<2147483647:=by rw[<-hx];exact dJ (by decide)
  have m4:bY (.int (A+7919*(k:Int)+17)) (.int 2147483647)=some (.int x):=by rw[cZ (by decide),hx]
  have hr:cY (ae (aq my (ae (aq dB (ae (ao 0) (ag))) (ae (ax (.int 9)) (ag)))) (ag)) [.v (fo ns),.v (nI k),.v (.int A),.v (.int x),.no]=some ((Iz (min ns.length 9)).map nI):=by
   rw[qC];simp only[aq,ae,ag,ao,ax,KR,IB,Ld,dB,my,Ir];have:(if(9:Int)<(ns.length:Int) then(9:Int) else(ns.length:Int))=((min ns.length 9:Nat):Int):=by split<;>omega
   rw[this,qH (by omega),CH,KP]
  obtain⟨x',s4',g1,g2,g3⟩:=qx ns (nI k) (.int A) (Iz (min ns.length 9)) (λi hi=>by have:=JB.mp hi;omega) x .no hx'.1 hx'.2
  refine⟨x',1,?_,⟨g1,IJ (show x'.natAbs<10^10 by omega) (by decide),by decide,by decide,λ_=>by omega⟩⟩
  have f1:cD (b9 (cY (ae (aq my (ae (aq dB (ae (ao 0) (ag))) (ae (ax (.int 9)) (ag)))) (ag)))) (gN 4) (cS 3 (aB bY (aB bt (aB bt (aB df (ao 3) (ax (.int 5))) (aB bY (aB en (ao 0) (ao 4)) (ax (.int 2147483629)))) (aB bz (ax (.int 31)) (ao 4))) (ax (.int 2147483647)))) [.v (fo ns),.v (nI k),.v (.int A),.v (.int x),.no]=.nx [.v (fo ns),.v (nI k),.v (.int A),.v (.int x'),s4']:=by
   unfold cD b9;rw[hr];exact g3
  have i1:gO (cs (aB Gn (ao 2) (aB df (ax (.int 10)) (ax (.int 18))))) (bo (cn (ae (ao 2) (ae (ax (.int 0)) (ag))))) (skip) [.v (fo ns),.v (nI k),.v (.int A),.no,.no]=.nx [.v (fo ns),.v (nI k),.v (.int A),.no,.no]:=by
   simp only[gO,cs,aB,ao,Lv,KR,IB,ax,p2,vA,Bv,decide_eq_false hb,skip]
  have i2:cS 3 (aB bY (aB bt (aB bt (ao 2) (aB bz (ax (.int 7919)) (ao 1))) (ax (.int 17))) (ax (.int 2147483647))) [.v (fo ns),.v (nI k),.v (.int A),.no,.no]=.nx [.v (fo ns),.v (nI k),.v (.int A),.v (.int x),.no]:=by
   simp only[cS,aB,ao,Lv,KR,IB,ax,m3,dn,m4,List.set_cons_succ,List.set_cons_zero]
  rw[aX i1,aX i2,aX f1];simp only[bo,pT,ae,ag,ao,ax,Lv,KR,IB,Ld];rw[fY (by simp)]
theorem eE {i n:Nat}{M:List D->List D->Option (D×List D)}{fs:GA}{ρ ρ1:aA}{b0 bs ds bs':List D}{d:D}(h0:eI i ρ=some b0)(h1:fs ρ=some (ds,ρ1))(h2:eI i ρ1=some bs)(h3:ds.length=n)(h4:M bs ds=some (d,bs')):bu i n M fs ρ=some (d,eK i bs' ρ1):=by
 unfold bu;rw[h0];dsimp only;rw[h1];dsimp only;rw[h2];dsimp only;rw[if_pos h3,h4]
theorem jS {f:GE}{fs:GA}{ρ ρ1 ρ2:aA}{d:D}{ds:List D}(h1:f ρ=some (d,ρ1))(h2:fs ρ1=some (ds,ρ2)):eX f fs ρ=some (d::ds,ρ2):=by
 unfold eX bE;rw[h1];dsimp only[Mt];rw[h2];rfl
theorem bG {f:FA}{ρ:aA}{ds:List D}(h:f ρ=some ds):b9 f ρ=some (ds,ρ):=by unfold b9;rw[h];rfl
theorem wq {f:FE}{ρ:aA}{d:D}(h:f ρ=some d):pu f ρ=some (d,ρ):=by unfold pu;rw[h];rfl
structure Ord(n:Nat)(r:List Nat):Prop where
 perm:r.Perm (Iz n)
theorem aW {F:D->D->Option D}{f g:FE}{ρ:aA}{x y:D}(h1:f ρ=some x)(h2:g ρ=some y):aB F f g ρ=F x y:=by unfold aB;rw[h1,IB,h2,IB]
theorem lx {F:D->D->Option D}{f g:GE}{ρ ρ1 ρ2:aA}{x y d:D}(h1:f ρ=some (x,ρ1))(h2:g ρ1=some (y,ρ2))(h3:F x y=some d):fA F f g ρ=some (d,ρ2):=by
 unfold fA bE;rw[h1];dsimp only[Mt];rw[h2];dsimp only[Mt];rw[h3];rfl
theorem pg {i:Nat}{f:FE}{ρ:aA}{d:D}(h:f ρ=some d):cS i f ρ=.nx (ρ.set i (.v d)):=by unfold cS;rw[h]
theorem vM {i:Nat}{f:GE}{ρ ρ1:aA}{d:D}(h:f ρ=some (d,ρ1)):sk i f ρ=.nx (ρ1.set i (.v d)):=by unfold sk;rw[h]
theorem AS {i:Nat}{f:GE}{ρ ρ1:aA}{ds:List D}(h:f ρ=some (.lst ds,ρ1)):xl i f ρ=.nx (ρ1.set i (.own ds)):=by unfold xl;rw[h];rfl
theorem iR {i:Nat}{f:FE}{ρ:aA}{ds:List D}(h:f ρ=some (.lst ds)):fL i f ρ=.nx (ρ.set i (.own ds)):=by unfold fL;rw[h];rfl
theorem dU {f:FA}{ρ:aA}{ds:List D}(h:f ρ=some ds)(h2:ds.length<=1000):bB f ρ=some (.tup ds):=by
 rw[BV,h,IB,fY h2]
theorem gE {f:FA}{ρ:aA}{ds:List D}(h:f ρ=some ds)(h2:ds.length<=1000):cn f ρ=some (.lst ds):=by
 rw[pT,h,IB,fY h2]
theorem aK {f:FE}{fs:FA}{ρ:aA}{d:D}{ds:List D}(h1:f ρ=some d)(h2:fs ρ=some ds):ae f fs ρ=some (d::ds):=by unfold ae;rw[h1,h2];rfl
theorem fQ {F:List D->Option D}{f:FA}{ρ:aA}{ds:List D}(h:f ρ=some ds):aq F f ρ=F ds:=by unfold aq;rw[h];rfl
theorem zS {i:Nat}{fi:FE}{d:D}{ρ:aA}{bs:List D}{j:Nat}(h1:eI i ρ=some bs)(h2:fi ρ=some (nI j))(h3:j<bs.length):eS i fi d ρ=some (eK i (bs.set j d) ρ):=by
 unfold eS;rw[h1];dsimp only;rw[h2];dsimp only;rw[jB h3]
theorem dL {α:Type}{g:FG}{f:FE}{ρ0:aA}{h o:α->D}: ∀(l:List α),(∀i∈l,∃ρ1,g (h i) ρ0=some ρ1/\f ρ1=some (o i))->cr g cB f ρ0 (l.map h)=some (l.map o)
 | [],_=>rfl
 |a::l,H=>by
  obtain⟨ρ1,h1,h2⟩:=H a (by simp)
  have ih:=dL l λi hi=>H i (by simp[hi])
  rw[Ip];unfold cr;rw[h1,IB];simp only[cB,IB,if_true,h2,ih];rfl
theorem cV {m:Nat}{gi:FA}{g:FG}{p:FT}{f:FE}{ρ:aA}{ds ys:List D}(h1:gi ρ=some ds)(h2:ds.length<=1000)(h3:cr g p f (ρ++Im m .no) ds=some ys):bJ m gi g p f ρ=some (.lst ys):=by
 rw[yo,h1,IB,fY h2,IB,h3];rfl
abbrev uA(r:List Nat):D:=.tup (r.map nI)
theorem j6 {f:FA}{ρ:aA}{n:Nat}(h:f ρ=some [nI n])(hn:n<=1000):cY f ρ=some ((Iz n).map nI):=by
 rw[qC,h,IB,qH (by omega),CH];rfl
theorem Gc {n:Nat}{P:List D->Option D}{ds:List D}(h:ds.length=n):nF n P ds=P ds:=if_pos h
theorem Di {g:FG}{f:GE}{ρ ρ1 ρ2:aA}{d:D}(h1:f ρ=some (d,ρ1))(h2:g d ρ1=some ρ2):jX g f ρ=.nx ρ2:=by unfold jX;rw[h1];dsimp only;rw[h2];rfl
theorem cX {n:Nat}{P:List D->Option D}{fs:FA}{ρ:aA}{ds:List D}(h:fs ρ=some ds)(hl:ds.length=n):aq (nF n P) fs ρ=P ds:=(fQ h).trans (Gc hl)
theorem pU {kd:Kd}{n:Nat}{t:FS}{ds:List D}{ρ:aA}{d:D}(h:t (i7 n ds)=.rt d ρ):j7 kd n t ds=some d:=by unfold j7;rw[h]
theorem dv {f:FE}{ρ:aA}{d:D}(h:f ρ=some d):bo f ρ=.rt d ρ:=by unfold bo;rw[h]
theorem vy: ∀bs:List Bool,jp (bs.map D.bl)=some bs
 | []=>rfl
 |b::r=>by show(jp (r.map D.bl)).map (b:: ·)=_;rw[vy r];rfl
theorem vR(bs:List Bool):uJ [.lst (bs.map D.bl)]=some (.bl (bs.all id)):=by
 show(jp (bs.map D.bl)).map (λbs=>D.bl (bs.all id))=_
 rw[vy];rfl
theorem E5 {p:FT}{t u:FS}{ρ:aA}(h:p ρ=some false):gO p t u ρ=u ρ:=by unfold gO;rw[h]
theorem zV {p:FT}{t u:FS}{ρ:aA}(h:p ρ=some true):gO p t u ρ=t ρ:=by unfold gO;rw[h]
theorem tT {p q:FT}{ρ:aA}{b:Bool}(h1:p ρ=some false)(h2:q ρ=some b):pS p q ρ=some b:=by unfold pS;rw[h1];exact h2
theorem Ga {p q:FT}{ρ:aA}(h1:p ρ=some true):pS p q ρ=some true:=by unfold pS;rw[h1];rfl
theorem AB {p q:FT}{ρ:aA}{b:Bool}(h1:p ρ=some true)(h2:q ρ=some b):i6 p q ρ=some b:=by unfold i6;rw[h1];exact h2
theorem Db {p:FT}{ρ:aA}{b:Bool}(h:p ρ=some b):xM p ρ=some (.bl b):=by unfold xM;rw[h];rfl
theorem lV {f:GE}{ρ ρ1:aA}{d:D}(h:f ρ=some (d,ρ1)):dY f ρ=.nx ρ1:=by unfold dY;rw[h]
theorem dm {f:FE}{ρ:aA}{b:Bool}(h:f ρ=some (.bl b)):cs f ρ=some b:=by unfold cs;rw[h];rfl
theorem ko {f:FE}{ρ:aA}{b:Bool}(h:f ρ=some (.bl b)):fB f ρ=some b:=by unfold fB;rw[h];rfl
theorem kH {p:FT}{ρ:aA}{b:Bool}(h:p ρ=some b):fF p ρ=some (!b):=by unfold fF;rw[h];rfl
theorem lC {x:D}(h:dh x<=32):nl x x=some (.bl false):=by rw[tF h,jN];rfl
theorem vF {x:D}(h:dh x<=32):xF x x=some (.bl true):=by rw[mU h,jN]
theorem bI {g:FG}{b:FS}{d:D}{r:List D}{ρ ρ1 ρ2:aA}(h1:g d ρ=some ρ1)(h2:b ρ1=.nx ρ2):dZ g b (d::r) ρ=dZ g b r ρ2:=by
 show(match g d ρ with
  |none=>Out.no
  |some ρ1=>match b ρ1 with
   | .nx ρ2=>dZ g b r ρ2
   | .ct ρ2=>dZ g b r ρ2
   | .bk ρ2=>.nx ρ2
   | .rt d ρ2=>.rt d ρ2
   | .no=>.no)=_
 rw[h1];dsimp only;rw[h2]
theorem cK {f:GA}{g:FG}{b:FS}{ρ ρ1:aA}{ds:List D}(h:f ρ=some (ds,ρ1)):cD f g b ρ=dZ g b ds ρ1:=by unfold cD;rw[h]
theorem iz {kd:Kd}{n:Nat}{t:FS}{ds:List D}{d:D}(h: ∃ρ,t (i7 n ds)=.rt d ρ):j7 kd n t ds=some d:=let⟨_,h⟩:=h;pU h
theorem yf {t u:FS}{ρ:aA}{d:D}(P:aA->Prop)(h: ∃ρ',t ρ=.nx ρ'/\P ρ')(hu: ∀ρ',P ρ'-> ∃ρ'',u ρ'=.rt d ρ''): ∃ρ'',aS t u ρ=.rt d ρ'':=by
 obtain⟨ρ',h1,h2⟩:=h
 obtain⟨ρ'',h3⟩:=hu ρ' h2
 exact⟨ρ'',(aX h1).trans h3⟩
theorem uO {f:GA}{g:FG}{b:FS}{ρ ρ1:aA}{ds:List D}{P:aA->Prop}(h:f ρ=some (ds,ρ1))(hl: ∃ρ',dZ g b ds ρ1=.nx ρ'/\P ρ'): ∃ρ',cD f g b ρ=.nx ρ'/\P ρ':=by
 obtain⟨ρ',h1,h2⟩:=hl
 exact⟨ρ',(cK h).trans h1,h2⟩
theorem lA {g:FG}{b:FS}{P:aA->Prop}: ∀(l:List D),(∀d∈l,∀ρ,P ρ-> ∃ρ1 ρ2,g d ρ=some ρ1/\b ρ1=.nx ρ2/\P ρ2)-> ∀ρ,P ρ-> ∃ρ',dZ g b l ρ=.nx ρ'/\P ρ'
 | [],_,ρ,p=>⟨ρ,rfl,p⟩
 |d::l,h,ρ,p=>by
  obtain⟨ρ1,ρ2,h1,h2,p2⟩:=h d (by simp) ρ p
  obtain⟨ρ',e,p'⟩:=lA l (λd' hd=>h d' (by simp[hd])) ρ2 p2
  exact⟨ρ',(bI h1 h2).trans e,p'⟩
theorem An {i:Nat}{fs:GA}{ρ ρ1:aA}{b0 bs:List D}{d:D}(h0:eI i ρ=some b0)(h1:fs ρ=some ([d],ρ1))(h2:eI i ρ1=some bs)(h3:bs.length<=900):dY (bu i 1 pG fs) ρ=.nx (eK i (bs++[d]) ρ1):=
 lV (eE h0 h1 h2 rfl (by rw[BR,wT (by omega)]))
theorem iW {α:Type}{g:FG}{p:FT}{f:FE}{ρ0:aA}{h o:α->D}{q:α->Bool}: ∀(l:List α),(∀i∈l,∃ρ1,g (h i) ρ0=some ρ1/\p ρ1=some (q i)/\(q i=true->f ρ1=some (o i)))->cr g p f ρ0 (l.map h)=some ((l.filter q).map o)
 | [],_=>rfl
 |a::l,H=>by
  obtain⟨ρ1,h1,h2,h3⟩:=H a (by simp)
  have ih:=iW l λi hi=>H i (by simp[hi])
  rw[Ip];unfold cr;rw[h1,IB,h2,IB];cases e:q a with
  |true=>rw[if_pos rfl,h3 e,IB,ih];simp[e]
  |false=>rw[if_neg (by simp),ih];simp[e]
theorem pX {α:Type}{g:FG}{p:FT}{A:FA}{ρ0:aA}{h:α->D}{q:α->Bool}{o:α->List D}: ∀(l:List α),(∀i∈l,∃ρ1,g (h i) ρ0=some ρ1/\p ρ1=some (q i)/\(q i=true->A ρ1=some (o i)))->mR g p A ρ0 (l.map h)=some ((l.filter q).flatMap o)
 | [],_=>rfl
 |a::l,H=>by
  obtain⟨ρ1,h1,h2,h3⟩:=H a (by simp)
  have ih:=pX l λi hi=>H i (by simp[hi])
  rw[Ip];unfold mR;rw[h1,IB,h2,IB];cases e:q a with
  |true=>rw[if_pos rfl,h3 e,IB,ih];simp[e]
  |false=>rw[if_neg (by simp),ih];simp[e]
theorem By {f:FE}{ρ:aA}{d:D}(h:f ρ=some d):qY f ρ=some [d]:=by unfold qY;rw[h];rfl
theorem DL {gi:FA}{g:FG}{p:FT}{f:FE}{ρ:aA}{ds ys:List D}(h1:gi ρ=some ds)(h2:mR g p (qY f) ρ ds=some ys):y8 gi g p f ρ=some ys:=by
 unfold y8;rw[h1,IB,h2]
theorem yR: ∀k:List Int,b7 (k.map D.int)=0
 | []=>by simp[b7]
 |a::k=>by rw[Ip];unfold b7;rw[yR k];simp[dh]
open PySem PySem.W PySem.Spec PyProof.Rows
theorem Inv.turnedL {X:Cx}{aa:List (Addr×Obj)}{σ:St}{H:Hp}{s:Ic}{h':Heap}{t':Nat}(L:List Addr)(I:Inv X aa σ H s)(hf: ∀b∈L,fN X aa H b)(k: ∀b o,b∉L->s.heap.get? b=some o->h'.get? b=some o):Inv X aa σ H {s with heap:=h',toks:=t'}:=by
 have nit: ∀b u,H b=some u->b∉L:=λb u e z=>by rw[(hf b z).1] at e;cases e
 have hL:X.env.locals∉L:=λz=>(hf _ z).2.1 rfl
 refine I.step (g':=s.gens) (d':=s.drawn) (ch:=L) (λb hb=>?_) (λb o _ _ hc e _=>k b o hc e) (λb o _ _ hc e _=>⟨o.slots,k b o hc e⟩) (λ_ _ _ _ n=>n)
  (λb o hc e=>⟨o,k b o hc e⟩) (λ_ _ e=>e) (λ_ _ _ e=>e) (λb ps e=>⟨#[],by rw[e];simp⟩) (λm hm=>?_) (λb u e=>?_) I.bare
 ·obtain⟨f0,f1,f2,f3,f4,f5⟩:=hf b hb
  exact⟨f3,f1,f4,f5⟩
 ·obtain⟨o,es,ep,ho,r⟩:=hm
  exact⟨o,es,ep,k _ o hL ho,r⟩
 ·refine(I.hok b u e).stay (λc v hc q=>k c v ?_ q) (λ_ q=>q) λ_ _ q=>q
  rcases hc with z|z
  ·rw[z];exact nit b u e
  ·exact nit c _ z
def HD(K:Il)(a b:Addr):It:=
 ⟨λi H=> ∃xs ys x y,SqL K H a xs/\SqL K H b ys/\xs[i]? =some x/\ys[i]? =some y,λi H x H'=> ∃T,x=.ref T/\H T=none/\ ∀xs ys,SqL K H a xs->SqL K H b ys-> ∃y z,xs[i]? =some y/\ys[i]? =some z/\H'=aI H T (.tup [y,z]),λi H=> ∃xs ys,SqL K H a xs/\SqL K H b ys/\(xs.length<=i\/ys.length<=i)⟩
theorem yV {P:IP}{w:Jo}{K:Il}{es:List Expr}{x1}{pos:Pos}(a b z TI TO i1 i2:Addr)(AP:ZipApart z TI TO i1 i2 a b):Turn P w K (.Tuple es x1 pos) (HD K a b) [z,TI,TO,i1,i2] z (λi h=>IsZip h z TI TO .none/\Wx h TI (.ref i1) (.ref i2)/\(∃p q,Wx h TO p q)/\h.IsListIter i1 a i/\h.IsListIter i2 b i) where
 mem:=by simp
 obj:=λi h st c hc=>by
  obtain⟨hz,hTI,⟨p,q,hTO⟩,⟨o1,ho1,_,hd1⟩,⟨o2,ho2,_,hd2⟩⟩:=st
  simp only[IC,Ks,or_false] at hc;rcases hc with rfl|rfl|rfl|rfl|rfl
  ·exact⟨_,hz,λv e=>by cases e⟩
  ·exact⟨_,hTI,λv e=>by cases e⟩
  ·exact⟨_,hTO,λv e=>by cases e⟩
  ·exact⟨_,ho1,λv e=>by rw[hd1] at e;cases e⟩
  ·exact⟨_,ho2,λv e=>by rw[hd2] at e;cases e⟩
 keep:=λi h h' st k=>by
  obtain⟨hz,hTI,⟨p,q,hTO⟩,h1,h2⟩:=st
  exact⟨k z (by simp) _ hz,k TI (by simp) _ hTI,⟨p,q,k TO (by simp) _ hTO⟩,h1.at λo x=>k i1 (by simp) o x,h2.at λo x=>k i2 (by simp) o x⟩
 item:=by
  intro X hP hw hK hc i aa s σ H E I hf st hg;subst hP hw hK;obtain⟨xs,ys,x,y,hqx,hqy,hx,hy⟩:=hg
  obtain⟨itx,rvx,px,hzx⟩:=I.list hqx
  obtain⟨ity,rvy,py,hzy⟩:=I.list hqy
  obtain⟨u,hu,ru⟩:=rvx.get hx
  obtain⟨v,hv,rv⟩:=rvy.get hy
  obtain⟨hz,hTI,⟨p,q,hTO⟩,h1,h2⟩:=st
  refine wpAny_pyNext_zip_item AP hz hTI hTO h1 h2 (show s.heap.IsList a itx.toArray from px.isList) (show s.heap.IsList b ity.toArray from py.isList) (x:=u) (y:=v) (by simpa using hu) (by simpa using hv) λg gz gTO g1 g2 gT gsz hk=>⟨_,rfl,?_⟩
  refine wpAny_letOwnedTupleGo_zip gz λg' gz' hs'=>?_
  have lz:z<s.heap.objs.size:=Ix hz
  have lTI:TI<s.heap.objs.size:=Ix hTI
  have lTO:TO<s.heap.objs.size:=Ix hTO
  have li1:i1<s.heap.objs.size:=let⟨_,e,_⟩:=h1;Ix e
  have li2:i2<s.heap.objs.size:=let⟨_,e,_⟩:=h2;Ix e
  have sb: ∀c,c≠z->g'.get? c=g.get? c:=λc hc=>hs'.2 c hc
  have gT':g'.get? s.heap.objs.size=some {cls:=.type "tuple",data:=.seq #[u,v]}:=(sb _ (Kw lz)).trans gT
  have gTO':Wx g' TO u v:=(sb _ AP.TOz).trans gTO
  have g1':g'.IsListIter i1 a (i+1):=g1.at λo e=>(sb _ AP.i1z).trans e
  have g2':g'.IsListIter i2 b (i+1):=g2.at λo e=>(sb _ AP.i2z).trans e
  have gTI':Wx g' TI (.ref i1) (.ref i2):=(sb _ AP.TIz).trans (hk TI _ AP.TIz AP.TITO AP.TIi1 AP.TIi2 hTI)
  have hn:H s.heap.objs.size=none:=I.hok.fresh (Ie _)
  have fl: ∀c∈[z,TI,TO,i1,i2],c<s.heap.objs.size:=λc hc=>by
   simp only[IC,Ks,or_false] at hc;rcases hc with rfl|rfl|rfl|rfl|rfl<;>assumption
  have hf': ∀c∈[z,TI,TO,i1,i2],fN X aa (aI H s.heap.objs.size (.tup [x,y])) c:=λc hc=>by
   obtain⟨f0,f1,f2,f3,f4,f5⟩:=hf c hc
   exact⟨by rw[af (IV (fl c hc))];exact f0,f1,f2,f3,f4,f5⟩
  have I0:Inv X aa σ (aI H s.heap.objs.size (.tup [x,y])) {s with heap:=s.heap.push {cls:=.type "tuple",data:=.seq #[u,v]},toks:=s.toks}:=
   I.laid (t':=s.toks) (λb o q=>Ib _ q) (Ie _) (show ObjOk X.prog X.w _ _ _ (.tup [x,y]) from
    ⟨Le (fT (by simp)),[u,v],.cons ru (.cons rv .nil),⟨_,Io _ rfl,rfl,_,rfl⟩,_,Io _ rfl,rfl⟩)
  have I1:Inv X aa σ (aI H s.heap.objs.size (.tup [x,y])) {s with heap:=g',toks:=s.toks}:=by
   have:=Inv.turnedL (t':=s.toks) (h':=g') [z,TI,TO,i1,i2] I0 hf' λc o hc e=>?_
   ·exact this
   simp only[IC,Ks,or_false,not_or] at hc
   by_cases ec:c=s.heap.objs.size
   ·subst ec
    have e:(s.heap.push {cls:=.type "tuple",data:=.seq #[u,v]}).get? s.heap.objs.size=some o:=e
    rw[Io _ rfl] at e;cases e;exact gT'
   ·have e:(s.heap.push {cls:=.type "tuple",data:=.seq #[u,v]}).get? c=some o:=e
    rw[NP _ _ _ ec] at e;exact(sb c hc.1).trans (hk c o hc.1 hc.2.2.1 hc.2.2.2.1 hc.2.2.2.2 e)
  refine⟨.ref s.heap.objs.size,aI H s.heap.objs.size (.tup [x,y]),I1,rfl,⟨_,rfl,hn,λxs' ys' hx' hy'=>⟨x,y,by rw[I.list_inj hx' hqx];exact hx,by rw[I.list_inj hy' hqy];exact hy,rfl⟩⟩,⟨gz',gTI',⟨_,_,gTO'⟩,g1',g2'⟩,λc hc=>(hf' c hc).1⟩
 done:=by
  intro X hP hw hK hc i aa s σ H E I hf st hg;subst hP hw hK;obtain⟨xs,ys,hqx,hqy,hx⟩:=hg
  obtain⟨itx,rvx,px,hzx⟩:=I.list hqx
  obtain⟨ity,rvy,py,hzy⟩:=I.list hqy
  obtain⟨hz,hTI,⟨p,q,hTO⟩,h1,h2⟩:=st
  have l1:=rvx.length
  have l2:=rvy.length
  refine wpAny_pyNext_zip_end (I.ok.hd hc) AP hz hTI hTO h1 h2 (show s.heap.IsList a itx.toArray from px.isList) (show s.heap.IsList b ity.toArray from py.isList) (hx.imp (λe=>by simp;omega) λe=>by simp;omega) λg hk=>⟨rfl,?_⟩
  refine Inv.turnedL [z,TI,TO,i1,i2] I hf λc o hc e=>?_
  simp only[IC,Ks,or_false,not_or] at hc;exact hk c o hc.1 hc.2.2.1 hc.2.2.2.1 hc.2.2.2.2 e
 self:=λ_ _ _ _ _ st h=>let⟨hz,_⟩:=st;QC hz h
section
variable {X:Cx}{c:Ct}{k:Kd}{es:List Expr}{x1:Nat}{tp pos p:Pos}
def sN(xs ys:List D):List D:=(Iz (min xs.length ys.length)).map λ(i:Nat)=>D.tup [xs.getD i .non,ys.getD i .non]
def ud(f g:FE):FA:=λρ=>match f ρ,g ρ with
 |some (.lst xs),some (.lst ys)=>some (sN xs ys)
 |_,_=>none
theorem wP {f g:FE}{ρ:aA}{ds:List D}(h:ud f g ρ=some ds): ∃xs ys,f ρ=some (.lst xs)/\g ρ=some (.lst ys)/\ds=sN xs ys:=by
 unfold ud at h;split at h
 ·cases h;exact⟨_,_, ‹_›, ‹_›,rfl⟩
 ·cases h
theorem yA {K:Il}{W:Hp}{a b:Addr}{xs ys:List V}{ds es:List D}(h1:SqL K W a xs)(h2:SqL K W b ys)(r1:Reps K W xs ds)(r2:Reps K W ys es):ItOk K W (HD K a b) (sN ds es):=by
 have l1:=r1.length
 have l2:=r2.length
 have el:(sN ds es).length=min ds.length es.length:=by simp[sN]
 refine⟨λi d H e s=>?_,λH s=>⟨_,_,Same.seq s h1,Same.seq s h2,?_⟩⟩
 ·have hi:i<min ds.length es.length:=by rw[<-el];exact(IA.mp e).1
  have ex:xs[i]? =some xs[i]:=Ig (by omega)
  have ey:ys[i]? =some ys[i]:=Ig (by omega)
  refine⟨⟨_,_,xs[i],ys[i],Same.seq s h1,Same.seq s h2,ex,ey⟩,λy H' ⟨T,e2,hT,e3⟩=>?_⟩
  subst e2;obtain⟨u,v,e4,e4',e5⟩:=e3 _ _ (Same.seq s h1) (Same.seq s h2)
  subst e5;refine⟨aF hT _,λhid tr sw=>?_⟩
  have hf:hid T=false:=by
   cases eh:hid T with
   |false=>rfl
   |true=>obtain⟨o,ho⟩:=tr T eh;rw[hT] at ho;cases ho
  obtain⟨d',e6,r6⟩:=r1.get' e4
  obtain⟨d'',e7,r7⟩:=r2.get' e4'
  have ed:d=.tup [d',d'']:=by
   unfold sN at e;rw[Jd,Mb hi] at e;have q1:ds.getD i .non=d':=by simp[JH,e6]
   have q2:es.getD i .non=d'':=by simp[JH,e7]
   rw[Ld,q1,q2] at e;exact(Je e).symm
  rw[ed];exact eU hT hf (.cons (r6.mono sw) (.cons (r7.mono sw) .nil))
 ·rw[el];omega
theorem xK(n l1 l2:Nat)(h1:l1<n)(h2:l2<n):ZipApart (n+4) (n+2) (n+3) n (n+1) l1 l2:=by
 constructor<;>(show¬ @Eq Nat _ _)<;>omega
theorem AI {e1 e2:Expr}{f g:FE}(h1:DP X c .s e1 f)(h2:DP X c .s e2 g)(hm:X.mg "zip"=none)(hg:Gl X "zip":=by rfl)(hs:Iu [e1,e2] X.env=(false,eval e1 X.env)::Iu [e2] X.env:=by rfl)(hs2:Iu [e2] X.env=[(false,eval e2 X.env)]:=by rfl):DIp X c (.Tuple es x1 tp) (.Call (.Name "zip" p) [e1,e2] [] pos) (ud f g):=by
 intro hid ρ aa s σ H R I hq;obtain⟨sr,ds,hd,q⟩:=hq
 obtain⟨xs,ys,a1,a2,rfl⟩:=wP hd
 refine Call_ (jo (u:=.type "zip") I hg hm (by kernel_rfl) (Kt (bm (be (h1 hid ρ) (be (h2 hid ρ) cy hs2) hs pos aa s σ H (λvs H'=> ∃v w,vs=[v,w]/\Same H H'/\Rep X.K (vw H' hid) v (.lst xs)/\Rep X.K (vw H' hid) w (.lst ys)) I ⟨sr,_,a1,λv H' s' r=>⟨sr.ext s',_,a2,λw H'' s'' r'=>⟨v,w,rfl,s'.trans s'',Rep.mono (aD s'') r,r'⟩⟩⟩) λvs s1 ⟨ws,H1,I1,r1,v,w,e,s',r,r'⟩=>?_) hs (by rw[hs2];rfl)))
 subst e;cases r1 with
 |cons ra rb=>
  cases rb with
  |cons rb rc=>
   cases rc
   cases r with
   |lst t1 t2=>
    cases r' with
    |lst t3 t4=>
     have t1:=SqL.of (K:=X.K) t1
     have t3:=SqL.of (K:=X.K) t3
     cases ra
     cases rb
     obtain⟨itx,rvx,px,hzx⟩:=I1.list ((bF _ _).seq t1)
     obtain⟨ity,rvy,py,hzy⟩:=I1.list ((bF _ _).seq t3)
     have b1: ∀ {c:Addr} {us},s1.heap.IsList c us->c<s1.heap.objs.size:=λh=>let⟨_,e,_⟩:=h;Ix e
     have L1:s1.heap.IsList _ itx.toArray:=px.isList
     have L2':s1.heap.IsList _ ity.toArray:=py.isList
     have m1:=b1 L1
     have m2:=b1 L2'
     refine call_zip_2 L1 L2' λg hz hTI hTO hi1 hi2 hsz hk=>?_
     refine QC hz ⟨_,[s1.heap.objs.size+4,s1.heap.objs.size+2,s1.heap.objs.size+3,s1.heap.objs.size,s1.heap.objs.size+1],_,_,H1,rfl,I1.kept (t':=s1.toks) λb o e=>hk b o e,yV _ _ _ _ _ _ _ (xK _ _ _ m1 m2),⟨hz,hTI,⟨_,_,hTO⟩,hi1,hi2⟩,λb hb=>?_,q _ H1 s' (yA t1 t3 t2 t4)⟩
     have hb:s1.heap.objs.size<=b:=by
      simp only[IC,Ks,or_false] at hb;rcases hb with rfl|rfl|rfl|rfl|rfl
      ·exact MU _ _
      ·exact MU _ _
      ·exact MU _ _
      ·exact Ie _
      ·exact MU _ _
     exact I1.fpOk hb (I1.hok.fresh hb)
end
section
variable {X:Cx}{c:Ct}{a b e:Expr}{f g:FE}{pos p p2 p3:Pos}{k:Kd}
def CJ(K:Il):R2:=λx y H Q=> ∃l b xs zs,x=.ref l/\y=.ref b/\SqL K H l xs/\SqL K H b zs/\xs.length+zs.length<=Iy/\ ∀p,H p=none->Q (.ref p) (aI H p (.lst (xs++zs)))
theorem AL:k8 X (LI .Add) (CJ X.K):=by
 intro aa s σ H x y v u Q I rx ry h;obtain⟨l,b,xs,zs,rfl,rfl,hL,hB,hz,q⟩:=h
 cases rx
 cases ry
 obtain⟨its,r,⟨o,n,e,c1,d1,t1⟩,z1⟩:=I.list hL
 obtain⟨its2,r2,⟨o2,n2,e2,c2,d2,t2⟩,z2⟩:=I.list hB
 obtain⟨oc,od,ot,sl⟩:=o
 obtain⟨oc2,od2,ot2,sl2⟩:=o2
 dsimp only at c1 d1 t1 c2 d2 t2;subst c1 d1 t1 c2 d2 t2;have hl:=r.length
 have hl2:=r2.length
 refine P4 ⟨_,e,rfl⟩ ⟨_,e2,rfl⟩ noFill_list_add seq_list_add PySem.F.slot_list_add PySem.F.entry_list_add (PySem.F.args_list_add_2 _ _) (list_addW l b its.toArray its2.toArray n n2 none none sl sl2 (by rw[IF,IF];omega)) ⟨e,e2,?_⟩
 have ea:its.toArray++its2.toArray=(its++its2).toArray:=by simp
 rw[ea];exact⟨.ref _,_,I.lnew (t':=s.toks) (r.append r2) (by rw[Jf];omega),rfl,q _ I.fresh⟩
def mB:D->D->Option D
 | .lst xs,.lst ys=>if xs.length+ys.length<=Iy then some (.lst (xs++ys)) else none
 |_,_=>none
theorem B9 {K:Il}:nr K .n (CJ K) mB:=by
 intro H hid v u x y d Q hf h r1 r2 q;unfold mB at h;split at h
 ·split at h
  ·rename_i hz
   cases h
   obtain⟨a,xs,rfl,h1,h2⟩:=r1.lst
   obtain⟨b,ys,rfl,h3,h4⟩:=r2.lst
   exact⟨a,b,xs,ys,rfl,rfl,h1,h3,by rw[h2.length,h4.length];exact hz,λp hp=>q _ _ (aF hp _) (jk hp (Same.refl _) (h2.append h4))⟩
  ·cases h
 ·cases h
theorem vm {k1 k2:Kd}(ha:DP X c k1 a f)(hb:DP X c k2 b g):DP X c .n (.BinOp a .Add b pos) (aB mB f g):=kZ AL B9 ha hb
end
section
variable {X:Cx}{aa pins':List (Addr×Obj)}{σ:St}{H:Hp}{s:Ic}{E:Ia->Ic->Prop}{v:Option Ia}{a:Addr}
theorem ObjOk.there {P:IP}{w:Jo}{h:Heap}{o:HO}(x:ObjOk P w H h a o): ∃u,h.get? a=some u:=by
 induction o with
 |lst xs=>obtain⟨_,_,_,_,e⟩:=x;exact⟨_,e⟩
 |tup xs=>obtain⟨_,_,_,⟨_,e,_⟩,_⟩:=x;exact⟨_,e⟩
 |dK kvs=>obtain⟨_,_,_,_,o,_,_,e,_⟩:=x;exact⟨_,e⟩
 |dT kvs=>obtain⟨_,_,_,_,o,_,_,e,_⟩:=x;exact⟨_,e⟩
 |set S n=>obtain⟨o,_,_,_,e,_⟩:=x;exact⟨_,e⟩
 |tst xs=>obtain⟨o,_,_,_,e,_⟩:=x;exact⟨_,e⟩
 |ins C dx fs=>obtain⟨_,_,_,e,_⟩:=x;exact⟨_,e⟩
 |own y=>obtain⟨_,e⟩:=x;exact⟨_,e⟩
 |xd fs=>obtain⟨_,⟨_,_,_,e,_⟩,_⟩:=x;exact⟨_,e⟩
 |rng lo hi=>obtain⟨_,_,_,e⟩:=x;exact⟨_,e⟩
 |frz ob u ih=>obtain⟨e,_⟩:=x;exact⟨_,e⟩
 |nst p u ih=>exact ih x
 |tbl ps=>exact⟨_,show h.get? a=some _ from x⟩
 |met f y=>exact⟨_,show h.get? a=some _ from x⟩
 |ext φ=>obtain⟨_,⟨_,e⟩,_⟩:=x;exact⟨_,e⟩
end
section
variable {X:Cx}{c:Ct}{e:Expr}{es:List Expr}{k:Kd}{pos p:Pos}{x:Str}{ps:List Str}{j n:Nat}
def bR(f:FE):FA:=λρ=>(f ρ).bind λd=>match d with
 | .lst ds=>some ds
 | .tup ds=>some ds
 |_=>none
theorem bv {tg iter:Expr}{f:FE}(h:DP X c .s iter f):DIp X c tg iter (bR f):=λhid ρ aa s σ H R I hq_=>by
 obtain⟨sr,ds,e1,q⟩:=hq_
 unfold bR at e1;cases e2:f ρ with
 |none=>rw[e2] at e1;cases e1
 |some d=>
  rw[e2,IB] at e1;cases d with
  |lst xs=>cases e1;exact y6 h hid ρ aa s σ H R I ⟨sr,ds,by unfold BU;rw[e2];rfl,q⟩
  |tup xs=>cases e1;exact Ca h hid ρ aa s σ H R I ⟨sr,ds,by unfold Bn;rw[e2];rfl,q⟩
  |_=>cases e1
end
theorem gK {es rest:List Expr}{x1}{pos:Pos}{env:Env}:Iu (.Tuple es x1 pos::rest) env=(false,eval (.Tuple es x1 pos) env)::Iu rest env:=by rfl
@[elab_as_elim] theorem ar0 {motive:List Ia->Prop} (us:List Ia) (hl:us.length=0) (h:motive []):motive us:=by
 cases us with
 |nil=>exact h
 |cons a r=>exact absurd hl (Nat.succ_ne_zero _)
@[elab_as_elim] theorem ar1 {motive:List Ia->Prop} (us:List Ia) (hl:us.length=1) (h: ∀a0,motive [a0]):motive us:=by
 cases us with
 |nil=>exact absurd hl (by decide)
 |cons a0 r=>exact ar0 (motive:=λr=>motive (a0::r)) r (MD hl) (h a0)
@[elab_as_elim] theorem ar2 {motive:List Ia->Prop} (us:List Ia) (hl:us.length=2) (h: ∀a0 a1,motive [a0,a1]):motive us:=by
 cases us with
 |nil=>exact absurd hl (by decide)
 |cons a0 r=>exact ar1 (motive:=λr=>motive (a0::r)) r (MD hl) (h a0)
@[elab_as_elim] theorem ar3 {motive:List Ia->Prop} (us:List Ia) (hl:us.length=3) (h: ∀a0 a1 a2,motive [a0,a1,a2]):motive us:=by
 cases us with
 |nil=>exact absurd hl (by decide)
 |cons a0 r=>exact ar2 (motive:=λr=>motive (a0::r)) r (MD hl) (h a0)
@[elab_as_elim] theorem ar4 {motive:List Ia->Prop} (us:List Ia) (hl:us.length=4) (h: ∀a0 a1 a2 a3,motive [a0,a1,a2,a3]):motive us:=by
 cases us with
 |nil=>exact absurd hl (by decide)
 |cons a0 r=>exact ar3 (motive:=λr=>motive (a0::r)) r (MD hl) (h a0)
@[elab_as_elim] theorem ar5 {motive:List Ia->Prop} (us:List Ia) (hl:us.length=5) (h: ∀a0 a1 a2 a3 a4,motive [a0,a1,a2,a3,a4]):motive us:=by
 cases us with
 |nil=>exact absurd hl (by decide)
 |cons a0 r=>exact ar4 (motive:=λr=>motive (a0::r)) r (MD hl) (h a0)
@[elab_as_elim] theorem ar6 {motive:List Ia->Prop} (us:List Ia) (hl:us.length=6) (h: ∀a0 a1 a2 a3 a4 a5,motive [a0,a1,a2,a3,a4,a5]):motive us:=by
 cases us with
 |nil=>exact absurd hl (by decide)
 |cons a0 r=>exact ar5 (motive:=λr=>motive (a0::r)) r (MD hl) (h a0)
@[irreducible] def QP (X:Cx) (c:Ct) (e:Expr) (f:FE):Prop:=DP X c .s e f
@[irreducible] def QA (X:Cx) (c:Ct) (es:List Expr) (f:FA):Prop:=DA X c es f
@[irreducible] def QS (X:Cx) (c:Ct) (k:Kd) (st:Stmt) (t:FS):Prop:=DS X c k st t
@[irreducible] def QSs (X:Cx) (c:Ct) (k:Kd) (st:List Stmt) (t:FS):Prop:=tt X c k st t
section
variable {X:Cx}{c:Ct}{k:Kd}{e a b:Expr}{es:List Expr}{f g:FE}{fs:FA}{pos pos':Pos}{st:Stmt}{rest:List Stmt}{t u:FS}{x:Str}
theorem QP.of(h:DP X c .s e f):QP X c e f:=by unfold QP;exact h
theorem QP.dp(h:QP X c e f):DP X c .s e f:=by unfold QP at h;exact h
theorem QA.da(h:QA X c es fs):DA X c es fs:=by unfold QA at h;exact h
theorem QS.of(h:DS X c k st t):QS X c k st t:=by unfold QS;exact h
theorem QS.ds(h:QS X c k st t):DS X c k st t:=by unfold QS at h;exact h
theorem QSs.to(h:QSs X c k rest t):tt X c k rest t:=by unfold QSs at h;exact h
theorem uE:QA X c [] ag:=by unfold QA;exact az
theorem oV(h:QP X c e f)(hr:QA X c es fs)(hs:Iu (e::es) X.env=(false,eval e X.env)::Iu es X.env:=by rfl):QA X c (e::es) (ae f fs):=by unfold QA;exact ai h.dp hr.da hs
theorem Ad {x1}(h:QA X c es fs):QP X c (.Tuple es x1 pos) (bB fs):=.of (cA h.da)
theorem C3(h:QA X c es fs):QP X c (.List es pos) (cn fs):=.of (DP.toS (cT h.da))
theorem AZ(i:Nat)(hn:X.N.Nodup)(he:QP X c e f)(hi:X.N[i]? =some x:=by rfl)(hx:rO X.env.scope x:=by first|exact Jp rfl|exact IQ rfl)(hs:JU e (some (.Name x pos')) pos.line X.env=pure false:=by rfl)
 (hf:X.fn x=true\/X.env.scope.names.lookup x=some .local:=by first|exact .inl rfl|exact .inr rfl|assumption):QS X c k (.Assign [.Name x pos'] e pos) (cS i f):=.of (fw i hn he.dp hi hx hs hf)
theorem qX(h1:QS X c k st t)(h2:QSs X c k rest u):QSs X c k (st::rest) (aS t u):=by unfold QSs;exact ay h1.ds h2.to
theorem BM(h:QS X c k st t):QSs X c k [st] t:=by unfold QSs;exact aE h.ds
end
section
variable {κ:Type} [DecidableEq κ]
def cR(kvs:List (κ×V))(k:κ):Option V:=(kvs.find? λkv=>decide (kv.1=k)).map (·.2)
def eL(kvs:List (κ×V))(k:κ)(v:V):List (κ×V):=
 if(kvs.any λkv=>decide (kv.1=k))=true then kvs.map (λkv=>if kv.1=k then(kv.1,v) else kv) else kvs++[(k,v)]
theorem ie {p:κ×V}{r:List (κ×V)}{k:κ}(e:p.1=k):cR (p::r) k=some p.2:=by simp[cR,JR,e]
theorem iJ {p:κ×V}{r:List (κ×V)}{k:κ}(e: ¬p.1=k):cR (p::r) k=cR r k:=by simp[cR,JR,e]
theorem rM(k:κ): ∀kvs:List (κ×V),(kvs.any λkv=>decide (kv.1=k))=(cR kvs k).isSome
 | []=>rfl
 |p::r=>by
  rw[Me]
  by_cases e:p.1=k
  ·simp only[ie e,decide_eq_true e,Bool.true_or,PQ]
  ·rw[iJ e,decide_eq_false e,Bool.false_or];exact rM k r
theorem ft(kvs:List (κ×V))(k:κ)(v:V):(eL kvs k v).length<=kvs.length+1:=by
 unfold eL;split
 ·rw[Ir];omega
 ·rw[Jf,IK,Q7];omega
theorem RelO.isSome_eq {o:Option V}{u:Option Ia}(r:RelO o u):o.isSome=u.isSome:=by
 cases o with
 |none=>cases u with
  |none=>rfl
  |some _=>exact(show False from r).elim
 |some _=>cases u with
  |none=>exact(show False from r).elim
  |some _=>rfl
theorem RelO.getD {o:Option V}{u:Option Ia}{d:V}{d':Ia}(r:RelO o u)(rd:RelV d d'):RelV (o.getD d) (u.getD d'):=by
 cases o with
 |none=>cases u with
  |none=>exact rd
  |some _=>exact(show False from r).elim
 |some _=>cases u with
  |none=>exact(show False from r).elim
  |some _=>exact r
theorem KV.val {kvs:List (κ×V)}{vs:List (κ×Ia)}(r:KV kvs vs)(k:κ):RelO (cR kvs k) (Pn vs k):=by
 unfold KV at r
 induction r with
 |nil=>exact True.intro
 | @cons p q ps qs h t ih=>
   obtain⟨h1,h2⟩:=h
   by_cases e:p.1=k
   ·have e':q.1=k:=h1.symm.trans e
    have b:Pn (q::qs) k=some q.2:=by simp[Pn,JR,e']
    rw[ie e,b];exact h2
   ·have e': ¬q.1=k:=λz=>e (h1.trans z)
    have b:Pn (q::qs) k=Pn qs k:=by simp[Pn,JR,e']
    rw[iJ e,b];exact ih
theorem KV.any {kvs:List (κ×V)}{vs:List (κ×Ia)}(r:KV kvs vs)(k:κ):(kvs.any λkv=>decide (kv.1=k))=vs.any λkv=>decide (kv.1=k):=by
 unfold KV at r
 induction r with
 |nil=>rfl
 |cons h t ih=>rw[Me,Me,ih,h.1]
theorem KV.repl {kvs:List (κ×V)}{vs:List (κ×Ia)}(r:KV kvs vs)(k:κ){y:V}{u:Ia}(ry:RelV y u):
 KV (kvs.map λkv=>if kv.1=k then(kv.1,y) else kv) (vs.map λkv=>if kv.1=k then(kv.1,u) else kv):=by
 unfold KV at r⊢
 induction r with
 |nil=>exact .nil
 | @cons p q ps qs h t ih=>
   rw[Ip,Ip];refine .cons ?_ ih
   obtain⟨h1,h2⟩:=h
   by_cases e:p.1=k
   ·rw[if_pos e,if_pos (h1.symm.trans e)];exact⟨h1,ry⟩
   ·rw[if_neg e,if_neg (λz=>e (h1.trans z))];exact⟨h1,h2⟩
theorem KV.put {kvs:List (κ×V)}{vs:List (κ×Ia)}(r:KV kvs vs)(k:κ){y:V}{u:Ia}(ry:RelV y u):KV (eL kvs k y) (stored vs k u):=by
 unfold eL stored;rw[r.any k]
 by_cases e:(vs.any λkv=>decide (kv.1=k))=true
 ·rw[if_pos e,if_pos e];exact r.repl k ry
 ·rw[if_neg e,if_neg e];exact U2 r ⟨rfl,ry⟩
theorem KV.keys {kvs:List (κ×V)}{vs:List (κ×Ia)}(r:KV kvs vs):kvs.map (·.1)=vs.map (·.1):=by
 unfold KV at r
 induction r with
 |nil=>rfl
 |cons h t ih=>rw[Ip,Ip,ih,h.1]
theorem KV.length {kvs:List (κ×V)}{vs:List (κ×Ia)}(r:KV kvs vs):kvs.length=vs.length:=Ll r
end
theorem sK {P:IP}{w:Jo}{k:aM}{u:Ia}(r:RelV (kV k) u):(aZ P w).is k u=true:=by
 cases k with
 |inl i=>obtain⟨t,e⟩:=(show∃t,u=K3 i t from r);subst e;exact qk P w i t
 |inr x=>obtain⟨t,e⟩:=(show∃t,u=Sq x t from r);subst e;exact rQ P w x t
theorem kz {P:IP}{w:Jo}: ∀ {ks:List aM} {us:List Ia},Vals (ks.map kV) us->ItemsAre (aZ P w) ks us
 | [],_,r=>by rw[Mx] at r;cases r;exact .nil
 |k::ks,_,r=>by
  rw[Ip] at r;cases r with
  |cons h t=>exact .cons (sK h) (kz t)
abbrev KTd(H:Hp):List (List aM×V)->List (List aM×Addr×Ia)->Prop:=Paired λp q=>p.1=q.1/\H q.2.1=some (.tup (p.1.map kV))/\RelV p.2 q.2.2
theorem KTd.val {H:Hp}{kvs:List (List aM×V)}{xs:List (List aM×Addr×Ia)}(r:KTd H kvs xs)(k:List aM):RelO (cR kvs k) ((Oe xs k).map (·.2)):=by
 induction r with
 |nil=>exact True.intro
 | @cons p q ps qs h t ih=>
   obtain⟨h1,_,h2⟩:=h
   by_cases e:p.1=k
   ·have e':q.1=k:=h1.symm.trans e
    have b:Oe (q::qs) k=some q.2:=by simp[Oe,JR,e']
    rw[ie e,b];exact h2
   ·have e': ¬q.1=k:=λz=>e (h1.trans z)
    have b:Oe (q::qs) k=Oe qs k:=by simp[Oe,JR,e']
    rw[iJ e,b];exact ih
theorem KTd.repl {H:Hp}{kvs:List (List aM×V)}{xs:List (List aM×Addr×Ia)}(r:KTd H kvs xs)(k:List aM){y:V}{u:Ia}(ry:RelV y u):
 KTd H (kvs.map λkv=>if kv.1=k then(kv.1,y) else kv) (xs.map (putAt k u)):=by
 induction r with
 |nil=>exact .nil
 | @cons p q ps qs h t ih=>
   rw[Ip,Ip];refine .cons ?_ ih
   obtain⟨h1,h2,h3⟩:=h
   unfold putAt
   by_cases e:p.1=k
   ·rw[if_pos e,if_pos (h1.symm.trans e)];exact⟨h1,h2,ry⟩
   ·rw[if_neg e,if_neg (λz=>e (h1.trans z))];exact⟨h1,h2,h3⟩
theorem KTd.put {H:Hp}{kvs:List (List aM×V)}{xs:List (List aM×Addr×Ia)}(r:KTd H kvs xs)(k:List aM){b:Addr}{y:V}{u:Ia}(hb:H b=some (.tup (k.map kV)))(ry:RelV y u):
 KTd H (eL kvs k y) (Re xs k b u):=by
 have e:(kvs.any λkv=>decide (kv.1=k))=(Oe xs k).isSome:=by
  rw[rM,(r.val k).isSome_eq,Option.isSome_map]
 unfold eL Re;rw[e]
 by_cases q:(Oe xs k).isSome=true
 ·rw[if_pos q,if_pos q];exact r.repl k ry
 ·rw[if_neg q,if_neg q];exact U2 r ⟨rfl,hb,ry⟩
theorem KTd.keeps {H H':Hp}{kvs:List (List aM×V)}{xs:List (List aM×Addr×Ia)}(r:KTd H kvs xs)(ht: ∀b ys,H b=some (.tup ys)->H' b=some (.tup ys)):KTd H' kvs xs:=
 Paired.mapP r λ_ _ z=>⟨z.1,ht _ _ z.2.1,z.2.2⟩
section
variable {P:IP}{w:Jo}{H:Hp}{h:Heap}{a:Addr}
theorem Cq {u:HO}(ok:HOk P w H h)(e:Rd H a u):ObjOk P w H h a u:=e.ok ok
theorem mZ {kvs:List (aM×V)}(ok:HOk P w H h)(e:Rd H a (.dK kvs)):kvs.length<=Iy/\(a==Kn)=false/\ ∃vs,KV kvs vs/\h.DictOf (aZ P w) a vs:=
 show ObjOk P w H h a (.dK kvs) from Cq ok e
theorem yJ {kvs:List (aM×V)}(ok:HOk P w H h)(e:H a=some (.dK kvs)):kvs.length<=Iy/\(a==Kn)=false/\ ∃vs,KV kvs vs/\h.DictOf (aZ P w) a vs:=mZ ok (.inl e)
theorem kq {ks:List aM}(ok:HOk P w H h)(e:H a=some (.tup (ks.map kV))):(Mp (aZ P w)).is h ks a:=by
 obtain⟨_,its,r,⟨o,h1,h2,n,h3⟩,_⟩:=(show ObjOk P w H h a (.tup (ks.map kV)) from ok a _ e)
 exact⟨o,its.toArray,n,h1,h2,h3,by simpa using kz r⟩
theorem mF {kvs:List (List aM×V)}(ok:HOk P w H h)(e:Rd H a (.dT kvs)):kvs.length<=Iy/\(a==Kn)=false/\
 ∃xs,KTd H kvs xs/\h.DictOfH (Mp (aZ P w)) a xs:=by
 obtain⟨z,y,xs,r,o,es,ep,h1,h2,h3,h4,h5⟩:=(show ObjOk P w H h a (.dT kvs) from Cq ok e)
 refine⟨z,y,xs,r,o,es,ep,h1,h2,h3,h4,λx hx=>?_,h5⟩
 have all: ∀ {l:List (List aM×V)} {m:List (List aM×Addr×Ia)},KTd H l m-> ∀x∈m,(Mp (aZ P w)).is h x.1 x.2.1:=by
  intro l m q
  induction q with
  |nil=>intro x hx;exact nomatch hx
  | @cons p q ps qs hq t ih=>
    intro x hx;rcases IC.mp hx with e|hx
    ·subst e
     exact kq ok (by rw[<-hq.1];exact hq.2.1)
    ·exact ih x hx
 exact all r x hx
theorem yr {kvs:List (List aM×V)}(ok:HOk P w H h)(e:H a=some (.dT kvs)):kvs.length<=Iy/\(a==Kn)=false/\
 ∃xs,KTd H kvs xs/\h.DictOfH (Mp (aZ P w)) a xs:=mF ok (.inl e)
end
def DGet(H:Hp)(a:Addr)(y:V)(r:Option V):Prop:=
 (∃kvs k,Rd H a (.dK kvs)/\y=kV k/\r=cR kvs k)\/ ∃kvs k b,Rd H a (.dT kvs)/\y=.ref b/\H b=some (.tup (k.map kV))/\r=cR kvs k
def DPut(H:Hp)(a:Addr)(y v:V)(H':Hp):Prop:=
 (∃kvs k,H a=some (.dK kvs)/\y=kV k/\kvs.length<Iy/\H'=aI H a (.dK (eL kvs k v)))\/
 ∃kvs k b,H a=some (.dT kvs)/\y=.ref b/\H b=some (.tup (k.map kV))/\kvs.length<Iy/\H'=aI H a (.dT (eL kvs k v))
theorem DGet.k {H:Hp}{a:Addr}{kvs:List (aM×V)}{k:aM}(e:H a=some (.dK kvs)):DGet H a (kV k) (cR kvs k):=.inl ⟨kvs,k,.inl e,rfl,rfl⟩
theorem DPut.k {H:Hp}{a:Addr}{kvs:List (aM×V)}{k:aM}{v:V}(e:H a=some (.dK kvs))(hl:kvs.length<Iy):DPut H a (kV k) v (aI H a (.dK (eL kvs k v))):=.inl ⟨kvs,k,e,rfl,hl,rfl⟩
section
variable {X:Cx}{aa:List (Addr×Obj)}{σ:St}{H:Hp}{s:Ic}{a:Addr}{y v:V}{u r:Ia}{o:Option V}{A:Jc}{E:Ia->Ic->Prop}
theorem Inv.big(I:Inv X aa σ H s):Kn<s.heap.objs.size:=by
 have h:Js<s.heap.objs.size:=(I.mod.glob.keeps I.bk).lt
 exact Th (by decide) h
theorem xJ {Q:Ia->Ic->Prop}(hu:A.units+1<Ke)(I:Inv X aa σ H s)(g:DGet H a y (some v))(ry:RelV y u)(h: ∀w' s',Inv X aa σ H s'->RelV v w'->Q w' s'):
 II (model X.prog X.w) A (MY (.ref a) u) Q E s:=by
 rcases g with⟨kvs,k,e,ey,l⟩|⟨kvs,k,b,e,ey,eb,l⟩
 ·subst ey
  obtain⟨z,hd,vs,rel,dd⟩:=mZ I.hok e
  obtain⟨w',hw,rw'⟩:=RelO.some_of (v:=v) (o:=Pn vs k) (by rw[l];exact rel.val k)
  exact wpAny_getItem_of (sK ry) dd.mapOf hw (h w' _ (I.tok _) rw')
 ·subst ey
  cases (show u=JD b from ry)
  obtain⟨z,hd,xs,rel,dd⟩:=mF I.hok e
  obtain⟨w',hw,rw'⟩:=RelO.some_of (v:=v) (o:=(Oe xs k).map (·.2)) (by rw[l];exact rel.val k)
  obtain⟨p,hp,hp2⟩:=Jr.mp hw
  refine PU (LG hu) (kq I.hok eb) dd hp ?_
  rw[hp2];exact h w' _ (I.tok _) rw'
theorem jH {h':Heap}{t':Nat}{ob:HO}(I:Inv X aa σ H s)(mu:BP (H a))(hs:J9 a s.heap h')(he: ∃q,h'.get? a=some q)(new:ObjOk X.prog X.w (aI H a ob) h' a ob):
 Inv X aa σ (aI H a ob) {s with heap:=h',toks:=t'}:=
 I.write (x:=a) (e:=a) mu (.inl rfl) (λb q hb z=>(hs.2 b hb).trans z) he new
theorem yB {P:IP}{w:Jo}{H':Hp}{h':Heap}{kvs:List (aM×V)}{vs:List (aM×Ia)}(z:kvs.length<=Iy)(hd:(a==Kn)=false)(rel:KV kvs vs)(dd:h'.DictOf (aZ P w) a vs):
 ObjOk P w H' h' a (.dK kvs):=⟨z,hd,vs,rel,dd⟩
theorem xv {H':Hp}{Q:Unit->Ic->Prop}(hu:A.units+1<Ke)(I:Inv X aa σ H s)(g:DPut H a y v H')(ry:RelV y u)(rv:RelV v r)(h: ∀s',Inv X aa σ H' s'->Q () s'):
 II (model X.prog X.w) A (SH (.ref a) u r) Q E s:=by
 rcases g with⟨kvs,k,e,ey,l,eH⟩|⟨kvs,k,b,e,ey,eb,l,eH⟩
 ·subst ey eH
  obtain⟨z,hd,vs,rel,dd⟩:=yJ I.hok e
  have hz:vs.length<=sizeLine:=by rw[<-rel.length];exact z
  have hl:(eL kvs k v).length<=sizeLine:=by have:=ft kvs k v;omega
  refine wpAny_setItem_pairs (hsz:=hz) (sK ry) dd λh' dd' hs=>h _ ?_
  have he: ∃q,h'.get? a=some q:=let⟨q,_,_,hq,_⟩:=dd';⟨q,hq⟩
  exact jH I (by rw[e];exact True.intro) hs he (yB hl hd (rel.put k rv) dd')
 ·subst ey eH
  cases (show u=JD b from ry)
  obtain⟨z,hd,xs,rel,dd⟩:=yr I.hok e
  have hz:xs.length<=sizeLine:=by rw[<-Ll rel];exact z
  have hl:(eL kvs k v).length<=sizeLine:=by have:=ft kvs k v;omega
  refine wpAny_setItem_heap (hsz:=hz) (LG hu) (kq I.hok eb) dd λh' dd' hs=>h _ ?_
  obtain⟨q,es,ep,hq,h2,h3,h4,_,h5⟩:=dd'
  refine jH I (by rw[e];exact True.intro) hs ⟨q,hq⟩ ⟨hl,hd,_,(rel.put k eb rv).keeps λc ys ec=>?_,q,es,ep,hq,h2,h3,h4,h5⟩
  rw[af (ym ec e (λz=>nomatch z))]
  exact ec
end
def wI(i:Expr):Prop:= ∀ov iv,O1 i false ov iv=operate [ov,iv] (MY ov iv)
theorem v9 {prog:IP}{w:Jo}{A:Jc}{E:Ia->Ic->Prop}{s:Ic}{env:Env}{value slice:Expr}{pos:Pos}{T id:String}{Q:Ia->Ic->Prop}
 (hl:typeLookup (.type T) "__getitem__"=pure (some (.builtin id))) (hs:wI slice)
 (h:II (model prog w) A (eval value env) (λo s₁=>II (model prog w) A (eval slice env) (λi s₂=>s₂.TypeIs o T/\II (model prog w) A (MY o i) Q E s₂) E s₁) E s):
 II (model prog w) A (eval (.Subscript value slice pos) env) Q E s:=by
 refine Rm (Ji h (λo s₁ h₁=>Ji h₁ (λi s₂ h₂=>?_) λ_ _ x=>x) λ_ _ x=>x)
 obtain⟨hT,h₂⟩:=h₂
 unfold Pz;refine HZ ?_
 rw[getitemInPython_of_ne hT.not_modules];refine HZ (wpAny_specialOf hT hl ?_)
 have fin:II (model prog w) A (O1 slice false o i) (λr s₃=>II (model prog w) A (letTemporaryGo value o r>>=λ_=>pure r) Q E s₃) E s₂:=by
  rw[hs o i];exact wpAny_operating (Ji h₂ (λr s₃ h₃=>HZ (wpAny_letTemporaryGo (Ih h₃))) λ_ _ x=>x)
 first
  |exact Ih (HZ fin)
  |exact HZ (Ih (HZ fin))
  |exact HZ fin
theorem sL {X:Cx}{aa:List (Addr×Obj)}{σ:St}{H:Hp}{s:Ic}{a:Addr}{y:V}{o:Option V}(I:Inv X aa σ H s)(g:DGet H a y o):s.TypeIs (.ref a) "dict":=by
 rcases g with⟨kvs,k,e,_,_⟩|⟨kvs,k,b,e,_,_,_⟩
 ·obtain⟨_,_,vs,_,dd⟩:=mZ I.hok e
  exact dd.typeIs
 ·obtain⟨_,_,xs,_,dd⟩:=mF I.hok e
  exact dd.typeIs
def FF(td ty:TE):TE:=λσ H Q=>td σ H λx H1=>ty σ H1 λy H2=> ∃a v,x=.ref a/\DGet H2 a y (some v)/\Q v H2
def Fy(td ty tv:TE):TS:=λD σ H=>tv σ H λv H1=>td σ H1 λx H2=>ty σ H2 λy H3=> ∃a H4,x=.ref a/\DPut H3 a y v H4/\D.nx σ H4
section
variable {X:Cx}{o i e value:Expr}{pos pos' tpos:Pos}{td ty tv:TE}
theorem uN(hu:X.A.units+1<Ke)(ho:PE X o td)(hi:PE X i ty)(hs:wI i):PE X (.Subscript o i pos) (FF td ty):=by
 intro aa s σ H Q I h;refine v9 NE.lookup hs (bm (ho aa s σ H _ I h) λu s1 ⟨x,H1,I1,rx,q1⟩=>bm (hi aa s1 σ H1 _ I1 q1) λiv s2 hq_=>?_)
 obtain⟨y,H2,I2,ry,a,v,ex,g,q2⟩:=hq_
 subst ex;obtain rfl:u=JD a:=rx
 exact⟨sL I2 g,xJ hu I2 g ry λw' s3 I3 rw'=>⟨v,H2,I3,rw',q2⟩⟩
theorem vC(hu:X.A.units+1<Ke)(ho:PE X o td)(hi:PE X i ty)(hv:PE X value tv)(hs:JU value (some (.Subscript o i pos')) pos.line X.env=pure false):
 PS X (.Assign [.Subscript o i pos'] value pos) (Fy td ty tv):=by
 intro aa s σ H D I h;refine wpAny_Assign_Subscript (bm (hv aa s σ H _ I h) λr s1 ⟨v,H1,I1,rv,q1⟩=>bm (ho aa s1 σ H1 _ I1 q1) λu s2 ⟨x,H2,I2,rx,q2⟩=>bm (hi aa s2 σ H2 _ I2 q2) λiv s3 ⟨y,H3,I3,ry,a,H4,ex,g,q3⟩=>?_) hs
 subst ex;obtain rfl:u=JD a:=rx
 exact xv hu I3 g ry rv λs4 I4=>⟨σ,H4,I4,q3⟩
end
theorem r8 {P:IP}{w:Jo}{H:Hp}(h:Heap)(hb:Kn<h.objs.size):ObjOk P w H (h.push {cls:=.type "dict",data:=.dict #[]}) h.objs.size (.dK []):=
 ⟨Jh _,beq_eq_false_iff_ne.mpr (IT (IV hb)),[],.nil,X3 h⟩
theorem ql {P:IP}{w:Jo}{H:Hp}(h:Heap)(hb:Kn<h.objs.size):ObjOk P w H (h.push {cls:=.type "dict",data:=.dict #[]}) h.objs.size (.dT []):=
 ⟨Jh _,beq_eq_false_iff_ne.mpr (IT (IV hb)),[],.nil,_, #[],0,Io _ rfl,⟨rfl,rfl,rfl⟩,rfl,rfl,KM⟩
def Da:TE:=λ_ H Q=> ∀p,H p=none->Q (.ref p) (aI H p (.dK []))
def Et:TE:=λ_ H Q=> ∀p,H p=none->Q (.ref p) (aI H p (.dT []))
section
variable {X:Cx}{pos:Pos}
theorem mE:PE X (.Dict [] [] pos) Da:=λaa s σ H Q I h=>
 QD ⟨.ref s.heap.objs.size,_,I.laid (a:=s.heap.objs.size) (o:=.dK []) (t':=s.toks) (λ_ _ q=>Ib _ q) (Ie _) (r8 s.heap I.big),rfl,h _ (I.hok.fresh (Ie _))⟩
theorem zW:PE X (.Dict [] [] pos) Et:=λaa s σ H Q I h=>
 QD ⟨.ref s.heap.objs.size,_,I.laid (a:=s.heap.objs.size) (o:=.dT []) (t':=s.toks) (λ_ _ q=>Ib _ q) (Ie _) (ql s.heap I.big),rfl,h _ (I.hok.fresh (Ie _))⟩
end
def sW:List (TE×TE)->St->Hp->(List (V×V)->Hp->Prop)->Prop
 | [],_,H,Q=>Q [] H
 |(tk,tv)::r,σ,H,Q=>tk σ H λx H1=>tv σ H1 λy H2=>sW r σ H2 λps H3=>Q ((x,y)::ps) H3
abbrev VV:List (V×V)->List (Ia×Ia)->Prop:=Paired λp q=>RelV p.1 q.1/\RelV p.2 q.2
def Gh(X:Cx)(pos:Pos)(keys:List (Option Expr))(values:List Expr)(trs:List (TE×TE)):Prop:=
 ∀(aa:List (Addr×Obj)) (s:Ic) (σ:St) (H:Hp) (Q:List (V×V)->Hp->Prop),Inv X aa σ H s->sW trs σ H Q->
  II (model X.prog X.w) X.A (evalPairs (pairTrees keys values X.env pos)) (λvs s'=> ∃ps H',Inv X aa σ H' s'/\VV ps vs/\Q ps H') X.xe s
theorem vV {X:Cx}{pos:Pos}:Gh X pos [] [] []:=λaa s σ H Q I h=>pairTrees_nil_walk ⟨[],H,I,.nil,h⟩
theorem qo {X:Cx}{pos:Pos}{k v:Expr}{ks:List (Option Expr)}{vs:List Expr}{tk tv:TE}{trs:List (TE×TE)}(hk:PE X k tk)(hv:PE X v tv)(hr:Gh X pos ks vs trs):
 Gh X pos (some k::ks) (v::vs) ((tk,tv)::trs):=λaa s σ H Q I h=>
 pairTrees_cons_walk (bm (hk aa s σ H _ I h) λu s1 ⟨x,H1,I1,rx,q1⟩=>bm (hv aa s1 σ H1 _ I1 q1) λw2 s2 ⟨y,H2,I2,ry,q2⟩=>
  bm (hr aa s2 σ H2 _ I2 q2) λws s3 ⟨ps,H3,I3,rel,q3⟩=>⟨(x,y)::ps,H3,I3,.cons ⟨rx,ry⟩ rel,q3⟩)
def kP(kvs more:List (aM×V)):List (aM×V):=more.foldl (λacc kv=>eL acc kv.1 kv.2) kvs
theorem KV.merge: ∀ {more:List (aM×V)} {rs:List (aM×Ia)} {kvs:List (aM×V)} {vs:List (aM×Ia)},KV more rs->KV kvs vs->KV (kP kvs more) (merged vs rs):=by
 intro more rs kvs vs r;unfold KV at r
 induction r generalizing kvs vs with
 |nil=>intro q;exact q
 | @cons p q ps qs h t ih=>
   intro r0;have e:KV (eL kvs p.1 p.2) (stored vs q.1 q.2):=by
    have:=r0.put p.1 h.2
    rw[<-h.1];exact this
   exact ih e
theorem i9: ∀(more kvs:List (aM×V)),(kP kvs more).length<=kvs.length+more.length
 | [],kvs=>by show kvs.length<=kvs.length+0;omega
 |p::r,kvs=>by
  have h1:=i9 r (eL kvs p.1 p.2)
  have h2:=ft kvs p.1 p.2
  show(kP (eL kvs p.1 p.2) r).length<=_;rw[IK];omega
theorem me {P:IP}{w:Jo}: ∀ {kvs:List (aM×V)} {ws:List (Ia×Ia)},VV (kvs.map λkv=>(kV kv.1,kv.2)) ws-> ∃rs,Carries (aZ P w) ws rs/\KV kvs rs
 | [],_,r=>by rw[Mx] at r;cases r;exact⟨[],True.intro,.nil⟩
 |p::kvs,_,r=>by
  rw[Ip] at r;cases r with
  | @cons a b as bs h t=>
    obtain⟨rs,c,q⟩:=me (P:=P) (w:=w) t
    obtain⟨b1,b2⟩:=b
    exact⟨(p.1,b2)::rs,⟨sK h.1,rfl,c⟩,.cons ⟨rfl,h.2⟩ q⟩
def sF(trs:List (TE×TE)):TE:=λσ H Q=> ∀p,H p=none->sW trs σ (aI H p (.dK [])) λps H2=>H2 p=some (.dK [])/\ ∃kvs:List (aM×V),ps=kvs.map (λkv=>(kV kv.1,kv.2))/\kvs.length<=15/\Q (.ref p) (aI H2 p (.dK (kP [] kvs)))
theorem Bd {X:Cx}{pos:Pos}{keys:List (Option Expr)}{values:List Expr}{trs:List (TE×TE)}(h:Gh X pos keys values trs)(hall:keys.all (·.isSome)=true)(hl:keys.length=values.length)(h0:keys≠[])
 (h15:keys.length<=15):PE X (.Dict keys values pos) (sF trs):=by
 intro aa s σ H Q I q;have hn:=I.hok.fresh (Ie s.heap.objs.size)
 have I1:=I.laid (a:=s.heap.objs.size) (o:=.dK []) (h':=s.heap.push {cls:=.type "dict",data:=.dict #[]}) (t':=s.toks) (λ_ _ q=>Ib _ q) (Ie _) (r8 s.heap I.big)
 refine wpAny_Dict_walk (knd:=aZ X.prog X.w) hall hl h0 h15 (bm (h aa _ σ _ _ I1 (q _ hn)) λws s2 hq_=>?_)
 obtain⟨ps,H2,I2,rel,e,kvs,ep,lk,q2⟩:=hq_
 subst ep;obtain⟨rs,c,rk⟩:=me (P:=X.prog) (w:=X.w) rel
 obtain⟨z,hd,vs0,r0,dd⟩:=yJ I2.hok e
 cases r0
 refine⟨rs,c,dd,λh' dd' hs=>⟨.ref s.heap.objs.size,_,?_,rfl,q2⟩⟩
 have hz:(kP [] kvs).length<=sizeLine:=by
  have h1:=i9 kvs []
  rw[Q7] at h1;rw[JY];omega
 have he: ∃q,h'.get? s.heap.objs.size=some q:=let⟨q,_,_,hq,_⟩:=dd';⟨q,hq⟩
 exact jH I2 (by rw[e];exact True.intro) hs he (yB hz hd (rk.merge .nil) dd')
structure M2(X:Cx)(o:Expr)(m:Str)(apos:Pos)(e f:Expr)(cpos:Pos):Prop where
 base:LK o m X.env (eval o X.env)=eval o X.env
 few:((Ko cpos (Iu [e,f] X.env)).all (λx=> !x.1)&&(P8 cpos (NJ [] X.env)).all (λx=>x.1.isSome)
  &&decide (([e,f]:List Expr).length+([]:List Nh).length+(if([]:List Nh).isEmpty then 0 else 1)<30))=true
 line:(apos.endLine==cpos.line)=true
 trees:Ko cpos (Iu [e,f] X.env)=[(false,eval e X.env),(false,eval f X.env)]
def GP(H:Hp)(a:Addr):Prop:=(∃kvs,Rd H a (.dK kvs))\/ ∃kvs,Rd H a (.dT kvs)
theorem tE {X:Cx}{aa:List (Addr×Obj)}{σ:St}{H:Hp}{s:Ic}{a:Addr}(I:Inv X aa σ H s)(d:GP H a):
 s.TypeIs (.ref a) "dict"/\(∀b,JD a=.ref b-> ∃ob,s.heap.get? b=some ob/\ob.dict=none)/\(a==Kn)=false:=by
 rcases d with⟨kvs,e⟩|⟨kvs,e⟩
 ·obtain⟨_,hd,vs,_,dd⟩:=mZ I.hok e
  refine⟨dd.typeIs,λb q=>?_,hd⟩
  cases q
  obtain⟨ob,_,_,h1,h2,_⟩:=dd
  exact⟨ob,h1,h2.2.1⟩
 ·obtain⟨_,hd,xs,_,dd⟩:=mF I.hok e
  refine⟨dd.typeIs,λb q=>?_,hd⟩
  cases q
  obtain⟨ob,_,_,h1,h2,_⟩:=dd
  exact⟨ob,h1,h2.2.1⟩
section
variable {X:Cx}{aa:List (Addr×Obj)}{σ:St}{H:Hp}{s:Ic}{a:Addr}{y d:V}{u r:Ia}{o:Option V}{A:Jc}{E:Ia->Ic->Prop}
theorem Dv {Q:Ia->Ic->Prop}(hu:A.units+1<Ke)(I:Inv X aa σ H s)(g:DGet H a y o)(ry:RelV y u)(rd:RelV d r)(h: ∀w' s',Inv X aa σ H s'->RelV (o.getD d) w'->Q w' s'):
 II (model X.prog X.w) A (call (.builtin "dict.get") [.ref a,u,r]) Q E s:=by
 rcases g with⟨kvs,k,e,ey,l⟩|⟨kvs,k,b,e,ey,eb,l⟩
 ·subst ey
  obtain⟨z,hd,vs,rel,dd⟩:=mZ I.hok e
  refine OC MP dd.typeIs OD (Of _ _ _) (meets_dict_get_default (aZ X.prog X.w) a (sK ry) hd r) ⟨_,dd.mapOf,h _ _ (I.tok _) ?_⟩
  rw[l];exact(rel.val k).getD rd
 ·subst ey
  cases (show u=JD b from ry)
  obtain⟨z,hd,xs,rel,dd⟩:=mF I.hok e
  refine OC MP dd.typeIs OD (Of _ _ _) (meetsH_dict_get_default (Mp (aZ X.prog X.w)) a b hd r) ⟨LG hu,k,xs,kq I.hok eb,dd,h _ _ (I.tok _) ?_⟩
  rw[l];exact(rel.val k).getD rd
end
def Du(td ty tx:TE):TE:=λσ H Q=>td σ H λx H1=> ∃a,x=.ref a/\GP H1 a/\ty σ H1 λy H2=>tx σ H2 λz H3=> ∃o,DGet H3 a y o/\Q (o.getD z) H3
section
variable {X:Cx}{o e f:Expr}{apos cpos:Pos}{td ty tx:TE}
theorem mG(hu:X.A.units+1<Ke)(ho:PE X o td)(he:PE X e ty)(hf:PE X f tx)(m:M2 X o "get" apos e f cpos):PE X (.Call (.Attribute o "get" apos) [e,f] [] cpos) (Du td ty tx):=by
 intro aa s σ H Q I h;refine Qk m.base m.few m.line Mu MP PySem.F.type_dict_get (bm (ho aa s σ H _ I h) λu s1 hq_=>?_)
 obtain⟨x,H1,I1,rx,a,ex,d,q1⟩:=hq_
 subst ex;obtain rfl:u=JD a:=rx
 obtain⟨t1,t2,_⟩:=tE I1 d
 refine⟨t1,t2,?_⟩
 rw[m.trees];refine LA rfl (M0 (Ly (bm (he aa s1 σ H1 _ I1 q1) λiv s2 ⟨y,H2,I2,ry,q2⟩=>
  Ly (bm (hf aa s2 σ H2 _ I2 q2) λfv s3 ⟨z,H3,I3,rz,ov,g,q3⟩=>NI ?_))))
 exact Dv hu I3 g ry rz λw' s4 I4 rw'=>⟨_,H3,I4,rw',q3⟩
end
end L2
namespace PySem
open Sem (wp)
end PySem
namespace L2
open PySem PySem.Spec PyProof.Rows
end L2
namespace PySem
end PySem
namespace L2
open PySem PySem.Spec PyProof.Rows
def CI(K:Il):R2:=λx y H Q=> ∃a b xs ys,x=.ref a/\y=.ref b/\SqT K H a xs/\SqT K H b ys/\xs.length+ys.length<=Iy/\
 (xs=[]->Q (.ref b) H)/\(xs≠[]->ys=[]->Q (.ref a) H)/\(xs≠[]->ys≠[]-> ∀p,H p=none->Q (.ref p) (aI H p (.tup (xs++ys))))
section
variable {X:Cx}{c:Ct}{a b:Expr}{f g:FE}{pos:Pos}
theorem AH:k8 X (LI .Add) (CI X.K):=by
 intro aa s σ H x y v u Q I rx ry h;obtain⟨a,b,xs,ys,e1,e2,ha,hb,hz,q0,q1,q2⟩:=h
 by_cases hx:xs=[]
 ·subst e1 e2
  cases rx
  cases ry
  obtain⟨its,r1,p1,_⟩:=I.tuple ha
  obtain⟨its2,r2,p2,_⟩:=I.tuple hb
  obtain⟨m,F⟩:=I.fr
  have h0:its=[]:=r1.nil_iff.mpr hx
  exact add_tuples F News.nil p1 p2 (λ_=>⟨.ref b,H,I,rfl,q0 hx⟩) (λz=>absurd h0 z) (λz=>absurd h0 z) (by rw[<-r1.length,<-r2.length];exact hz)
 ·exact BE aa s σ H x y v u Q I rx ry ⟨a,b,xs,ys,e1,e2,ha,hb,hx,hz,q1 hx,q2 hx⟩
def jK:D->D->Option D
 | .tup xs,.tup ys=>if xs.length+ys.length<=Iy then some (.tup (xs++ys)) else none
 |_,_=>none
theorem AC {K:Il}:nr K .s (CI K) jK:=by
 intro H hid v u x y d Q hf h r1 r2 q;unfold jK at h;split at h
 ·split at h
  ·rename_i hc
   cases h
   obtain⟨a,xs,rfl,h0,h1,h2⟩:=r1.tup
   obtain⟨b,ys,rfl,g0,g1,g2⟩:=r2.tup
   refine⟨a,b,xs,ys,rfl,rfl,h1,g1,by rw[h2.length,g2.length];exact hc,λz=>?_,λ_ z=>?_,λ_ z p hp=>?_⟩
   ·subst z;cases h2
    exact q _ H (Same.refl _) (.tup g0 g2)
   ·subst z;cases g2
    refine q _ H (Same.refl _) ?_
    rw[JF];exact .tup h0 h2
   ·exact q _ _ (aF hp _) (eU hp (hf p hp) (h2.append g2))
  ·cases h
 ·cases h
theorem qa {k1 k2:Kd}(ha:DP X c k1 a f)(hb:DP X c k2 b g):DP X c .s (.BinOp a .Add b pos) (aB jK f g):=kZ AH AC ha hb
end
def rV(i:Nat)(ρ:aA):Option (List (aM×D)):=match ρ[i]? with
 |some (.ob (.dK kvs))=>some kvs
 |_=>none
theorem oq {i:Nat}{ρ:aA}{kvs:List (aM×D)}(h:rV i ρ=some kvs):ρ[i]? =some (.ob (.dK kvs)):=by
 unfold rV at h;split at h
 ·cases h;assumption
 ·cases h
def k6:D->Option aM
 | .int i=>some (.inl i)
 |_=>none
theorem dO {d:D}{k:aM}(h:k6 d=some k): ∃i,d=.int i/\k=.inl i:=by
 unfold k6 at h;split at h
 ·cases h;exact⟨_,rfl,rfl⟩
 ·cases h
def iw(kvs:List (aM×D))(k:aM):Option D:=(kvs.find? λkv=>decide (kv.1=k)).map (·.2)
def putD(kvs:List (aM×D))(k:aM)(d:D):List (aM×D):=
 if(kvs.any λkv=>decide (kv.1=k))=true then kvs.map (λkv=>if kv.1=k then(kv.1,d) else kv) else kvs++[(k,d)]
def KRl(K:Il)(F:Hp)(us:List (aM×V))(kvs:List (aM×D)):Prop:=us.map (·.1)=kvs.map (·.1)/\Reps K F (us.map (·.2)) (kvs.map (·.2))
theorem KRl.inv {K:Il}{F:Hp}: ∀ {us:List (aM×V)} {kvs:List (aM×D)},KRl K F us kvs->(us=[]/\kvs=[])\/ ∃k v us' d kvs',us=(k,v)::us'/\kvs=(k,d)::kvs'/\Rep K F v d/\KRl K F us' kvs'
 | [],[],_=>.inl ⟨rfl,rfl⟩
 | [],_::_,h=>by cases h.1
 |_::_,[],h=>by cases h.1
 |(k,v)::us,(k',d)::kvs,h=>by
  obtain⟨h1,h2⟩:=h
  rw[Ip,Ip] at h1 h2;injection h1 with e1 e2
  cases h2 with
  |cons r rs=>
   have e1:k=k':=e1
   subst e1;exact .inr ⟨k,v,us,d,kvs,rfl,rfl,r,e2,rs⟩
theorem KRl.val {K:Il}{F:Hp}(k:aM): ∀ {us:List (aM×V)} {kvs:List (aM×D)},KRl K F us kvs->(cR us k=none/\iw kvs k=none)\/ ∃v d,cR us k=some v/\iw kvs k=some d/\Rep K F v d:=by
 intro us
 induction us with
 |nil=>
  intro kvs h;rcases h.inv with⟨_,rfl⟩|⟨_,_,_,_,_,e,_⟩
  ·exact .inl ⟨rfl,rfl⟩
  ·cases e
 |cons p us ih=>
  intro kvs h;rcases h.inv with⟨e,_⟩|⟨k',v,us',d,kvs',e,rfl,r,rs⟩
  ·cases e
  ·cases e
   by_cases ek:k'=k
   ·exact .inr ⟨v,d,ie ek,by simp[iw,JR,ek],r⟩
   ·have e1:cR ((k',v)::us) k=cR us k:=iJ ek
    have e2:iw ((k',d)::kvs') k=iw kvs' k:=by simp[iw,JR,ek]
    rw[e1,e2];exact ih rs
theorem KRl.any {K:Il}{F:Hp}(k:aM){us:List (aM×V)}{kvs:List (aM×D)}(h:KRl K F us kvs):(us.any λkv=>decide (kv.1=k))=kvs.any λkv=>decide (kv.1=k):=by
 have e1:(us.any λkv=>decide (kv.1=k))=(us.map (·.1)).any λx=>decide (x=k):=by rw[Ql];rfl
 have e2:(kvs.any λkv=>decide (kv.1=k))=(kvs.map (·.1)).any λx=>decide (x=k):=by rw[Ql];rfl
 rw[e1,e2,h.1]
theorem KRl.cons {K:Il}{F:Hp}{k:aM}{v:V}{d:D}{us:List (aM×V)}{kvs:List (aM×D)}(r:Rep K F v d)(h:KRl K F us kvs):KRl K F ((k,v)::us) ((k,d)::kvs):=⟨by rw[Ip,Ip,h.1],.cons r h.2⟩
theorem KRl.repl {K:Il}{F:Hp}(k:aM){v:V}{d:D}(r:Rep K F v d): ∀ {us:List (aM×V)} {kvs:List (aM×D)},KRl K F us kvs->KRl K F (us.map (λkv=>if kv.1=k then(kv.1,v) else kv)) (kvs.map (λkv=>if kv.1=k then(kv.1,d) else kv)):=by
 intro us
 induction us with
 |nil=>
  intro kvs h;rcases h.inv with⟨_,rfl⟩|⟨_,_,_,_,_,e,_⟩
  ·exact h
  ·cases e
 |cons p us ih=>
  intro kvs h;rcases h.inv with⟨e,_⟩|⟨k',v',us',d',kvs',e,rfl,r',rs⟩
  ·cases e
  ·cases e
   rw[Ip,Ip]
   by_cases ek:k'=k
   ·rw[if_pos ek,if_pos ek];exact KRl.cons r (ih rs)
   ·rw[if_neg ek,if_neg ek];exact KRl.cons r' (ih rs)
theorem KRl.put {K:Il}{F:Hp}(k:aM){v:V}{d:D}(r:Rep K F v d){us:List (aM×V)}{kvs:List (aM×D)}(h:KRl K F us kvs):KRl K F (eL us k v) (putD kvs k d):=by
 unfold eL putD;rw[h.any k];split
 ·exact h.repl k r
 ·refine⟨by rw[Jv,Jv,h.1];rfl,?_⟩
  rw[Jv,Jv];exact h.2.append (.cons r .nil)
theorem KRl.len {K:Il}{F:Hp}{us:List (aM×V)}{kvs:List (aM×D)}(h:KRl K F us kvs):us.length=kvs.length:=by
 have:=congrArg LY h.1
 simpa using this
section
variable {K:Il}{c:Ct}{hid:a7}{ρ:aA}{σ:St}{H:Hp}{a:Addr}
theorem SR.dict(h:SR K c hid ρ σ H){i:Nat}{kvs:List (aM×D)}(e:rV i ρ=some kvs): ∃a us,σ[i]? =some (some (.ref a))/\hid a=true/\c.H₀ a=none/\H a=some (.dK us)/\KRl K (vw H hid) us kvs:=by
 obtain⟨a,h1,⟨h2,h3⟩,us,h4,h5,h6⟩:=h.sl i _ (oq e)
 exact⟨a,us,h1,h2,h3,h4,h5,h6⟩
theorem SR.setD {b:Ob}(h:SR K c hid ρ σ H)(ho:ObOk K c hid H a b)(no: ∀i:Nat,Ow ρ[i]? ->σ[i]? ≠some (some (.ref a)))(i:Nat):
 SR K c hid (ρ.set i (.ob b)) (σ.set i (some (.ref a))) H:=by
 refine⟨h.tr,h.ht,h.h0,h.kp,h.t0,h.c0,h.m0,by simp[h.len],λj s q=>?_,λj l z n o1 o2 q1 q2=>?_⟩
 ·by_cases e:j=i
  ·subst e
   have lt:j<ρ.length:=by
    have:=(IA.mp q).1
    simpa using this
   rw[ID lt] at q;cases q
   exact⟨a,ID (by rw[h.len];exact lt),ho⟩
  ·rw[Iv (IT e)] at q
   have w:=h.sl j s q
   have es:(σ.set i (some (V.ref a)))[j]? =σ[j]? :=Iv (IT e)
   cases s with
   |no=>trivial
   |v d=>obtain⟨x,h1,h2⟩:=w;exact⟨x,es.trans h1,h2⟩
   |own ds=>obtain⟨a,xs,h1,h2⟩:=w;exact⟨a,xs,es.trans h1,h2⟩
   |arg ds=>obtain⟨a,xs,h1,h2⟩:=w;exact⟨a,xs,es.trans h1,h2⟩
   |ob b=>obtain⟨a,h1,h2⟩:=w;exact⟨a,es.trans h1,h2⟩
 ·by_cases e1:j=i
  ·subst e1
   have e2:l≠j:=λe=>n e.symm
   rw[Iv (IT e2)] at o2 q2
   by_cases lt:j<σ.length
   ·rw[ID lt] at q1;cases q1;exact no l o2 q2
   ·rw[Ju (by simpa using lt)] at q1;cases q1
  ·rw[Iv (IT e1)] at o1 q1
   by_cases e2:l=i
   ·subst e2
    by_cases lt:l<σ.length
    ·rw[ID lt] at q2;cases q2;exact no j o1 q1
    ·rw[Ju (by simpa using lt)] at q2;cases q2
   ·rw[Iv (IT e2)] at o2 q2
    exact h.ap j l z n o1 o2 q1 q2
theorem ObOk.kind {b:Ob}(h:ObOk K c hid H a b)(o:lH b): ∃u,H a=some u/\ ∀p v,u≠ .nst p v:=by
 cases b with
 |nst us=>obtain⟨_,_,e,_⟩:=h;exact⟨_,e,nofun⟩
 |dQ kvs=>exact o.elim
 |frs d=>exact o.elim
 |dd kvs=>obtain⟨_,_,_,e,_⟩:=h;exact⟨_,e,nofun⟩
 |ddR kvs=>exact o.elim
 |dA kvs=>obtain⟨_,_,e,_⟩:=h;exact⟨_,e,nofun⟩
 |dR kvs=>exact o.elim
 |dRs l=>exact o.elim
 |exc x n=>exact o.elim
 |dK kvs=>obtain⟨_,_,e,_⟩:=h;exact⟨_,e,nofun⟩
 |dT kvs=>obtain⟨_,_,e,_⟩:=h;exact⟨_,e,nofun⟩
 |set ds=>obtain⟨_,_,e,_⟩:=h;exact⟨_,e,nofun⟩
 |old d=>exact o.elim
 |jnk=>obtain⟨_,_,e⟩:=h;exact⟨_,e,nofun⟩
 |tset ks=>obtain⟨_,_,e,_⟩:=h;exact⟨_,e,nofun⟩
 |dF kvs=>obtain⟨_,_,_,e,_⟩:=h;exact⟨_,e,nofun⟩
theorem SR.putO' {x:Addr}{i:Nat}{b b':Ob}{o':HO}(h:SR K c hid ρ σ H)(hg:ρ[i]? =some (.ob b))(ow:lH b)(ow':lH b')(ha:σ[i]? =some (some (.ref a)))(hx:At H a x)(h2:hid x=true)(h3:c.H₀ x=none\/c.mu x=true)
 (nt: ∀xs,o'≠ .tup xs) (new:ObOk K c hid (aI H x o') a b'):SR K c hid (ρ.set i (.ob b')) σ (aI H x o'):=by
 have lt:i<ρ.length:=(IA.mp hg).1
 have vv:vw (aI H x o') hid=vw H hid:=bH h2
 have tr': ∀b o,H b=some o-> ∃o2,(aI H x o') b=some o2:=λb o q=>by
  by_cases e:b=x
  ·subst e;exact⟨_,ah⟩
  ·exact⟨o,by rw[af e];exact q⟩
 have owi:Ow ρ[i]? :=by rw[hg];exact ow
 obtain⟨a2,ha2,kb⟩:=h.sl i _ hg
 rw[ha] at ha2;cases ha2;obtain⟨w,kw,kn⟩:=kb.kind ow
 have ne: ∀(j:Nat) (s:Sl) (a' y:Addr) (w':HO),j≠i->ρ[j]? =some s->Ow (some s)->σ[j]? =some (some (.ref a'))->H a'=some w'->(∀p v,w'≠ .nst p v)->At H a' y->y≠x:=λj s a' y w' n e o q hw wn hy=>by
  have na:a'≠a:=λz=>by subst z;exact h.ap j i a' n (by rw[e];exact o) owi q ha
  rcases hx with rfl|⟨u,hu⟩
  ·exact hy.ne na kw kn
  ·intro z
   subst z;rcases hy with rfl|⟨u',hu'⟩
   ·rw[hw] at hu;exact wn _ _ (Je hu)
   ·rw[hu] at hu';cases hu';exact na rfl
 have ows: ∀j:Nat,Ow (ρ.set i (.ob b'))[j]? ->Ow ρ[j]? :=λj o=>by
  by_cases e:j=i
  ·subst e;exact owi
  ·rw[Iv (IT e)] at o;exact o
 refine⟨λb hb=>let⟨o,q⟩:=h.tr b hb;tr' b o q,λb xs hb q=>by
  by_cases e:b=x
  ·subst e;rw[ah] at q;exact nt xs (Je q)
  ·rw[af e] at q;exact h.ht b xs hb q,h.h0,λb o q m=>?_,λb o q=>let⟨o2,q2⟩:=h.t0 b o q;tr' b o2 q2,h.c0,h.m0,by simp[h.len],λj s e=>?_,λj l z n o1 o2=>h.ap j l z n (ows j o1) (ows l o2)⟩
 ·have nb:b≠x:=λe=>by
   rcases h3 with h3|h3
   ·rw[e,h3] at q;cases q
   ·rw[e,h3] at m;cases m
  rw[af nb];exact h.kp b o q m
 ·by_cases ej:j=i
  ·subst ej
   rw[ID lt] at e;cases e
   exact⟨a,ha,new⟩
  ·rw[Iv (IT ej)] at e
   have z:=h.sl j s e
   cases s with
   |no=>trivial
   |v d=>obtain⟨x,h1,h2⟩:=z;exact⟨x,h1,by rw[vv];exact h2⟩
   |own ds=>obtain⟨a',xs,h1,h2,h3,h4,h5⟩:=z;exact⟨a',xs,h1,by rw[af (ne j _ a' a' _ ej e trivial h1 h2 nofun (.inl rfl))];exact h2,h3,h4,by rw[vv];exact h5⟩
   |arg ds=>obtain⟨a',xs,h1,h2,h3,h4,h5⟩:=z;exact⟨a',xs,h1,by rw[af (ne j _ a' a' _ ej e trivial h1 h2 nofun (.inl rfl))];exact h2,h3,h4,by rw[vv];exact h5⟩
   |ob b=>
    obtain⟨a',h1,h2⟩:=z
    exact⟨a',h1,h2.mono (λow y hy o q=>by
     obtain⟨w',hw,wn⟩:=h2.kind ow
     rw[af (ne j _ a' y w' ej e ow h1 hw wn hy)];exact q) (by rw[vv];exact Same.refl _) λ_ _ _ q=>q⟩
theorem SR.putO {x:Addr}{i:Nat}{b b':Ob}{o':HO}(h:SR K c hid ρ σ H)(hg:ρ[i]? =some (.ob b))(ow:lH b)(ow':lH b')(ha:σ[i]? =some (some (.ref a)))(hx:At H a x)(h2:hid x=true)(h3:c.H₀ x=none)
 (nt: ∀xs,o'≠ .tup xs) (new:ObOk K c hid (aI H x o') a b'):SR K c hid (ρ.set i (.ob b')) σ (aI H x o'):=
 h.putO' hg ow ow' ha hx h2 (.inl h3) nt new
theorem SR.putD {i:Nat}{kvs kvs':List (aM×D)}{us':List (aM×V)}(h:SR K c hid ρ σ H)(hg:rV i ρ=some kvs)(ha:σ[i]? =some (some (.ref a)))(r:KRl K (vw H hid) us' kvs'):SR K c hid (ρ.set i (.ob (.dK kvs'))) σ (aI H a (.dK us')):=by
 obtain⟨a1,us,h1,h2,h3,h4,h5⟩:=h.dict hg
 rw[ha] at h1;cases h1;exact h.putO (oq hg) trivial trivial ha (.inl rfl) h2 h3 nofun ⟨⟨h2,h3⟩,us',ah,r.1,by rw[bH h2];exact r.2⟩
end
section
variable {X:Cx}{c:Ct}{k k1 k2:Kd}{e f ek ev:Expr}{fe ff fk fv:FE}{pos pos' py apos cpos p:Pos}{x y:Str}
def vP(i:Nat):FS:=λρ=>.nx (ρ.set i (.ob (.dK [])))
theorem uW(i:Nat)(hn:X.N.Nodup)(hi:X.N[i]? =some x:=by rfl)(hx:rO X.env.scope x:=by first|exact Jp rfl|exact IQ rfl)(hs:JU (.Dict [] [] p) (some (.Name x pos')) pos.line X.env=pure false:=by rfl)
 (hf:X.fn x=true\/X.env.scope.names.lookup x=some .local:=by first|exact .inl rfl|exact .inr rfl|assumption):DS X c k (.Assign [.Name x pos'] (.Dict [] [] p) pos) (vP i):=λρ=>PS.imp (fM hn hi hx mE hs hf) λD σ H hq_=>by
 obtain⟨hid,sr,q⟩:=hq_
 intro a ha;have sm:=aF ha (.dK [])
 have nf:=sr.fresh ha
 refine q _ _ (aJ hid a) (SR.setD (a:=a) (b:=.dK []) (sr.hide sm ha ah) ⟨⟨bf,sr.fresh0 ha⟩,[],ah,rfl,.nil⟩ (sr.notOw nf) i) λb o w=>?_
 obtain⟨w1,w2⟩:=vw_some.mp w
 refine vw_some.mpr ⟨?_,sm b o w2⟩
 unfold aJ;rw[w1];have:b≠a:=aQ w2 ha
 simp[this]
def lW(i:Nat)(fk fv:FE):FS:=λρ=>match rV i ρ with
 |some kvs=>(match fv ρ with
  |some d=>(match (fk ρ).bind k6 with
   |some k=>if kvs.length<=1000 then .nx (ρ.set i (.ob (.dK (putD kvs k d)))) else .no
   |none=>.no)
  |none=>.no)
 |none=>.no
theorem wd(i:Nat)(hu:X.A.units+1<Ke)(hk:DP X c k1 ek fk)(hv:DP X c .s ev fv)(hN:X.N[i]? =some y:=by rfl)(hv':jw X.env.scope y:=by first|exact Jp rfl|exact IQ (Jp rfl)|exact IQ (IQ rfl))(hd:(y==("__debug__":Str))=false:=by decide)
 (hcd:(y==("__classdict__":Str))=false:=by decide) (hs:JU ev (some (.Subscript (.Name y py) ek pos')) pos.line X.env=pure false:=by rfl):
 DS X c k (.Assign [.Subscript (.Name y py) ek pos'] ev pos) (lW i fk fv):=λρ=>PS.imp (vC hu (pv i hN hv' hd hcd) (iC λhid=>hk hid ρ) (iC λhid=>hv hid ρ) hs) λD σ H hq_=>by
 obtain⟨hid,sr,q⟩:=hq_
 unfold lW at q;split at q
 ·rename_i kvs e0
  split at q
  ·rename_i d e1
   split at q
   ·rename_i kk e2
    split at q
    ·rename_i hz
     obtain⟨dk,e3,e4⟩:=Iq.mp e2
     obtain⟨j,rfl,rfl⟩:=dO e4
     obtain⟨a,us,a1,a2,a3,a4,a5⟩:=sr.dict e0
     refine⟨hid,sr,d,e1,λv H1 s1 r1=>⟨.ref a,a1,hid,sr.ext s1,_,e3,λz H2 s2 r2=>?_⟩⟩
     have i1:=(RK.b k1 r2 λa n=>(sr.ext s1).fresh n).int
     cases i1
     have s12:=s1.trans s2
     have hh:H2 a=some (.dK us):=s12 _ _ a4
     refine⟨a,_,rfl,DPut.k (k:=IU j) hh (by rw[a5.len];exact JA hz (by decide)),?_⟩
     have r1':Rep X.K (vw H1 hid) v d:=r1
     refine q _ _ hid ((sr.ext s12).putD e0 a1 (KRl.put (IU j) (r1'.mono (aD s2)) ⟨a5.1,a5.2.mono (aD s12)⟩)) ?_
     rw[bH a2];exact aD s12
    ·exact q.elim
   ·exact q.elim
  ·exact q.elim
 ·exact q.elim
def lT(i:Nat)(fk fd:FE):FE:=λρ=>(rV i ρ).bind λkvs=>((fk ρ).bind k6).bind λk=>(fd ρ).map λd=>(iw kvs k).getD d
theorem uQ(i:Nat)(hu:X.A.units+1<Ke)(he:DP X c k1 e fe)(hf:DP X c .s f ff)(m:M2 X (.Name y py) "get" apos e f cpos)(hN:X.N[i]? =some y:=by rfl)(hv':jw X.env.scope y:=by first|exact Jp rfl|exact IQ (Jp rfl)|exact IQ (IQ rfl))(hd:(y==("__debug__":Str))=false:=by decide)
 (hcd:(y==("__classdict__":Str))=false:=by decide):DP X c .s (.Call (.Attribute (.Name y py) "get" apos) [e,f] [] cpos) (lT i fe ff):=λhid ρ=>
 PE.imp (mG hu (pv i hN hv' hd hcd) (he hid ρ) (hf hid ρ) m) λσ H Q hq_=>by
  obtain⟨sr,d,hd,q⟩:=hq_
  obtain⟨kvs,e0,hd⟩:=Iq.mp hd
  obtain⟨kk,e1,hd⟩:=Iq.mp hd
  obtain⟨dd,e2,rfl⟩:=Jr.mp hd
  obtain⟨dk,e3,e4⟩:=Iq.mp e1
  obtain⟨j,rfl,rfl⟩:=dO e4
  obtain⟨a,us,a1,a2,a3,a4,a5⟩:=sr.dict e0
  refine⟨.ref a,a1,a,rfl,.inl ⟨us,.inl a4⟩,sr,_,e3,λz H2 s2 r2=>⟨sr.ext s2,_,e2,λw H3 s3 r3=>?_⟩⟩
  have i1:=(RK.b k1 r2 λa n=>sr.fresh n).int
  cases i1
  have s23:=s2.trans s3
  have hh:H3 a=some (.dK us):=s23 _ _ a4
  have rr:KRl X.K (vw H3 hid) us kvs:=⟨a5.1,a5.2.mono (aD s23)⟩
  refine⟨_,DGet.k (k:=IU j) hh,q _ H3 s23 ?_⟩
  rcases rr.val (IU j) with⟨v1,v2⟩|⟨v,d,v1,v2,v3⟩
  ·rw[v1,v2];exact r3
  ·rw[v1,v2];exact v3
def sI(i:Nat)(fk:FE):FE:=λρ=>(rV i ρ).bind λkvs=>((fk ρ).bind k6).bind λk=>iw kvs k
theorem pZ(i:Nat)(hu:X.A.units+1<Ke)(he:DP X c k1 e fe)(hs:wI e)(hN:X.N[i]? =some y:=by rfl)(hv':jw X.env.scope y:=by first|exact Jp rfl|exact IQ (Jp rfl)|exact IQ (IQ rfl))(hd:(y==("__debug__":Str))=false:=by decide)
 (hcd:(y==("__classdict__":Str))=false:=by decide):DP X c .s (.Subscript (.Name y py) e pos) (sI i fe):=λhid ρ=>
 PE.imp (uN hu (pv i hN hv' hd hcd) (he hid ρ) hs) λσ H Q hq_=>by
  obtain⟨sr,d,hd,q⟩:=hq_
  obtain⟨kvs,e0,hd⟩:=Iq.mp hd
  obtain⟨kk,e1,hd⟩:=Iq.mp hd
  obtain⟨dk,e3,e4⟩:=Iq.mp e1
  obtain⟨j,rfl,rfl⟩:=dO e4
  obtain⟨a,us,a1,a2,a3,a4,a5⟩:=sr.dict e0
  refine⟨.ref a,a1,sr,_,e3,λz H2 s2 r2=>?_⟩
  have i1:=(RK.b k1 r2 λa n=>sr.fresh n).int
  cases i1
  have hh:H2 a=some (.dK us):=s2 _ _ a4
  have rr:KRl X.K (vw H2 hid) us kvs:=⟨a5.1,a5.2.mono (aD s2)⟩
  rcases rr.val (IU j) with⟨v1,v2⟩|⟨v,d',v1,v2,v3⟩
  ·rw[v2] at hd;cases hd
  ·rw[v2] at hd;cases hd
   exact⟨a,v,rfl,v1▸DGet.k (k:=IU j) hh,q _ H2 s2 v3⟩
end
open PySem PySem.W PySem.Spec PyProof.Rows
section
variable {prog:IP}{w:Jo}{A:Jc}{E:Ia->Ic->Prop}{s:Ic}
theorem uI {T:String}{r d:Addr}{n:Nat}{P:Nat->Ia->Prop}{OK:Heap->Prop}{R:List Ia->Ic->Prop}(src:KdlSrc prog w T r d n P OK)(calm:A.handled=none)(good:OK s.heap)(few:n<=Iy)
 (q: ∀(g:Heap) (tk:Nat) (us:Array Ia),(∀b o,s.heap.get? b=some o->g.get? b=some o)->s.heap.objs.size<g.objs.size->Po P us n->R us.toList {s with heap:=g,toks:=tk}):II (model prog w) A (Qg (.ref r)) R E s:=by
 obtain⟨rl,dl⟩:=src.there _ good
 unfold Qg;refine HZ (O8 (LJ MN ?_))
 rw[KL MO _];show II _ A.in1 (Ox []>>=λz=>OI (.builtin "list.__iadd__" ⟨[z,.ref r],[]⟩)) _ _ s
 refine HZ (Jw (Ih ⟨PD Lf _,LJ NN ?_⟩))
 rw[KL Lf _];show II _ A.in1 (LV (.ref s.heap.objs.size) (.ref r) (.ref s.heap.objs.size)) _ _ _;have last: ∀(g:Heap) (tk:Nat) (us:Array Ia) (m:Nat),(∀b o,s.heap.get? b=some o->g.get? b=some o)->g.get? s.heap.objs.size=some {cls:=.type "list",dict:=none,data:=.seq us m,slots:= #[]}->Po P us n->
  II (model prog w) A (do
   match (<-load s.heap.objs.size).data with
    |Data.seq xs _=>pure xs.toList
    |_=>NM "internal:collect") R E {s with heap:=g,toks:=tk}:=λg tk us m kg hg hi=>HZ (Oo hg (Ih (q g tk us kg (Ix hg) hi)))
 have ext:=kdl_extend (A:=A) (s:={s with heap:=s.heap.push {cls:=.type "list",data:=.seq ([]:List Ia).toArray}})
  (R:=λz t=> ∃(g:Heap) (tk:Nat) (us:Array Ia) (m:Nat),z=.ok (.ret (.ref s.heap.objs.size))/\t={s with heap:=g,toks:=tk}/\(∀b o,s.heap.get? b=some o->g.get? b=some o)/\g.get? s.heap.objs.size=some {cls:=.type "list",dict:=none,data:=.seq us m,slots:= #[]}/\Po P us n)
  src calm (src.keep _ _ good λb _ o e=>Ib _ e) s.heap.objs.size (Kw rl) (Kw dl) (.ref s.heap.objs.size) 0 (Io _ rfl)
  (λg tk us m kg hg hi=>⟨g,tk,us,m,rfl,rfl,λb o e=>kg b o (IV (Ix e)) (Ib _ e),hg,hi⟩) few
 refine Ji ext (λz t h=>?_) λz t h=>by obtain⟨_,_,_,_,e,_⟩:=h;cases e
 cases z with
 |done f=>obtain⟨g,tk,us,m,e,rfl,kg,hg,hi⟩:=h;cases e;exact last g tk us m kg hg hi
 |again c=>exact⟨h.1,L6 h.2 λz t' hr=>by obtain⟨g,tk,us,m,rfl,rfl,kg,hg,hi⟩:=hr;exact last g tk us m kg hg hi⟩
end
section
variable {X:Cx}{c:Ct}{pos p py:Pos}{x y:Str}
theorem zZ {us:List Ia}{ns:List Int}(h:mn us ns):Vals (ns.map V.int) us:=by
 induction h with
 |nil=>exact .nil
 |cons h _ ih=>exact .cons h ih
theorem kc {K:Il}{F:Hp}: ∀ms:List Int,Reps K F (ms.map V.int) (ms.map D.int)
 | []=>.nil
 |m::ms=>.cons .int (kc ms)
def gv:List (aM×D)->Option (List Int)
 | []=>some []
 |(.inl i,_)::r=>(gv r).map (i:: ·)
 |_=>none
theorem mW: ∀ {kvs:List (aM×D)} {ns:List Int},gv kvs=some ns->kvs.map (·.1)=ns.map IU
 | [],ns,h=>by cases h;rfl
 |(.inl i,d)::r,ns,h=>by
  have h:(gv r).map (i:: ·)=some ns:=h
  obtain⟨t,e,rfl⟩:=Jr.mp h
  rw[Ip,mW e];rfl
 |(.inr _,_)::_,_,h=>by cases h
end
mutual
def LF:D->Bool
 | .lst _=>false
 | .tup ds=>tD ds
 | .scr ds=>tD ds
 |_=>true
def tD:List D->Bool
 | []=>true
 |d::ds=>LF d&&tD ds
end
def xL(hid:a7)(H:Hp):a7:=λb=>hid b&& !m8 (H b)
theorem yP {K:Il}{H:Hp}{g g':a7}(h: ∀t,g' t=false->g t=true->m8 (H t)=true){a:Addr}{xs:List V}(s:SqT K (vw H g') a xs):SqT K (vw H g) a xs:=by
 rcases s with(s|⟨o,s⟩)|s
 ·obtain⟨h1,h2⟩:=vw_some.mp s
  refine .inl (.inl (vw_some.mpr ⟨?_,h2⟩))
  cases e:g a with
  |false=>rfl
  |true=>have:=h a h1 e;rw[h2] at this;cases this
 ·obtain⟨h1,h2⟩:=vw_some.mp s
  refine .inl (.inr ⟨o,vw_some.mpr ⟨?_,h2⟩⟩)
  cases e:g a with
  |false=>rfl
  |true=>have:=h a h1 e;rw[h2] at this;cases this
 ·exact .inr s
theorem zI {K:Il}{H:Hp}{g g':a7}(h: ∀t,g' t=false->g t=true->m8 (H t)=true){a:Addr}{xs:List V}(s:SqR K (vw H g') a xs):SqR K (vw H g) a xs:=by
 rcases s with⟨o,s⟩|s
 ·obtain⟨h1,h2⟩:=vw_some.mp s
  refine .inl ⟨o,vw_some.mpr ⟨?_,h2⟩⟩
  cases e:g a with
  |false=>rfl
  |true=>have:=h a h1 e;rw[h2] at this;cases this
 ·exact .inr s
mutual
theorem qp {K:Il}{H:Hp}{g g':a7}(h: ∀t,g' t=false->g t=true->m8 (H t)=true): ∀ {v:V} {d:D},Rep K (vw H g') v d->LF d=true->Rep K (vw H g) v d
 |_,_,.non,_=>.non
 |_,_,.bl,_=>.bl
 |_,_,.int,_=>.int
 |_,_,.str,_=>.str
 |_,_,.tup s r,l=>.tup (yP h s) (dz h r (by unfold LF at l;exact l))
 |_,_,.scr s r,l=>.scr (zI h s) (dz h r (by unfold LF at l;exact l))
 |_,_,.lst s r,l=>by unfold LF at l;cases l
theorem dz {K:Il}{H:Hp}{g g':a7}(h: ∀t,g' t=false->g t=true->m8 (H t)=true): ∀ {v:List V} {d:List D},Reps K (vw H g') v d->tD d=true->Reps K (vw H g) v d
 |_,_,.nil,_=>.nil
 |_,_,.cons r rs,l=>by
  unfold tD at l;rw[Jn] at l;exact .cons (qp h r l.1) (dz h rs l.2)
end
theorem ya(hid:a7)(H:Hp):Same (vw H hid) (vw H (xL hid H)):=cL λb w=>by unfold xL at w;rw[Jn] at w;exact w.1
theorem ox {K:Il}{H:Hp}{hid:a7}{vs:List V}{ds:List D}(r:Reps1 K H (vw H hid) vs ds):Reps K (vw H (xL hid H)) vs ds:=by
 induction r with
 |nil=>exact .nil
 |cons r _ ih=>
  refine .cons ?_ ih
  rcases r with r|⟨a,xs,es,rfl,rfl,h1,h2⟩
  ·exact r.mono (ya hid H)
  ·exact .lst (vw_some.mpr ⟨by unfold xL;rw[h1];simp[m8],h1⟩) (h2.mono (ya hid H))
theorem qm {hid:a7}{H H':Hp}(tr: ∀b,hid b=true-> ∃o,H b=some o)(s:Same H H'): ∀t,xL hid H t=false->hid t=true->m8 (H' t)=true:=λt h1 h2=>by
 unfold xL at h1;rw[h2,Bool.true_and] at h1;obtain⟨o,ho⟩:=tr t h2
 rw[ho] at h1;rw[s _ _ ho];simpa using h1
section
variable {X:Cx}{c:Ct}{e:Expr}{es:List Expr}{pos p:Pos}{x:Str}{ps:List Str}{j n:Nat}
theorem vX {P:List D->Option D}{ds:List D}{d:D}(h:nF n P ds=some d):ds.length=n/\P ds=some d:=by
 have h:(if ds.length=n then P ds else none)=some d:=h
 split at h
 ·exact⟨‹_›,h⟩
 ·cases h
def A3(f:FE):FE:=λρ=>(f ρ).bind λd=>if LF d=true then some d else none
def EH(f:FE):FE:=λρ=>(f ρ).bind λd=>match d with
 | .lst ds=>if tD ds=true then some (.lst ds) else none
 |_=>none
theorem wc {P:List D->Option D}{fs:FA}(C:Cl X.prog X.w X.K X.mg X.base j x ps (fj X.K .s n P))(hr:Room j X.A)
 (ha:DB X c (e::es) fs) (hg:Gl X x:=by rfl) (hdb:(x==("__debug__":Str))=false:=by decide) (he:Iu (e::es) X.env=(false,eval e X.env)::Iu es X.env:=by rfl) (hpl:(Ko pos (Iu es X.env)).any (·.1)=false:=by rfl):
 DP X c .s (.Call (.Name x p) (e::es) [] pos) (A3 (aq (nF n P) fs)):=by
 obtain⟨f,fd,F,hm,hk,hb⟩:=C.ex
 exact λhid ρ=>PE.imp (iX F hr hg hm hk hb .nil (nW (X:=X)) (ha hid ρ) hdb he hpl) λσ H Q hq_=>by
  obtain⟨sr,d,hd,q⟩:=hq_
  obtain⟨d',h1,h2⟩:=Iq.mp hd
  split at h2
  ·rename_i hl
   cases h2
   obtain⟨ds,g1,g2⟩:=ge h1
   obtain⟨g3,g4⟩:=vX g2
   refine⟨sr,ds,g1,λvs H1 s1 r1=>?_⟩
   have t1:=(sr.ext s1).tr
   show fj X.K .s n P (vs++[]) H1 Q E0;rw[JF];exact⟨xL hid H1,ds,⟨λb w=>t1 b (by unfold xL at w;rw[Jn] at w;exact w.1),λb xs w=>(sr.ext s1).ht b xs (by unfold xL at w;rw[Jn] at w;exact w.1)⟩,ox r1,g3,_,g4,λv H' s' r=>q v H' (s1.trans s') (qp (qm t1 s') r hl)⟩
  ·cases h2
theorem BT {P:List D->Option D}{fs:FA}(C:Cl X.prog X.w X.K X.mg X.base j x ps (fj X.K .n n P))(hr:Room j X.A)
 (ha:DB X c (e::es) fs) (hg:Gl X x:=by rfl) (hdb:(x==("__debug__":Str))=false:=by decide) (he:Iu (e::es) X.env=(false,eval e X.env)::Iu es X.env:=by rfl) (hpl:(Ko pos (Iu es X.env)).any (·.1)=false:=by rfl):
 DP X c .n (.Call (.Name x p) (e::es) [] pos) (EH (aq (nF n P) fs)):=by
 obtain⟨f,fd,F,hm,hk,hb⟩:=C.ex
 exact λhid ρ=>PE.imp (iX F hr hg hm hk hb .nil (nW (X:=X)) (ha hid ρ) hdb he hpl) λσ H Q hq_=>by
  obtain⟨sr,d,hd,q⟩:=hq_
  obtain⟨d',h1,h2⟩:=Iq.mp hd
  split at h2
  ·rename_i ys
   split at h2
   ·rename_i hl
    cases h2
    obtain⟨ds,g1,g2⟩:=ge h1
    obtain⟨g3,g4⟩:=vX g2
    refine⟨sr,ds,g1,λvs H1 s1 r1=>?_⟩
    have t1:=(sr.ext s1).tr
    show fj X.K .n n P (vs++[]) H1 Q E0;rw[JF];refine⟨xL hid H1,ds,⟨λb w=>t1 b (by unfold xL at w;rw[Jn] at w;exact w.1),λb xs w=>(sr.ext s1).ht b xs (by unfold xL at w;rw[Jn] at w;exact w.1)⟩,ox r1,g3,_,g4,λv H' s' r=>q v H' (s1.trans s') ?_⟩
    obtain⟨a,xs,zs,e1,rfl,e3,e4,e5⟩:=r
    cases e1
    refine⟨a,xs,ys,rfl,rfl,s1.free e3,e4,dz (λt w1 w2=>?_) e5 hl⟩
    unfold aJ at w1 w2
    by_cases ta:t=a
    ·subst ta;rw[e4];rfl
    ·refine qm t1 s' t ?_ ?_
     ·simpa [ta] using w1
     ·simpa [ta] using w2
   ·cases h2
  ·cases h2
end
section
variable {K:Il}{c:Ct}{hid:a7}{ρ:aA}{σ:St}{H H':Hp}
theorem SR.setNo(h:SR K c hid ρ σ H)(i:Nat)(u:Option V):SR K c hid (ρ.set i .no) (σ.set i u) H:=by
 refine⟨h.tr,h.ht,h.h0,h.kp,h.t0,h.c0,h.m0,by simp[h.len],λj s q=>?_,λj l z n o1 o2 q1 q2=>?_⟩
 ·by_cases e:j=i
  ·subst e
   have lt:j<ρ.length:=by
    have:=(IA.mp q).1
    simpa using this
   rw[ID lt] at q;cases q
   trivial
  ·rw[Iv (IT e)] at q
   have w:=h.sl j s q
   have es:(σ.set i u)[j]? =σ[j]? :=Iv (IT e)
   cases s with
   |no=>trivial
   |v d=>obtain⟨x,h1,h2⟩:=w;exact⟨x,es.trans h1,h2⟩
   |own ds=>obtain⟨a,xs,h1,h2⟩:=w;exact⟨a,xs,es.trans h1,h2⟩
   |arg ds=>obtain⟨a,xs,h1,h2⟩:=w;exact⟨a,xs,es.trans h1,h2⟩
   |ob b=>obtain⟨a,h1,h2⟩:=w;exact⟨a,es.trans h1,h2⟩
 ·have nj: ∀m,Ow (ρ.set i .no)[m]? ->m≠i:=λm o e=>by
   subst e
   by_cases lt:m<ρ.length
   ·rw[ID lt] at o;exact o
   ·rw[Ju (by simpa using lt)] at o;exact o
  have e1:=nj j o1
  have e2:=nj l o2
  rw[Iv (IT e1)] at o1 q1;rw[Iv (IT e2)] at o2 q2;exact h.ap j l z n o1 o2 q1 q2
end
def Cf:Sl->Sl->Option Sl
 | .no,_=>some .no
 | .v d,_=>some (.v d)
 | .own _,.own b=>if tD b=true then some (.own b) else none
 | .arg _,.arg b=>if tD b=true then some (.arg b) else none
 |_,_=>none
def lh:aA->aA->Option aA
 | [],_=>some []
 |s::r,s2::r2=>(Cf s s2).bind λs3=>(lh r r2).map (s3:: ·)
 |_::_,[]=>none
theorem qN: ∀ {ρ ρ2 ρ3:aA},lh ρ ρ2=some ρ3->ρ3.length=ρ.length
 | [],_,_,h=>by cases h;rfl
 |s::r,[],_,h=>by cases h
 |s::r,s2::r2,ρ3,h=>by
  obtain⟨s3,h1,h2⟩:=Iq.mp (show(Cf s s2).bind (λs3=>(lh r r2).map (s3:: ·))=some ρ3 from h)
  obtain⟨r3,h3,h4⟩:=Jr.mp h2
  subst h4;simp[qN h3]
theorem lB: ∀ {ρ ρ2 ρ3:aA} {j:Nat} {s3:Sl},lh ρ ρ2=some ρ3->ρ3[j]? =some s3-> ∃s,ρ[j]? =some s/\(s3=s/\(s=.no\/ ∃d,s=.v d)\/ ∃s2,ρ2[j]? =some s2/\s3=s2/\((∃a b,s=.own a/\s2=.own b/\tD b=true)\/ ∃a b,s=.arg a/\s2=.arg b/\tD b=true))
 | [],_,_,_,_,h,e=>by cases h;simp at e
 |s::r,[],_,_,_,h,_=>by cases h
 |s::r,s2::r2,ρ3,j,x,h,e=>by
  obtain⟨s3,h1,h2⟩:=Iq.mp (show(Cf s s2).bind (λs3=>(lh r r2).map (s3:: ·))=some ρ3 from h)
  obtain⟨r3,h3,h4⟩:=Jr.mp h2
  subst h4;cases j with
  |zero=>
   have e:s3=x:=by simpa using e
   subst e;refine⟨s,rfl,?_⟩
   unfold Cf at h1;split at h1
   ·cases h1;exact .inl ⟨rfl,.inl rfl⟩
   ·cases h1;exact .inl ⟨rfl,.inr ⟨_,rfl⟩⟩
   ·split at h1
    ·cases h1;exact .inr ⟨_,rfl,rfl,.inl ⟨_,_,rfl,rfl, ‹_›⟩⟩
    ·cases h1
   ·split at h1
    ·cases h1;exact .inr ⟨_,rfl,rfl,.inr ⟨_,_,rfl,rfl, ‹_›⟩⟩
    ·cases h1
   ·cases h1
  |succ j=>
   obtain⟨s',z1,z2⟩:=lB (j:=j) h3 (by simpa using e)
   exact⟨s',by simpa using z1,by simpa using z2⟩
section
variable {K:Il}{c:Ct}{hid1 hid2 hidD:a7}{ρ ρ2 ρ3:aA}{σ σ2:St}{H H':Hp}
theorem kN(e:lh ρ ρ2=some ρ3){j:Nat}(o:Ow ρ3[j]?):Ow ρ[j]? /\Ow ρ2[j]? :=by
 cases z:ρ3[j]? with
 |none=>rw[z] at o;exact o.elim
 |some s3=>
  rw[z] at o;obtain⟨s,h1,h2⟩:=lB e z
  rcases h2 with⟨rfl,rfl|⟨d,rfl⟩⟩|⟨s2,h3,rfl,⟨a,b,rfl,rfl,_⟩|⟨a,b,rfl,rfl,_⟩⟩
  ·exact o.elim
  ·exact o.elim
  ·exact⟨by rw[h1];trivial,by rw[h3];trivial⟩
  ·exact⟨by rw[h1];trivial,by rw[h3];trivial⟩
theorem SR.mix(h:SR K c hid1 ρ σ H)(w:Same (vw H hid1) (vw H' hidD))(h2:SR K c hid2 ρ2 σ2 H')(tr:Ap hidD H')(h0: ∀b,c.hid₀ b=true->hidD b=true)(le: ∀b,hid2 b=true->hidD b=true)
 (lo: ∀t,hid2 t=false->hidD t=true->m8 (H' t)=true) (e:lh ρ ρ2=some ρ3) (ow: ∀j:Nat,Ow ρ[j]? ->Ow ρ2[j]? ->σ2[j]? =σ[j]?):SR K c hidD ρ3 σ H':=by
 refine⟨tr.1,tr.2,h0,h2.kp,h2.t0,h.c0,h.m0,by rw[qN e];exact h.len,λj s3 z=>?_,λi j a n o1 o2=>h.ap i j a n (kN e o1).1 (kN e o2).1⟩
 obtain⟨s,h1,hh⟩:=lB e z
 rcases hh with⟨rfl,rfl|⟨d,rfl⟩⟩|⟨s2,h3,rfl,⟨a,b,rfl,rfl,lf⟩|⟨a,b,rfl,rfl,lf⟩⟩
 ·trivial
 ·obtain⟨x,q1,q2⟩:=h.sl j _ h1
  exact⟨x,q1,q2.mono w⟩
 ·obtain⟨a',xs,q1,q2,q3,q4,q5⟩:=h2.sl j _ h3
  rw[ow j (by rw[h1];trivial) (by rw[h3];trivial)] at q1
  exact⟨a',xs,q1,q2,le _ q3,q4,dz lo q5 lf⟩
 ·obtain⟨a',xs,q1,q2,q3,q4,q5⟩:=h2.sl j _ h3
  rw[ow j (by rw[h1];trivial) (by rw[h3];trivial)] at q1
  exact⟨a',xs,q1,q2,le _ q3,q4,dz lo q5 lf⟩
end
def AM:D->Option (List Int)
 | .tup ds=>gP ds
 |_=>none
theorem wO {d:D}{ns:List Int}(h:AM d=some ns):d=.tup (ns.map D.int):=by
 unfold AM at h;split at h
 ·rw[f6 h]
 ·cases h
theorem qW {K:Il}{F:Hp}: ∀ {xs:List V} {ns:List Int},Reps K F xs (ns.map D.int)->xs=(ns.map IU).map kV
 |_,[],h=>by cases h;rfl
 |_,n::ns,h=>by
  cases h with
  |cons r rs=>cases r;rw[qW rs];rfl
section
variable {X:Cx}{aa:List (Addr×Obj)}{σ:St}{H:Hp}{s:Ic}{a b:Addr}{A:Jc}{E:Ia->Ic->Prop}
theorem En {ks:List aM}(I:Inv X aa σ H s)(h:SqT X.K H b (ks.map kV)):(Mp (aZ X.prog X.w)).is s.heap ks b:=by
 obtain⟨its,r,⟨o,h1,h2,n,h3⟩,_⟩:=I.tuple h
 exact⟨o,its.toArray,n,h1,h2,h3,by simpa using kz r⟩
end
section
variable {X:Cx}{c:Ct}{k k1 k2:Kd}{e f ev:Expr}{es:List Expr}{fe ff fk fv:FE}{fs:FA}{pos pos' py apos cpos p:Pos}{x y:Str}{x1:_}
def iK(ns:List Int):List aM:=ns.map IU
end
def RawAt(h:Heap)(d:Addr)(es:Array N5)(ep:Nat):Prop:= ∃o,h.get? d=some o/\o.ExactDict/\o.data=.dict es ep
section
variable {prog:IP}{w:Jo}{A:Jc}{E:Ia->Ic->Prop}{s:Ic}{d it:Addr}{es:Array N5}{ep i:Nat}
theorem RawAt.ty(h:RawAt s.heap d es ep):s.TypeIs (.ref d) "dict":=let⟨o,h1,h2,_⟩:=h;⟨o,h1,h2.1⟩
theorem sx {Q:Ia->Ic->Prop}(lo:(d==Kn)=false)(x:RawAt s.heap d es ep)
 (q:Q (.ref s.heap.objs.size) {s with heap:=s.heap.push {cls:=.type "dict_keyiterator",data:=.fields #[.ref d,.int 0 0,.int es.size 0,.int ep 0]}}):II (model prog w) A (PM (.ref d)) Q E s:=by
 have ty:=x.ty
 obtain⟨o,g1,g2,g3⟩:=x
 refine wpAny_pyIter_slot ty QE (JX QE ty F.entry_dict_iter ?_ (F.args_dict_iter_1 _))
 unfold NK.«dict.__iter__»;refine HZ ?_
 unfold RO;refine HZ (OX ty ?_)
 show II _ _ (pure (JD d)) _ _ s;refine Ih ?_
 show II _ _ (OY d>>=_) _ _ s;unfold OY;rw[if_neg (by rw[lo];exact Kq)]
 refine HZ (Ih (HZ (ME g1 g3 (HZ (ON g1 g3 ?_)))))
 refine HZ (Jw (Ih ⟨_,rfl,"dict_keyiterator",_,⟨_,Io _ rfl,rfl⟩,Kl.lookup,?_⟩))
 simpa [MT] using q
theorem qh {Q:Option Ia->Ic->Prop}(hit:s.heap.IsKeyIter it d i es.size ep)(x:RawAt s.heap d es ep)(hi:i<es.size)
 (q: ∀h',h'.IsKeyIter it d (i+1) es.size ep->J9 it s.heap h'->Q (some es[i].key) {s with heap:=h'}):II (model prog w) A (MS (.ref it)) Q E s:=by
 obtain⟨o,k1,k2,k3⟩:=id hit
 obtain⟨od,g1,g2,g3⟩:=id x
 unfold MS;refine HZ (MZ (JS (name:=Lz "__next__") hit.typeIs Kl (JX Kl hit.typeIs M5 ?_ (MV _))))
 refine HZ (Ih (HZ (HZ ?_)))
 first|refine HZ (KN hit.typeIs (Ih (HZ (Ny k1 k3 ?_))))|refine HZ (Lq hit.typeIs (Ih (HZ (Ny k1 k3 ?_))))
 simp only[show Nb "dict_keyiterator"=false by decide,JG,if_false]
 show II _ _ (if(JD d==Jm)=true then _ else _) _ _ s;rw[if_neg (show¬((JD d==Jm)=true) from Kq)]
 refine HZ (Ih (HZ (ME g1 g3 ?_)))
 rw[if_neg (by simp)]
 refine HZ (Ih (HZ (ON g1 g3 ?_)))
 rw[if_neg (by simp)]
 refine Ih ?_
 simp only[show¬((i:Int)<0) from by omega,if_false,KP,La hi]
 refine HZ ?_
 first|refine HZ (KN hit.typeIs (Ih (HZ (MQ hit.typeIs ?_))))|refine HZ (Lq hit.typeIs (Ih (HZ (MQ hit.typeIs ?_))))
 show II _ _ (RA (.ref it) 1 (MT ((i:Int)+1))>>=_) _ _ s;refine HZ (Nv k1 k3 (by simp) ?_)
 have nx:(s.heap.update it (Si (·.setIfInBounds 1 (MT ((i:Int)+1))))).IsKeyIter it d (i+1) es.size ep:=⟨_,Ki _ k1 (LO (Mo k3 _)),(Qi ..).trans k2,by rw[Mo k3];simp[MT]⟩
 refine HZ (Kj (HZ (MQ (s:={s with heap:=s.heap.update it (Si (·.setIfInBounds 1 (MT ((i:Int)+1))))}) nx.typeIs ?_)))
 show II _ _ (pure es[i].key) _ _ _;exact Ih (Ih ⟨_,rfl,Ih (q _ nx (KB ..))⟩)
theorem v8 {Q:Option Ia->Ic->Prop}(calm:A.handled=none)(hit:s.heap.IsKeyIter it d es.size es.size ep)(x:RawAt s.heap d es ep)
 (q: ∀h',Pa it s.heap h'->Q none {s with heap:=h'}):II (model prog w) A (MS (.ref it)) Q E s:=by
 obtain⟨o,k1,k2,k3⟩:=id hit
 obtain⟨od,g1,g2,g3⟩:=id x
 unfold MS;refine HZ (MZ (JS (name:=Lz "__next__") hit.typeIs Kl (JX Kl hit.typeIs M5 ?_ (MV _))))
 refine HZ (Ih (HZ (HZ ?_)))
 first|refine HZ (KN hit.typeIs (Ih (HZ (Ny k1 k3 ?_))))|refine HZ (Lq hit.typeIs (Ih (HZ (Ny k1 k3 ?_))))
 simp only[show Nb "dict_keyiterator"=false by decide,JG,if_false]
 show II _ _ (if(JD d==Jm)=true then _ else _) _ _ s;rw[if_neg (show¬((JD d==Jm)=true) from Kq)]
 refine HZ (Ih (HZ (ME g1 g3 ?_)))
 rw[if_neg (by simp)]
 refine HZ (Ih (HZ (ON g1 g3 ?_)))
 rw[if_neg (by simp)]
 refine Ih ?_
 simp only[show¬((es.size:Int)<0) from by omega,if_false,KP,Array.getElem?_eq_none (Ie es.size)]
 refine HZ ?_
 first|refine HZ (KN hit.typeIs (Ih ?_))|refine HZ (Lq hit.typeIs (Ih ?_))
 show II _ _ (RA (.ref it) 0 .none>>=_) _ _ s;refine HZ (Nv k1 k3 (by simp) ?_)
 show II _ _ (Wt (.type "StopIteration") []>>=_) _ _ _;refine HZ ?_
 simp only[Wt,UZ];refine HZ (Jw (HZ (m:=Nw _ _) (QQ (a:=Jm) (by first|rfl|(simp only[Nw];rfl)) (Jw ?_ (by size_fits)))) (by size_fits))
 simp only[raiseNew];refine HZ (Sh ?_)
 rw[show A.in1.handled=none from calm];refine HZ (Ih (wpAny_throw ?_));refine HZ (QB (T:="StopIteration") (b:=true) ⟨_,Io _ rfl,rfl⟩ RB ?_)
 exact Ih (q _ (((KB ..).extBut.push _).push _))
end
abbrev HF(H:Hp):List V->List (List Int)->Prop:=Paired λy ks=> ∃b,y=.ref b/\H b=some (.tup (ks.map V.int))
theorem zj {H:Hp}: ∀ {us:List (List aM×V)} {xs:List (List aM×Addr×Ia)} {kss:List (List Int)},KTd H us xs->us.map (·.1)=kss.map iK->HF H (xs.map λx=>V.ref x.2.1) kss
 |_,_,[],r,e=>by
  cases r with
  |nil=>exact .nil
  |cons _ _=>cases e
 |_,_,ks::kss,r,e=>by
  cases r with
  |nil=>cases e
  | @cons p q ps qs h t=>
    rw[Ip,Ip] at e;injection e with e1 e2
    refine .cons ⟨q.2.1,rfl,?_⟩ (zj t e2)
    rw[h.2.1,e1];unfold iK;rw[Jl];rfl
theorem uR: ∀xs:List (List aM×Addr×Ia),Vals (xs.map λx=>V.ref x.2.1) (xs.map λx=>JD x.2.1)
 | []=>.nil
 |_::xs=>.cons rfl (uR xs)
section
variable {X:Cx}
theorem qZ {K:Il}{H:Hp}{hid:a7}(ht: ∀b xs,hid b=true->H b≠some (.tup xs)): ∀ {ys:List V} {kss:List (List Int)},HF H ys kss->Reps K (vw H hid) ys (kss.map eJ)
 |_,[],h=>by cases h;exact .nil
 |_,ks::kss,h=>by
  cases h with
  |cons h1 h2=>
   obtain⟨b,rfl,hb⟩:=h1
   refine .cons (.tup (.inl (.inl (vw_some.mpr ⟨?_,hb⟩))) (kc ks)) (qZ ht h2)
   cases e:hid b with
   |false=>rfl
   |true=>exact absurd hb (ht b _ e)
end
set_option maxHeartbeats 4000000
def Ht(a:Addr)(o:Obj)(us:List (List aM×V))(ys:List V):It:=⟨λi H=>H a=some (.frz o (.dT us))/\i<ys.length,λi H x H'=>H'=H/\ys[i]? =some x,λi H=>H a=some (.frz o (.dT us))/\i=ys.length⟩
theorem wM {P:IP}{w:Jo}{K:Il}{tg:Expr}(a it:Addr){o:Obj}{us:List (List aM×V)}{es:Array N5}{ep:Nat}{ys:List V}(hex:o.ExactDict)(hd:o.data=.dict es ep)(rv:Vals ys (es.toList.map (·.key))):
 Turn P w K tg (Ht a o us ys) [it] it (λi h=>h.IsKeyIter it a i es.size ep) where
 mem:=by simp
 obj:=λi h st b hb=>by
  have e:b=it:=by simpa using hb
  subst e;obtain⟨o,e,c,d⟩:=st
  exact⟨o,e,λv z=>by rw[d] at z;cases z⟩
 keep:=λi h h' st k=>st.at λo e=>k it (by simp) o e
 item:=by
  intro X hP hw hK hc i aa s σ H E I hf st hg;subst hP hw hK;obtain⟨hH,hlt⟩:=hg
  have hl:=rv.length
  rw[Ir,IW (xs:=es)] at hl;have hi:i<es.size:=by omega
  obtain⟨ho,_⟩:=(show ObjOk X.prog X.w H s.heap a (.frz o (.dT us)) from I.hok a _ hH)
  obtain⟨f0,f1,f2,f3,f4,f5⟩:=hf it (by simp)
  obtain⟨u,hu,ru⟩:=rv.get (i:=i) (x:=ys[i]) (Ig hlt)
  have hu':u=es[i].key:=by
   rw[Jd,KD,La hi] at hu;exact(Je hu).symm
  refine qh st ⟨o,ho,hex,hd⟩ hi λh' st' sb=>?_
  have I1:Inv X aa σ H {s with heap:=h'}:=I.turned (t':=s.toks) (λb o hb e=>(sb.2 b hb).trans e) f0 f1 f3 f4 f5
  obtain⟨o',e,c,d⟩:=id st'
  exact⟨_,rfl,qD (s:={s with heap:=h'}) e c d (by decide) ⟨ys[i],H,I1,by rw[<-hu'];exact ru,⟨rfl,Ig hlt⟩,st',λb hb=>(hf b hb).1⟩⟩
 done:=by
  intro X hP hw hK hc i aa s σ H E I hf st hg;subst hP hw hK;obtain⟨hH,rfl⟩:=hg
  obtain⟨ho,_⟩:=(show ObjOk X.prog X.w H s.heap a (.frz o (.dT us)) from I.hok a _ hH)
  obtain⟨f0,f1,f2,f3,f4,f5⟩:=hf it (by simp)
  have hl:=rv.length
  rw[Ir,IW (xs:=es)] at hl;rw[hl] at st;exact v8 (I.ok.hd hc) st ⟨o,ho,hex,hd⟩ λh' eb=>⟨rfl,I.turned (t':=s.toks) (λb o hb e=>eb b o hb e) f0 f1 f3 f4 f5⟩
 self:=λ_ _ _ _ _ st h=>Pc st h
def G8(td:TE):TI:=λσ H R=>td σ H λx H1=> ∃a o us,x=.ref a/\H1 a=some (.frz o (.dT us))/\ ∀xs,KTd H1 us xs->R (Ht a o us (xs.map λx=>V.ref x.2.1)) H1
theorem C1 {X:Cx}{tg l:Expr}{tl:TE}(hl:PE X l tl):PI X tg l (G8 tl):=by
 intro aa s σ H R I h;refine bm (hl aa s σ H _ I h) λv s1 hq_=>?_
 obtain⟨x,H1,I1,r1,q1⟩:=hq_
 obtain⟨a,o,us,e,hq,q⟩:=q1
 subst e;cases r1
 obtain⟨g0,z,lo,xs,r,o',es,ep,g1,g2,g3,g4,g5⟩:=(show ObjOk X.prog X.w H1 s1.heap a (.frz o (.dT us)) from I1.hok a _ hq)
 rw[g0] at g1;cases g1
 have rv:Vals (xs.map λx=>V.ref x.2.1) (es.toList.map (·.key)):=by
  rw[g4,Jl];exact uR xs
 refine sx lo ⟨o,g0,g2,g3⟩ ?_
 refine⟨s1.heap.objs.size,[s1.heap.objs.size],_,_,H1,rfl,I1.kept (t':=s1.toks) λb o e=>Ib _ e,wM a _ g2 g3 rv,⟨_,Io _ rfl,rfl,rfl⟩,λb hb=>?_,q xs r⟩
 have e:b=s1.heap.objs.size:=by simpa using hb
 subst e;exact I1.fpOk (Ie _) (I1.hok.fresh (Ie _))
section
variable {X:Cx}{aa:List (Addr×Obj)}{σ:St}{H:Hp}{s:Ic}{a b:Addr}{A:Jc}{E:Ia->Ic->Prop}
theorem DU {kvs:List (List aM×V)}{k:List aM}{v:V}{Q:Ia->Ic->Prop}(hu:A.units+1<Ke)(I:Inv X aa σ H s)(e:Rd H a (.dT kvs))(eb:SqT X.K H b (k.map kV))(l:cR kvs k=some v)
 (h: ∀w' s',Inv X aa σ H s'->RelV v w'->Q w' s'):II (model X.prog X.w) A (MY (.ref a) (.ref b)) Q E s:=by
 obtain⟨z,hd,xs,rel,dd⟩:=mF I.hok e
 obtain⟨w',hw,rw'⟩:=RelO.some_of (v:=v) (o:=(Oe xs k).map (·.2)) (by rw[<-l];exact rel.val k)
 obtain⟨p,hp,hp2⟩:=Jr.mp hw
 refine PU (LG hu) (En I eb) dd hp ?_
 rw[hp2];exact h w' _ (I.tok _) rw'
end
section
variable {X:Cx}{o i:Expr}{pos:Pos}{td ty:TE}
def E2(K:Il)(td ty:TE):TE:=λσ H Q=>td σ H λx H1=>ty σ H1 λy H2=> ∃a b kvs k v,x=.ref a/\y=.ref b/\Rd H2 a (.dT kvs)/\SqT K H2 b (k.map kV)/\cR kvs k=some v/\Q v H2
theorem Dl(hu:X.A.units+1<Ke)(ho:PE X o td)(hi:PE X i ty)(hs:wI i):PE X (.Subscript o i pos) (E2 X.K td ty):=by
 intro aa s σ H Q I h;refine v9 NE.lookup hs (bm (ho aa s σ H _ I h) λu s1 ⟨x,H1,I1,rx,q1⟩=>bm (hi aa s1 σ H1 _ I1 q1) λiv s2 hq_=>?_)
 obtain⟨y,H2,I2,ry,a,b,kvs,k,v,ex,ey,g1,g2,g3,q2⟩:=hq_
 subst ex ey;obtain rfl:u=JD a:=rx
 obtain rfl:iv=JD b:=ry
 refine⟨?_,DU hu I2 g1 g2 g3 λw' s3 I3 rw'=>⟨v,H2,I3,rw',q2⟩⟩
 obtain⟨_,_,xs,_,dd⟩:=mF I2.hok g1
 exact dd.typeIs
end
section
variable {X:Cx}{c:Ct}{k k1 k2:Kd}{e f ev:Expr}{es:List Expr}{fe ff fk fv:FE}{fs:FA}{pos pos' py apos cpos p:Pos}{x y:Str}{x1:_}{tg:Expr}
def HW(K:Il)(c:Ct)(hid:a7)(fk:aA->Option (List Int))(ρ:aA):TE:=λσ H Q=>SR K c hid ρ σ H/\ ∃ns,fk ρ=some ns/\ ∀b H',Same H H'->H' b=some (.tup (ns.map V.int))->Q (.ref b) H'
def DK(X:Cx)(c:Ct)(e:Expr)(fk:aA->Option (List Int)):Prop:= ∀hid ρ,PE X e (HW X.K c hid fk ρ)
theorem vK {K:Il}{F:Hp}: ∀ {xs:List V} {ns:List Int},Reps K F xs (ns.map D.int)->xs=ns.map V.int
 |_,[],h=>by cases h;rfl
 |_,n::ns,h=>by
  cases h with
  |cons r rs=>cases r;rw[vK rs];rfl
def um(f:FE):aA->Option (List Int):=λρ=>(f ρ).bind λd=>match d with
 | .lst ds=>gP ds
 |_=>none
theorem xW(he:DP X c k1 e fe)(hm:X.mg "tuple"=none)(hg:Gl X "tuple":=by rfl)(hv:J5 "tuple"=some (.type "tuple"):=by kernel_rfl)
 (hs:Iu [e] X.env=(false,eval e X.env)::Iu [] X.env:=by rfl) (hpl:(Ko pos (Iu [] X.env)).any (·.1)=false:=by rfl):DK X c (.Call (.Name "tuple" p) [e] [] pos) (um fe):=λhid ρ=>
 PE.imp (fU nG hg hm hv (be (he hid ρ) cy hs) (by decide) (by decide) hs hpl) λσ H Q hq_=>by
  obtain⟨sr,ns,e,q⟩:=hq_
  obtain⟨d,e1,e⟩:=Iq.mp e
  cases d with
  |lst ds=>
   have e5:=f6 e
   subst e5;refine⟨sr,_,e1,λv H2 s2 r2=>?_⟩
   obtain⟨a,xs,rfl,h1,h2⟩:=Rep1.lst (RK.b k1 r2 λa n=>sr.fresh n)
   rw[vK h2] at h1;exact⟨a,_,rfl,.inl ⟨h1,λl hl=>q l _ (s2.trans (aF hl _)) ah⟩⟩
  |_=>cases e
end
section
variable {X:Cx}{aa:List (Addr×Obj)}{σ:St}{H:Hp}{s:Ic}{d p:Addr}{u u':HO}
theorem Inv.re(I:Inv X aa σ H s)(e:H d=some u)(mu:BP (some u))(t: ∀H',ObjOk X.prog X.w H' s.heap d u->ObjOk X.prog X.w H' s.heap d u'):Inv X aa σ (aI H d u') s:=by
 have nt: ∀b xs,H b=some (.tup xs)->b≠d:=λb xs q z=>by subst z;rw[e] at q;cases q;exact mu
 have no: ∀b y,H b=some (.own y)->b≠d:=λb xs q z=>by subst z;rw[e] at q;cases q;exact mu
 have q:=I.hok d u e
 obtain⟨o,ho⟩:=q.there
 exact I.write (x:=d) (e:=d) (t':=s.toks) (h':=s.heap) (by rw[e];exact mu) (.inl rfl) (λb v _ hv=>hv) ⟨o,ho⟩ (t _ (q.stay (λb v _ h=>h) (λb h=>by rw[af (no b _ h)];exact h) λb xs h=>by rw[af (nt b xs h)];exact h))
theorem Inv.nest(I:Inv X aa σ H s)(e:H d=some u)(mu:BP (some u)):Inv X aa σ (aI H d (.nst p u)) s:=I.re e mu λ_ h=>h
theorem Inv.unnest(I:Inv X aa σ H s)(e:H d=some (.nst p u)):Inv X aa σ (aI H d u) s:=I.re e trivial λ_ h=>h
theorem Inv.freeze(I:Inv X aa σ H s)(e:H d=some (.nst p u)): ∃o,Inv X aa σ (aI H d (.frz o u)) s:=by
 obtain⟨o,ho⟩:=(I.hok d _ e).there
 exact⟨o,I.re e trivial λ_ h=>⟨ho,h⟩⟩
end
section
variable {X:Cx}{e o i:Expr}{st:Stmt}{t:TS}{pos pos':Pos}{value:Expr}{td ty tv:TE}
theorem PS.post(h:PS X st t):PS X st (λD σ H=>t {D with nx:=λσ' H'=> ∀aa s,Inv X aa σ' H' s-> ∃H'',Inv X aa σ' H'' s/\D.nx σ' H''} σ H):=by
 intro aa s σ H D I q;refine bm (h aa s σ H _ I q) λf s' z=>?_
 cases f with
 |next=>
  obtain⟨σ',H',I',w⟩:=z
  obtain⟨H'',I'',w'⟩:=w aa s' I'
  exact⟨σ',H'',I'',w'⟩
 |brk=>exact z
 |cont=>exact z
 |ret u=>exact z
end
section
variable {K:Il}{c:Ct}{hid:a7}{ρ:aA}{σ:St}{H:Hp}{a:Addr}
theorem Paired.get {α β:Type}{F:α->β->Prop}: ∀ {l₁:List α} {l₂:List β} {i:Nat} {y:β},Paired F l₁ l₂->l₂[i]? =some y-> ∃x,l₁[i]? =some x/\F x y
 |_,_,_,_,.nil,e=>by simp at e
 |_,_,0,_,.cons r _,e=>by simp at e;subst e;exact⟨_,rfl,r⟩
 |_,_,i+1,y,.cons _ t,e=>by
  obtain⟨u,h1,h2⟩:=Paired.get (i:=i) (y:=y) t (by simpa using e)
  exact⟨u,by simpa using h1,h2⟩
theorem NOk.at {b:Addr}{u:NO}(h:NOk K c hid H a b u):(hid b=true/\c.H₀ b=none)/\ ∃o,H b=some (.nst a o):=by
 cases u with
 |l ds=>obtain⟨h1,_,h2,_⟩:=h;exact⟨h1,_,h2⟩
 |k kvs=>obtain⟨h1,_,h2,_⟩:=h;exact⟨h1,_,h2⟩
end
section
variable {K:Il}{c:Ct}{hid:a7}{ρ:aA}{σ:St}{H:Hp}{a x:Addr}
theorem nQ {b:Addr}(h:fV hid x b=true):hid b=true/\b≠x:=by
 unfold fV at h;rw[Jn] at h;exact⟨h.1,by simpa using h.2⟩
theorem gC {b:Addr}(n:b≠x):fV hid x b=hid b:=by unfold fV;simp[n]
theorem kO {u':HO}(hh:hid x=true):Same (vw H hid) (vw (aI H x u') (fV hid x)):=λb o q=>by
 obtain⟨q1,q2⟩:=vw_some.mp q
 have n:b≠x:=λe=>by subst e;rw[hh] at q1;cases q1
 exact vw_some.mpr ⟨by rw[gC n];exact q1,by rw[af n];exact q2⟩
theorem Cr {u':HO}:vw (aI H x u') (fV hid x) x=some u':=vw_some.mpr ⟨by unfold fV;simp,ah⟩
theorem SR.reveal {u':HO}(h:SR K c hid ρ σ H)(hh:hid x=true)(h0:c.H₀ x=none)(no: ∀(i:Nat) a',Ow ρ[i]? ->σ[i]? =some (some (.ref a'))-> ¬At H a' x):SR K c (fV hid x) ρ σ (aI H x u'):=by
 have sm:Same (vw H hid) (vw (aI H x u') (fV hid x)):=kO hh
 have n0: ∀b o,c.H₀ b=some o->b≠x:=λb o q e=>by subst e;rw[h0] at q;cases q
 have ne: ∀(i:Nat) (s:Sl) (a' y:Addr),ρ[i]? =some s->Ow (some s)->σ[i]? =some (some (.ref a'))->At H a' y->y≠x:=λi s a' y e o q hy z=>by
  subst z;exact no i a' (by rw[e];exact o) q hy
 refine⟨λb hb=>?_,λb xs hb=>?_,λb hb=>?_,λb o q m=>by rw[af (n0 b o q)];exact h.kp b o q m,λb o q=>by rw[af (n0 b o q)];exact h.t0 b o q,h.c0,h.m0,h.len,λi s e=>?_,h.ap⟩
 ·obtain⟨h1,h2⟩:=nQ hb
  rw[af h2];exact h.tr b h1
 ·obtain⟨h1,h2⟩:=nQ hb
  rw[af h2];exact h.ht b xs h1
 ·obtain⟨o,q⟩:=h.c0 b hb
  rw[gC (n0 b o q)];exact h.h0 b hb
 ·have z:=h.sl i s e
  cases s with
  |no=>trivial
  |v d=>obtain⟨x,h1,h2⟩:=z;exact⟨x,h1,h2.mono sm⟩
  |own ds=>
   obtain⟨a',xs,h1,h2,h3,h4,h5⟩:=z
   have n:=ne i _ a' a' e trivial h1 (.inl rfl)
   exact⟨a',xs,h1,by rw[af n];exact h2,by rw[gC n];exact h3,h4,h5.mono sm⟩
  |arg ds=>
   obtain⟨a',xs,h1,h2,h3,h4,h5⟩:=z
   have n:=ne i _ a' a' e trivial h1 (.inl rfl)
   exact⟨a',xs,h1,by rw[af n];exact h2,by rw[gC n];exact h3,h4,h5.mono sm⟩
  |ob b=>
   obtain⟨a',h1,h2⟩:=z
   exact⟨a',h1,h2.mono (λow y hy o q=>by rw[af (ne i _ a' y e ow h1 hy)];exact q) sm λow y hy q=>by rw[gC (ne i _ a' y e ow h1 hy)];exact q⟩
theorem SR.mark {i:Nat}{s:Sl}(h:SR K c hid ρ σ H)(hs:SlOk K c hid σ H i s)(no: ¬Ow (some s)):SR K c hid (ρ.set i s) σ H:=by
 have ow: ∀j:Nat,Ow (ρ.set i s)[j]? ->Ow ρ[j]? :=λj o=>by
  by_cases e:j=i
  ·subst e
   by_cases lt:j<ρ.length
   ·rw[ID lt] at o;exact absurd o no
   ·rw[Ju (by simpa using lt)] at o;exact o.elim
  ·rw[Iv (IT e)] at o;exact o
 refine⟨h.tr,h.ht,h.h0,h.kp,h.t0,h.c0,h.m0,by simp[h.len],λj s' e=>?_,λj l z n o1 o2=>h.ap j l z n (ow j o1) (ow l o2)⟩
 by_cases ej:j=i
 ·subst ej
  have lt:j<ρ.length:=by
   have:=(IA.mp e).1
   simpa using this
  rw[ID lt] at e;cases e
  exact hs
 ·rw[Iv (IT ej)] at e
  exact h.sl j s' e
theorem SR.kind {j:Nat}{s:Sl}(h:SR K c hid ρ σ H)(e:ρ[j]? =some s)(o:Ow (some s))(q:σ[j]? =some (some (.ref a))): ∃u,H a=some u/\ ∀p v,u≠ .nst p v:=by
 have z:=h.sl j s e
 cases s with
 |no=>exact o.elim
 |v d=>exact o.elim
 |own ds=>obtain⟨a',xs,h1,h2,_⟩:=z;rw[q] at h1;cases h1;exact⟨_,h2,nofun⟩
 |arg ds=>obtain⟨a',xs,h1,h2,_⟩:=z;rw[q] at h1;cases h1;exact⟨_,h2,nofun⟩
 |ob b=>obtain⟨a',h1,h2⟩:=z;rw[q] at h1;cases h1;exact h2.kind o
end
def Hz:NO->Option (List (aM×D))
 | .k kvs=>some kvs
 |_=>none
theorem Paired.mem {α β:Type}{F:α->β->Prop}: ∀ {l₁:List α} {l₂:List β} {x:α},Paired F l₁ l₂->x∈l₁-> ∃y,F x y
 |_,_,_,.nil,e=>by cases e
 |_,_,_,.cons r t,e=>by
  rcases IC.mp e with rfl|e
  ·exact⟨_,r⟩
  ·exact Paired.mem t e
theorem Paired.off {α β:Type}{F G:α->β->Prop}: ∀ {l₁:List α} {l₂:List β},Paired F l₁ l₂->(∀x y,x∈l₁->F x y->G x y)->Paired G l₁ l₂
 |_,_,.nil,_=>.nil
 |_,_,.cons r t,k=>.cons (k _ _ Is r) (Paired.off t λx y h=>k x y (Ii _ h))
section
variable {X:Cx}{c:Ct}{aa:List (Addr×Obj)}{σ:St}{s:Ic}{a:Addr}{β:Type}{conv:NO->Option β}{R:Hp->Addr->β->Prop}
def Cs(X:Cx)(c:Ct)(aa:List (Addr×Obj))(σ:St)(s:Ic)(conv:NO->Option β)(R:Hp->Addr->β->Prop):Prop:=
 (∀W W' b v,Same W W'->R W b v->R W' b v)/\ ∀hid H a b u v,NOk X.K c hid H a b u->conv u=some v->Inv X aa σ H s-> ∃u',(∀p w,u'≠ .nst p w)/\Inv X aa σ (aI H b u') s/\ ∀W,W b=some u'->Same (vw H hid) W->R W b v
theorem BX:Cs X c aa σ s Hz (DRd X.K):=by
 refine⟨λW W' b v sm h=>h.mono sm,λhid H a b u v n e I=>?_⟩
 cases u with
 |l ds=>cases e
 |k kvs=>
  cases e
  obtain⟨_,us,h1,h2,h3⟩:=n
  obtain⟨o,I'⟩:=I.freeze h1
  exact⟨.frz o (.dK us),nofun,I',λW hW sm=>⟨o,us,hW,h2,h3.mono sm⟩⟩
theorem xg(L:Cs X c aa σ s conv R){ρ:aA}: ∀ {bs:List Addr} {us:List NO} {vs:List β} {hid:a7} {H:Hp},Paired (NOk X.K c hid H a) bs us->us.mapM conv=some vs->bs.Nodup->(∀b∈bs,∀(i:Nat) a',Ow ρ[i]? ->σ[i]? =some (some (.ref a'))-> ¬At H a' b)->
 Inv X aa σ H s->SR X.K c hid ρ σ H-> ∃H' hid',Inv X aa σ H' s/\SR X.K c hid' ρ σ H'/\Same (vw H hid) (vw H' hid')/\Paired (R (vw H' hid')) bs vs/\(∀y,y∉bs->H' y=H y/\hid' y=hid y)/\ ∀y p w,H' y=some (.nst p w)->H y=some (.nst p w):=by
 intro bs
 induction bs with
 |nil=>
  intro us vs hid H pr e nd no I sr;cases pr
  cases e
  exact⟨H,hid,I,sr,Same.refl _,.nil,λy _=>⟨rfl,rfl⟩,λ_ _ _ q=>q⟩
 |cons b bs ih=>
  intro us vs hid H pr e nd no I sr;cases pr
  rename_i u us r t;rw[RC] at e;obtain⟨v,e1,e⟩:=Iq.mp e
  obtain⟨vs',e2,e⟩:=Iq.mp e
  cases e
  obtain⟨u',n',I1,hR⟩:=L.2 hid H a b u v r e1 I
  have hb:=r.at.1
  have sr1:=sr.reveal (u':=u') hb.1 hb.2 (no b Is)
  have sm1:Same (vw H hid) (vw (aI H b u') (fV hid b)):=kO hb.1
  obtain⟨nb,nd'⟩:=Jq.mp nd
  have back: ∀y p w,aI H b u' y=some (.nst p w)->H y=some (.nst p w):=λy p w q=>by
   by_cases ey:y=b
   ·subst ey;rw[ah] at q;cases q;exact absurd rfl (n' _ _)
   ·rw[af ey] at q;exact q
  have t1:Paired (NOk X.K c (fV hid b) (aI H b u') a) bs us:=by
   refine L2.Paired.off t λb2 u2 hb2 r2=>?_
   have n2:b2≠b:=λz=>by subst z;exact nb hb2
   exact r2.mono (λw q=>by rw[af n2];exact q) sm1 λ_=>by rw[gC n2];exact r2.at.1.1
  obtain⟨H',hid',I2,sr2,sm2,pr2,k2,b2⟩:=ih t1 e2 nd' (λb' hb' i a' o q hat=>no b' (Ii _ hb') i a' o q (hat.imp id λ⟨w,hw⟩=>⟨w,back _ _ _ hw⟩)) I1 sr1
  refine⟨H',hid',I2,sr2,sm1.trans sm2,.cons (L.1 _ _ _ _ sm2 (hR _ Cr sm1)) pr2,λy hy=>?_,λy p w q=>back _ _ _ (b2 y p w q)⟩
  rw[IC,not_or] at hy;obtain⟨k3,k4⟩:=k2 y hy.2
  exact⟨k3.trans (af hy.1),k4.trans (gC hy.1)⟩
end
section
variable {X:Cx}{c:Ct}{k:Kd}{st:Stmt}{t:FS}
theorem BK {ρ:aA}{i:Nat}{a b:Sl}:(ρ.set i a).set i b=ρ.set i b:=by simp
end
def yD(i:Nat)(ρ:aA):Option (List (aM×D)):=match ρ[i]? with
 |some (.ob (.dR kvs))=>some kvs
 |_=>none
theorem oy {i:Nat}{ρ:aA}{kvs:List (aM×D)}(h:yD i ρ=some kvs):ρ[i]? =some (.ob (.dR kvs)):=by
 unfold yD at h;split at h
 ·cases h;assumption
 ·cases h
section
variable {X:Cx}{c:Ct}{k1:Kd}{e tg:Expr}{fe:FE}{pos py:Pos}{x y:Str}
def yX(i:Nat)(fk:FE):FE:=λρ=>(yD i ρ).bind λkvs=>((fk ρ).bind k6).bind λk=>iw kvs k
theorem Bm(i:Nat)(hu:X.A.units+1<Ke)(he:DP X c k1 e fe)(hs:wI e)(hN:X.N[i]? =some y:=by rfl)(hv':jw X.env.scope y:=by first|exact Jp rfl|exact IQ (Jp rfl)|exact IQ (IQ rfl))(hd:(y==("__debug__":Str))=false:=by decide)
 (hcd:(y==("__classdict__":Str))=false:=by decide):DP X c .s (.Subscript (.Name y py) e pos) (yX i fe):=λhid ρ=>
 PE.imp (uN hu (pv i hN hv' hd hcd) (he hid ρ) hs) λσ H Q hq_=>by
  obtain⟨sr,d,hd,q⟩:=hq_
  obtain⟨kvs,e0,hd⟩:=Iq.mp hd
  obtain⟨kk,e1,hd⟩:=Iq.mp hd
  obtain⟨dk,e3,e4⟩:=Iq.mp e1
  obtain⟨j,rfl,rfl⟩:=dO e4
  obtain⟨a,a1,o,us,a2,a3,a4⟩:=sr.sl i _ (oy e0)
  refine⟨.ref a,a1,sr,_,e3,λz H2 s2 r2=>?_⟩
  have i1:=(RK.b k1 r2 λa n=>sr.fresh n).int
  cases i1
  have hh:H2 a=some (.frz o (.dK us)):=s2 _ _ (bF _ _ _ _ a2)
  have rr:KRl X.K (vw H2 hid) us kvs:=⟨a3,a4.mono (aD s2)⟩
  rcases rr.val (IU j) with⟨v1,v2⟩|⟨v,d',v1,v2,v3⟩
  ·rw[v2] at hd;cases hd
  ·rw[v2] at hd;cases hd
   exact⟨a,v,rfl,v1▸ .inl ⟨us,IU j,.inr ⟨o,hh⟩,rfl,rfl⟩,q _ H2 s2 v3⟩
end
section
variable {X:Cx}{c:Ct}{kx vx elt t1 t2 i1 i2:Expr}{ifs1 ifs2:List Expr}{scope:KO}{pos pos' spos:Pos}{N':List Str}{m n1:Nat}{gi1 gi2:FA}{g1 g2:FG}{p1 p2:FT}{f fk fv:FE}{k:Kd}{x:Str}
theorem we {H H':Hp}{hid:a7}{a:Addr}(sm:Same H H')(ha:H a=none):Same (vw H hid) (vw H' (aJ hid a)):=λb o w=>by
 obtain⟨w1,w2⟩:=vw_some.mp w
 refine vw_some.mpr ⟨?_,sm b o w2⟩
 unfold aJ;rw[w1];have:b≠a:=aQ w2 ha
 simp[this]
end
end L2
namespace PySem
open PySem PySem.Spec PyProof.Rows
section
variable {prog:IP}{w:Jo}{A:Jc}{E:Ia->Ic->Prop}{s:Ic}
theorem ny {l:Addr}{us:Array Ia}{n:Nat}{Q:Ia->Ic->Prop}(ho:s.heap.get? l=some {cls:=.type "list",data:=.seq us n})
 (h: ∀g,Na g (s.heap.objs.size+1) s.heap.objs.size 0 .none->g.IsListIter s.heap.objs.size l 0->g.objs.size=s.heap.objs.size+2->(∀b o,s.heap.get? b=some o->g.get? b=some o)->Q (.ref (s.heap.objs.size+1)) {s with heap:=g}):
 II (model prog w) A (call (.type "enumerate") [.ref l]) Q E s:=by
 refine Qj PR (by decide) (OB _) (OV _) (λobj=>M4 obj _) OW (meets_enumerate_new l us n) ⟨ho,?_⟩
 have hz:(s.heap.push {cls:=.type "list_iterator",data:=.fields #[.ref l,.int 0 0]}).objs.size=s.heap.objs.size+1:=J8 ..
 show _/\_;rw[hz];have he:Na ((s.heap.push {cls:=.type "list_iterator",data:=.fields #[.ref l,.int 0 0]}).push {cls:=.type "enumerate",data:=.fields #[.none,.bool false,.ref s.heap.objs.size,MT 0,.none,.none]}) (s.heap.objs.size+1) s.heap.objs.size 0 .none:=by
  have:=Io (s.heap.push {cls:=.type "list_iterator",data:=.fields #[.ref l,.int 0 0]}) (o:={cls:=.type "enumerate",data:=.fields #[.none,.bool false,.ref s.heap.objs.size,MT 0,.none,.none]}) rfl
  rw[hz] at this;exact this
 exact⟨⟨_,he,rfl⟩,h _ he ⟨_,Ib _ (Io _ rfl),rfl,rfl⟩ (by rw[J8,hz]) λb o x=>Ib _ (Ib _ x)⟩
end
end PySem
namespace L2
open PySem PySem.Spec PyProof.Rows
def Hn(K:Il)(a:Addr):It:=
 ⟨λi H=> ∃xs x,SqL K H a xs/\xs[i]? =some x,λi H x H'=> ∃T,x=.ref T/\H T=none/\ ∀xs,SqL K H a xs-> ∃y,xs[i]? =some y/\H'=aI H T (.tup [.int i,y]),λi H=> ∃xs,SqL K H a xs/\xs.length<=i⟩
theorem uz {P:IP}{w:Jo}{K:Il}{es:List Expr}{x1}{pos:Pos}(a it e:Addr)(hei:e≠it):Turn P w K (.Tuple es x1 pos) (Hn K a) [e,it] e (λi h=>(∃old,Na h e it i old)/\h.IsListIter it a i) where
 mem:=by simp
 obj:=λi h st b hb=>by
  obtain⟨⟨old,he⟩,o,ho,hc,hd⟩:=st
  rcases IC.mp hb with rfl|hb
  ·exact⟨_,he,λv z=>by cases z⟩
  ·have:b=it:=by simpa using hb
   subst this;exact⟨o,ho,λv z=>by rw[hd] at z;cases z⟩
 keep:=λi h h' st k=>by
  obtain⟨⟨old,he⟩,hit⟩:=st
  exact⟨⟨old,k e (by simp) _ he⟩,hit.at λo x=>k it (by simp) o x⟩
 item:=by
  intro X hP hw hK hc i aa s σ H E I hf st hg;subst hP hw hK;obtain⟨xs,x,hq,hx⟩:=hg
  obtain⟨its,rv,p,hz⟩:=I.list hq
  obtain⟨u,hu,ru⟩:=rv.get hx
  obtain⟨⟨old,he⟩,hit⟩:=st
  obtain⟨e0,e1,e2,e3,e4,e5⟩:=hf e (by simp)
  obtain⟨f0,f1,f2,f3,f4,f5⟩:=hf it (by simp)
  have ht:=p.isList
  refine wpAny_pyNext_enum_item (x:=u) he hit ht (by simpa using hu) hei λg hout hit' hT hsz hk=>⟨_,rfl,?_⟩
  refine Nx hout λg' he' hs'=>?_
  have elt:e<s.heap.objs.size:=Ix he
  have k2: ∀b o,b≠e->b≠it->s.heap.get? b=some o->g'.get? b=some o:=λb o h1 h2 h3=>(hs'.2 b h1).trans (hk b o h1 h2 h3)
  have hT':g'.get? s.heap.objs.size=some {cls:=.type "tuple",data:=.seq #[.int i s.toks,u]}:=(hs'.2 _ (Kw elt)).trans hT
  have hn:H s.heap.objs.size=none:=I.hok.fresh (Ie _)
  have I1:Inv X aa σ (aI H s.heap.objs.size (.tup [.int i,x])) {s with heap:=g',toks:=s.toks+1}:=by
   obtain⟨oi,hoi,hci,hdi⟩:=id (show g'.IsListIter it a (i+1) from hit'.at λo y=>(hs'.2 it (IT hei)).trans y)
   obtain⟨os0,hos0,_⟩:=id hit
   have ilt:it<s.heap.objs.size:=Ix hos0
   have I0:Inv X aa σ (aI H s.heap.objs.size (.tup [.int i,x])) {s with heap:=s.heap.push {cls:=.type "tuple",data:=.seq #[.int i s.toks,u]},toks:=s.toks+1}:=
    I.laid (t':=s.toks+1) (λb o q=>Ib _ q) (Ie _) (show ObjOk X.prog X.w _ _ _ (.tup [.int i,x]) from
     ⟨Le (fT (by simp)),[.int i s.toks,u],.cons ⟨_,rfl⟩ (.cons ru .nil),⟨_,Io _ rfl,rfl,_,rfl⟩,_,Io _ rfl,rfl⟩)
   have u1:((s.heap.push {cls:=.type "tuple",data:=.seq #[.int i s.toks,u]}).update it λ_=>oi).get? it=some oi:=Ki (λ_=>oi) (Ib _ hos0) (LO hdi)
   have I1:Inv X aa σ (aI H s.heap.objs.size (.tup [.int i,x])) {s with heap:=(s.heap.push {cls:=.type "tuple",data:=.seq #[.int i s.toks,u]}).update it λ_=>oi,toks:=s.toks+1}:=
    I0.turned (t':=s.toks+1) (λb o hb q=>(Ka _ _ (IT hb)).trans q) (by rw[af (IV ilt)];exact f0) f1 f3 f4 f5
   refine I1.turned (t':=s.toks+1) (λb o hb q=>?_) (by rw[af (IV elt)];exact e0) e1 e3 e4 e5
   by_cases hbi:b=it
   ·subst hbi
    have q':((s.heap.push {cls:=.type "tuple",data:=.seq #[.int i s.toks,u]}).update b λ_=>oi).get? b=some o:=q
    rw[u1] at q';cases q';exact hoi
   ·have q':((s.heap.push {cls:=.type "tuple",data:=.seq #[.int i s.toks,u]}).update it λ_=>oi).get? b=some o:=q
    rw[Ka _ _ (IT hbi)] at q'
    by_cases hbT:b=s.heap.objs.size
    ·subst hbT
     rw[Io _ rfl] at q';cases q'
     exact hT'
    ·rw[NP _ _ _ hbT] at q'
     exact k2 b o hb hbi q'
  refine⟨.ref s.heap.objs.size,aI H s.heap.objs.size (.tup [.int i,x]),I1,rfl,⟨_,rfl,hn,λys hy=>⟨x,by rw[I.list_inj hy hq];exact hx,rfl⟩⟩,⟨⟨u,by simpa using he'⟩,hit'.at λo y=>(hs'.2 it (IT hei)).trans y⟩,λb hb=>?_⟩
  rcases IC.mp hb with rfl|hb
  ·rw[af (IV elt)];exact e0
  ·have:b=it:=by simpa using hb
   subst this;obtain⟨o,ho,_⟩:=hit
   rw[af (IV (Ix ho))];exact f0
 done:=by
  intro X hP hw hK hc i aa s σ H E I hf st hg;subst hP hw hK;obtain⟨xs,hq,hx⟩:=hg
  obtain⟨its,rv,p,hz⟩:=I.list hq
  obtain⟨⟨old,he⟩,hit⟩:=st
  obtain⟨f0,f1,f2,f3,f4,f5⟩:=hf it (by simp)
  have hl:=rv.length
  have hh:=I.ok.hd hc
  refine wpAny_pyNext_enum_end hh he hit p.isList (by simp;omega) λg k=>⟨rfl,I.turned (t':=s.toks) (λb o hb z=>k b o hb z) f0 f1 f3 f4 f5⟩
 self:=λ_ _ _ _ _ st h=>let⟨⟨_,he⟩,_⟩:=st;MC he h
section
variable {X:Cx}{c:Ct}{k:Kd}{es:List Expr}{x1:Nat}{tp pos p:Pos}
def x8(f:FE):FA:=λρ=>(f ρ).bind λd=>match d with
 | .lst ds=>some (js ds)
 |_=>none
theorem uF {K:Il}{W:Hp}{a:Addr}{xs:List V}{ds:List D}(h1:SqL K W a xs)(h2:Reps K W xs ds):ItOk K W (Hn K a) (js ds):=by
 have l:=h2.length
 have el:(js ds).length=ds.length:=by simp[js]
 refine⟨λi d H e s=>?_,λH s=>⟨_,Same.seq s h1,by rw[el,<-l];exact Ie _⟩⟩
 have hi:i<ds.length:=by rw[<-el];exact(IA.mp e).1
 have ex:xs[i]? =some xs[i]:=Ig (by omega)
 refine⟨⟨_,xs[i],Same.seq s h1,ex⟩,λy H' ⟨T,e2,hT,e3⟩=>?_⟩
 subst e2;obtain⟨z,e4,e5⟩:=e3 _ (Same.seq s h1)
 subst e5;refine⟨aF hT _,λhid tr sw=>?_⟩
 have hf:hid T=false:=by
  cases eh:hid T with
  |false=>rfl
  |true=>obtain⟨o,ho⟩:=tr T eh;rw[hT] at ho;cases ho
 obtain⟨d',e6,r6⟩:=h2.get' e4
 have ed:d=.tup [.int i,d']:=by
  unfold js at e;rw[Jd,Mb hi] at e;have:ds.getD i .non=d':=by simp[JH,e6]
  rw[Ld,this] at e;exact(Je e).symm
 rw[ed];exact eU hT hf (.cons .int (.cons (r6.mono sw) .nil))
theorem xc {iter:Expr}{f:FE}(h:DP X c .s iter f)(hm:X.mg "enumerate"=none)(hg:Gl X "enumerate":=by rfl)(hs:Iu [iter] X.env=[(false,eval iter X.env)]:=by rfl):DIp X c (.Tuple es x1 tp) (.Call (.Name "enumerate" p) [iter] [] pos) (x8 f):=by
 intro hid ρ aa s σ H R I hq;obtain⟨sr,ds,hd,q⟩:=hq
 unfold x8 at hd;cases e1:f ρ with
 |none=>rw[e1] at hd;cases hd
 |some z=>
  rw[e1] at hd;cases z with
  |lst us=>
   cases hd
   refine Call_ (jo (u:=.type "enumerate") I hg hm (by kernel_rfl) (Kt (bm (be (h hid ρ) cy hs pos aa s σ H (λvs H'=> ∃v,vs=[v]/\Same H H'/\Rep X.K (vw H' hid) v (.lst us)) I ⟨sr,_,e1,λv H' s' r=>⟨v,rfl,s',r⟩⟩) λvs s1 ⟨ws,H1,I1,r1,w,e,s',r⟩=>?_) hs rfl))
   subst e;cases r1 with
   |cons ra rb=>
    cases rb
    cases r with
    |lst t1 t2=>
     cases ra
     have t1':SqL X.K (vw H1 hid) _ _:=SqL.of t1
     obtain⟨its,n,rv,pt,hz⟩:=I1.lst (bF _ _ _ _ t1)
     refine ny pt λg he hit hsz hk=>?_
     refine MC he ⟨_,[s1.heap.objs.size+1,s1.heap.objs.size],_,_,H1,rfl,I1.kept (t':=s1.toks) λb o e=>hk b o e,uz _ _ _ (Kw (JT _)),⟨⟨_,he⟩,hit⟩,λb hb=>?_,q _ H1 s' (uF t1' t2)⟩
     rcases IC.mp hb with rfl|hb
     ·exact I1.fpOk (LZ _) (I1.hok.fresh (LZ _))
     ·have:b=s1.heap.objs.size:=by simpa using hb
      subst this;exact I1.fpOk (Ie _) (I1.hok.fresh (Ie _))
  |_=>cases hd
end
set_option maxHeartbeats 1000000
open PySem PyProof.Rows
def cH:Bool->IG->Array IG->Nat->Nat->Nat->StateT JI Sem (Option Nat):=sortPriv% PySem.Builtin.gallop
abbrev tO(left:Bool)(key:IG)(arr:Array IG)(base i:Nat):StateT JI Sem (Option Bool):=do
 let x <-Mh arr (base+i)
 if left then lt' x key else return(<-lt' key x).map (!·)
theorem uc(left:Bool)(key:IG)(arr:Array IG)(base n hint:Nat):cH left key arr base n hint=(do
 let mut lastofs:=0
 let mut ofs:=1
 let mut lo:=0
 let mut hi:=0
 let some right <-tO left key arr base hint|return none
 if right then
  let maxofs:=n-hint
  for _ in [0:n] do
   if ofs≥maxofs then break
   let some more <-tO left key arr base (hint+ofs)|return none
   if !more then break
   lastofs:=ofs
   ofs:=2*ofs+1
  lo:=hint+lastofs+1
  hi:=hint+min ofs maxofs
 else
  let maxofs:=hint+1
  for _ in [0:n] do
   if ofs≥maxofs then break
   let some found <-tO left key arr base (hint-ofs)|return none
   if found then break
   lastofs:=ofs
   ofs:=2*ofs+1
  lo:=hint+1-min ofs maxofs
  hi:=hint-lastofs
 for _ in [0:n] do
  if lo≥hi then break
  let m:=lo+(hi-lo) / 2
  let some more <-tO left key arr base m|return none
  if more then lo:=m+1 else hi:=m
 return some hi):=rfl
abbrev bj:Keyed:=(Jm,Jm)
structure Cmp(prog:IP)(w:Jo)(A:Jc)(E:Ia->Ic->Prop)(s:Ic)(κ:L0)(P:IG->Prop)(L:IG->IG->Bool):Prop where
 ask: ∀x y,P x->P y-> ∀(st:JI) (Q:Option Bool->JI->Prop),kindOf st=κ->Q (some (L x y)) st->wpS (model prog w) A E s (lt' x y) Q st
 tr: ∀x y z,P x->P y->P z->L y x=false->L z y=false->L z x=false
 as: ∀x y,L x y=true->L y x=false
section
variable {prog:IP}{w:Jo}{A:Jc}{E:Ia->Ic->Prop}{s:Ic}{κ:L0}{P:IG->Prop}{L:IG->IG->Bool}
theorem au {arr:Array IG}{i:Nat}{Q:IG->JI->Prop}{st:JI}(hi:i<arr.size)(h:Q (arr.getD i bj) st):wpS (model prog w) A E s (Mh arr i) Q st:=by
 rw[elem'_eq,La hi];refine Ij ?_
 have:arr.getD i bj=arr[i]:=by simp[KU,hi]
 rw[<-this];exact h
def fE(L:IG->IG->Bool)(left:Bool)(key:IG)(arr:Array IG)(base i:Nat):Bool:=if left then L (arr.getD (base+i) bj) key else !(L key (arr.getD (base+i) bj))
theorem BQ(C:Cmp prog w A E s κ P L){left:Bool}{key:IG}{arr:Array IG}{base i:Nat}{st:JI}{Q:Option Bool->JI->Prop}(hk:kindOf st=κ)(hkey:P key)(hi:base+i<arr.size)(hP:P (arr.getD (base+i) bj))
 (h:Q (some (fE L left key arr base i)) st):wpS (model prog w) A E s (tO left key arr base i) Q st:=by
 unfold tO;refine Ik (au hi ?_)
 unfold fE at h;cases left with
 |true=>rw[if_pos rfl] at h⊢;exact C.ask _ _ hP hkey _ _ hk h
 |false=>
  rw[if_neg (by decide)] at h⊢
  exact Ik (C.ask _ _ hkey hP _ _ hk (Ij h))
def gV(L:IG->IG->Bool)(arr:Array IG)(lo hi:Nat):Prop:= ∀i j,lo<=i->i<=j->j<hi->L (arr.getD j bj) (arr.getD i bj)=false
theorem zQ(C:Cmp prog w A E s κ P L){left:Bool}{key:IG}{arr:Array IG}{base n:Nat}(hkey:P key)(hP: ∀i,i<n->P (arr.getD (base+i) bj))(hS:gV L arr base (base+n)){i j:Nat}(hij:i<=j)(hj:j<n)
 (h:fE L left key arr base j=true):fE L left key arr base i=true:=by
 unfold fE at h⊢;have e:=hS (base+i) (base+j) (by omega) (by omega) (by omega)
 cases left with
 |true=>
  rw[if_pos rfl] at h⊢;cases q:L (arr.getD (base+i) bj) key with
  |true=>rfl
  |false=>
   have:=C.tr _ _ _ hkey (hP i (by omega)) (hP j hj) q e
   rw[this] at h;cases h
 |false=>
  rw[if_neg (by decide)] at h⊢
  rw[LS] at h⊢;exact C.tr _ _ _ (hP i (by omega)) (hP j hj) hkey e h
structure Cut(b:Nat->Bool)(n k:Nat):Prop where
 leq:k<=n
 lo: ∀i,i<k->b i=true
 hi: ∀i,k<=i->i<n->b i=false
theorem dH(C:Cmp prog w A E s κ P L){left:Bool}{key:IG}{arr:Array IG}{base n hint:Nat}{st:JI}{Q:Option Nat->JI->Prop}(hk:kindOf st=κ)(hkey:P key)(hz:base+n<=arr.size)(hh:hint<n)
 (hP: ∀i,i<n->P (arr.getD (base+i) bj)) (hS:gV L arr base (base+n)) (h: ∀k,Cut (fE L left key arr base) n k->Q (some k) st):wpS (model prog w) A E s (cH left key arr base n hint) Q st:=by
 rw[uc];have mono:=λ{i j:Nat} (hij:i<=j) (hj:j<n)=>zQ C (left:=left) hkey hP hS hij hj
 have askB: ∀i,i<n-> ∀(R:Option Bool->JI->Prop),R (some (fE L left key arr base i)) st->wpS (model prog w) A E s (tO left key arr base i) R st:=λi hi R hR=>BQ C hk hkey (by omega) (hP i hi) hR
 generalize hb:fE L left key arr base=b at mono askB h
 have second: ∀(f:Nat->Option (Option Nat)×Nat×Nat->StateT JI Sem (ForInStep (Option (Option Nat)×Nat×Nat))) (lo hi:Nat) (R':Option (Option Nat)×Nat×Nat->JI->Prop),
  (∀x l u (R:ForInStep (Option (Option Nat)×Nat×Nat)->JI->Prop),l≥u->R (.done (none,l,u)) st->wpS (model prog w) A E s (f x (none,l,u)) R st)->
  (∀x l u (R:ForInStep (Option (Option Nat)×Nat×Nat)->JI->Prop),¬l≥u->u<=n->(b (l+(u-l) / 2)=true->R (.yield (none,l+(u-l) / 2+1,u)) st)->(b (l+(u-l) / 2)=false->R (.yield (none,l,l+(u-l) / 2)) st)->wpS (model prog w) A E s (f x (none,l,u)) R st)->
  lo<=hi->hi<=n->(∀i,i<lo->b i=true)->(∀i,hi<=i->i<n->b i=false)->(∀l,Cut b n l->R' (none,l,l) st)->wpS (model prog w) A E s (forIn [0:n] ((none,lo,hi):Option (Option Nat)×Nat×Nat) f) R' st:=λf lo hi R' f1 f2 h1 h2 h3 h4 k=>by
  refine KY (JQ
   (I:=λx c st'=>st'=st/\ ∃l u,c=(none,l,u)/\l<=u/\u<=n/\(∀i,i<l->b i=true)/\(∀i,u<=i->i<n->b i=false)/\u-l<=n-x)
   (Q:=λc st'=>st'=st/\ ∃l,c=(none,l,l)/\l<=n/\(∀i,i<l->b i=true)/\(∀i,l<=i->i<n->b i=false)) ?_ ?_ ⟨rfl,lo,hi,rfl,h1,h2,h3,h4,by omega⟩) ?_
  ·rintro x c st' _ hx ⟨rfl,l,u,rfl,a1,a2,a3,a4,a5⟩
   by_cases hc:l≥u
   ·refine f1 x l u _ hc ?_
    have:l=u:=by omega
    subst this;exact⟨rfl,l,rfl,a2,a3,a4⟩
   ·refine f2 x l u _ hc a2 (λe=>?_) λe=>?_
    ·refine⟨rfl,_,_,rfl,by omega,a2,λi hi=>?_,a4,by omega⟩
     exact mono (show i<=l+(u-l) / 2 by omega) (by omega) e
    ·refine⟨rfl,_,_,rfl,by omega,by omega,a3,λi hi hn=>?_,by omega⟩
     cases q:b i with
     |false=>rfl
     |true=>have:=mono hi hn q;rw[e] at this;cases this
  ·rintro c st' ⟨rfl,l,u,rfl,a1,a2,a3,a4,a5⟩
   have:l=u:=by omega
   subst this;exact⟨rfl,l,rfl,a2,a3,a4⟩
  ·rintro c st' ⟨rfl,l,rfl,a1,a2,a3⟩
   exact k l ⟨a1,a2,a3⟩
 refine Ik (askB hint hh _ ?_)
 dsimp only;cases e:b hint with
 |true=>
  rw[if_pos rfl];refine Ik (KY (JQ
   (I:=λx c st'=>st'=st/\ ∃l o,c=(none,l,o)/\l<o/\hint+l<n/\b (hint+l)=true/\x+1<=o)
   (Q:=λc st'=>st'=st/\ ∃l o,c=(none,l,o)/\l<o/\hint+l<n/\b (hint+l)=true/\(o≥n-hint\/b (hint+o)=false)) ?_ ?_ ⟨rfl,0,1,rfl,by omega,by omega,e,by omega⟩) ?_)
  ·rintro x c st' _ hx ⟨rfl,l,o,rfl,a1,a2,a3,a4⟩
   dsimp only
   by_cases hc:o≥n-hint
   ·rw[if_pos hc];exact Ij ⟨rfl,l,o,rfl,a1,a2,a3,.inl hc⟩
   ·rw[if_neg hc]
    refine Ik (askB _ (by omega) _ ?_)
    dsimp only;cases e2:b (hint+o) with
    |false=>exact Ij ⟨rfl,l,o,rfl,a1,a2,a3,.inr e2⟩
    |true=>exact Ij ⟨rfl,o,_,rfl,by omega,by omega,e2,by omega⟩
  ·rintro c st' ⟨rfl,l,o,rfl,a1,a2,a3,a4⟩
   exact⟨rfl,l,o,rfl,a1,a2,a3,.inl (by omega)⟩
  ·rintro c st' ⟨rfl,l,o,rfl,a1,a2,a3,a4⟩
   dsimp only;refine Ik (second _ (hint+l+1) (hint+min o (n-hint)) _ (λx l u R hc hR=>by
    dsimp only;rw[if_pos hc];exact Ij hR) (λx l u R hc hu r1 r2=>by
    dsimp only;rw[if_neg hc];refine Ik (askB _ (by omega) _ ?_)
    dsimp only;cases e9:b (l+(u-l) / 2) with
    |true=>rw[if_pos rfl];exact Ij (r1 e9)
    |false=>rw[if_neg (by decide)];exact Ij (r2 e9)) (by omega) (by omega) (λi hi=>mono (show i<=hint+l by omega) a2 a3) (λi hi hn=>?_) λk hk=>Ij (h k hk))
   rcases a4 with a4|a4
   ·omega
   ·cases q:b i with
    |false=>rfl
    |true=>
     by_cases h9:hint+o<=i
     ·have:=mono h9 hn q;rw[a4] at this;cases this
     ·omega
 |false=>
  rw[if_neg (by decide)]
  refine Ik (KY (JQ
   (I:=λx c st'=>st'=st/\ ∃l o,c=(none,l,o)/\l<o/\l<=hint/\b (hint-l)=false/\x+1<=o)
   (Q:=λc st'=>st'=st/\ ∃l o,c=(none,l,o)/\l<o/\l<=hint/\b (hint-l)=false/\(o≥hint+1\/b (hint-o)=true)) ?_ ?_ ⟨rfl,0,1,rfl,by omega,by omega,e,by omega⟩) ?_)
  ·rintro x c st' _ hx ⟨rfl,l,o,rfl,a1,a2,a3,a4⟩
   dsimp only
   by_cases hc:o≥hint+1
   ·rw[if_pos hc];exact Ij ⟨rfl,l,o,rfl,a1,a2,a3,.inl hc⟩
   ·rw[if_neg hc]
    refine Ik (askB _ (by omega) _ ?_)
    dsimp only;cases e2:b (hint-o) with
    |true=>exact Ij ⟨rfl,l,o,rfl,a1,a2,a3,.inr e2⟩
    |false=>exact Ij ⟨rfl,o,_,rfl,by omega,by omega,e2,by omega⟩
  ·rintro c st' ⟨rfl,l,o,rfl,a1,a2,a3,a4⟩
   exact⟨rfl,l,o,rfl,a1,a2,a3,.inl (by omega)⟩
  ·rintro c st' ⟨rfl,l,o,rfl,a1,a2,a3,a4⟩
   dsimp only;refine Ik (second _ (hint+1-min o (hint+1)) (hint-l) _ (λx l u R hc hR=>by
    dsimp only;rw[if_pos hc];exact Ij hR) (λx l u R hc hu r1 r2=>by
    dsimp only;rw[if_neg hc];refine Ik (askB _ (by omega) _ ?_)
    dsimp only;cases e9:b (l+(u-l) / 2) with
    |true=>rw[if_pos rfl];exact Ij (r1 e9)
    |false=>rw[if_neg (by decide)];exact Ij (r2 e9)) (by omega) (by omega) (λi hi=>?_) (λi hi hn=>?_) λk hk=>Ij (h k hk))
   ·rcases a4 with a4|a4
    ·omega
    ·by_cases h9:o≥hint+1
     ·omega
     ·exact mono (show i<=hint-o by omega) (by omega) a4
   ·cases q:b i with
    |false=>rfl
    |true=>have:=mono hi hn q;rw[a3] at this;cases this
end
def mt:Array IG->Array IG->StateT JI Sem (Array IG):=sortPriv% PySem.Builtin.mergeLo
def mv:Array IG->Array IG->StateT JI Sem (Array IG):=sortPriv% PySem.Builtin.mergeHi
abbrev aV(st:JI)(g:Nat):SortSt:=WB (kindOf st) (NL st) (K5 st) g (Qf st)
theorem qd(a b:Array IG):mt a b=(do
 rule "list.sort.merge-lo"
 let total:=a.size+b.size
 let done (out:Array IG) (ia ib:Nat):=out++a.extract ia a.size++b.extract ib b.size
 let lastOfA (out:Array IG) (ia ib:Nat):=out++b.extract ib b.size++a.extract ia a.size
 let mut out:Array Keyed:= #[<-Mh b 0]
 let mut ia:=0
 let mut ib:=1
 if ib==b.size then return done out ia ib
 if ia+1==a.size then return lastOfA out ia ib
 let mut minGallop:=RD (<-get)
 for _ in [0:total] do
  let mut acount:=0
  let mut bcount:=0
  for _ in [0:total] do
   let some bWins <-lt' (<-Mh b ib) (<-Mh a ia)|return done out ia ib
   if bWins then
    out:=out.push (<-Mh b ib);ib:=ib+1;bcount:=bcount+1;acount:=0
    if ib==b.size then return done out ia ib
    if bcount≥minGallop then break
   else
    out:=out.push (<-Mh a ia);ia:=ia+1;acount:=acount+1;bcount:=0
    if ia+1==a.size then return lastOfA out ia ib
    if acount≥minGallop then break
  rule "list.sort.gallop"
  minGallop:=minGallop+1
  for _ in [0:total] do
   if minGallop>1 then minGallop:=minGallop-1
   modify λs=>aV s minGallop
   let some k <-cH false (<-Mh b ib) a ia (a.size-ia) 0 |return done out ia ib
   acount:=k
   if k>0 then
    out:=out++a.extract ia (ia+k);ia:=ia+k
    if ia+1==a.size then return lastOfA out ia ib
    if ia==a.size then return done out ia ib
   out:=out.push (<-Mh b ib);ib:=ib+1
   if ib==b.size then return done out ia ib
   let some k <-cH true (<-Mh a ia) b ib (b.size-ib) 0 |return done out ia ib
   bcount:=k
   if k>0 then
    out:=out++b.extract ib (ib+k);ib:=ib+k
    if ib==b.size then return done out ia ib
   out:=out.push (<-Mh a ia);ia:=ia+1
   if ia+1==a.size then return lastOfA out ia ib
   if acount<7&&bcount<7 then break
  minGallop:=minGallop+1
  modify λs=>aV s minGallop
 NM "internal:list.sort.merge-bound"):=rfl
section
variable {L:IG->IG->Bool}{P:IG->Prop}
abbrev leq(L:IG->IG->Bool)(x y:IG):Prop:=L y x=false
structure MJ(L:IG->IG->Bool)(A B:List IG)(out:List IG)(ia ib:Nat):Prop where
 pm:out.Perm (A.take ia++B.take ib)
 so:out.Pairwise (leq L)
 up: ∀x∈out,∀y∈A.drop ia++B.drop ib,leq L x y
structure MG(L:IG->IG->Bool)(A B:List IG)(out:List IG):Prop where
 pm:out.Perm (A++B)
 so:out.Pairwise (leq L)
theorem eN(A:List IG)(i k:Nat):A.take (i+k)=A.take i++(A.drop i).take k:=by rw[List.take_add]
theorem qF {A:List IG}{i k:Nat}{y:IG}(h:y∈A.drop (i+k)):y∈A.drop i:=by
 rw[<-Pd] at h;exact List.mem_of_mem_drop h
theorem lK {A:List IG}(h:A.Pairwise (leq L))(i k:Nat):((A.drop i).take k).Pairwise (leq L)/\ ∀x∈(A.drop i).take k,∀y∈A.drop (i+k),leq L x y:=by
 have h2:(A.drop i).Pairwise (leq L):=JN (LW i A) h
 rw[<-JO k (A.drop i),Jt] at h2;refine⟨h2.1,λx hx y hy=>h2.2.2 x hx y ?_⟩
 rw[Pd];exact hy
theorem MJ.takeA {A B out:List IG}{ia ib k:Nat}(h:MJ L A B out ia ib)(hA:A.Pairwise (leq L))(hb: ∀x∈(A.drop ia).take k,∀y∈B.drop ib,leq L x y):MJ L A B (out++(A.drop ia).take k) (ia+k) ib:=by
 have⟨s1,s2⟩:=lK hA ia k
 refine⟨?_,?_,?_⟩
 ·rw[eN]
  refine(JK _ h.pm).trans ?_
  rw[IS,IS];exact JZ _ KF
 ·rw[Jt]
  exact⟨h.so,s1,λx hx y hy=>h.up x hx y (Ja _ (M6 hy))⟩
 ·intro x hx y hy
  rcases IM.mp hy with hy|hy
  ·rcases IM.mp hx with hx|hx
   ·exact h.up x hx y (Ja _ (qF hy))
   ·exact s2 x hx y hy
  ·rcases IM.mp hx with hx|hx
   ·exact h.up x hx y (Iw _ hy)
   ·exact hb x hx y hy
theorem MJ.takeB {A B out:List IG}{ia ib k:Nat}(h:MJ L A B out ia ib)(hB:B.Pairwise (leq L))(ha: ∀x∈(B.drop ib).take k,∀y∈A.drop ia,leq L x y):MJ L A B (out++(B.drop ib).take k) ia (ib+k):=by
 have⟨s1,s2⟩:=lK hB ib k
 refine⟨?_,?_,?_⟩
 ·rw[eN,<-IS]
  exact JK _ h.pm
 ·rw[Jt]
  exact⟨h.so,s1,λx hx y hy=>h.up x hx y (Iw _ (M6 hy))⟩
 ·intro x hx y hy
  rcases IM.mp hy with hy|hy
  ·rcases IM.mp hx with hx|hx
   ·exact h.up x hx y (Ja _ hy)
   ·exact ha x hx y hy
  ·rcases IM.mp hx with hx|hx
   ·exact h.up x hx y (Iw _ (qF hy))
   ·exact s2 x hx y hy
theorem MJ.fin {A B out:List IG}{ia ib:Nat}(h:MJ L A B out ia ib)(hA:A.Pairwise (leq L))(hB:B.Pairwise (leq L))(hab: ∀x∈A.drop ia,∀y∈B.drop ib,leq L x y):MG L A B (out++A.drop ia++B.drop ib):=by
 refine⟨?_,?_⟩
 ·have:(out++A.drop ia++B.drop ib).Perm ((A.take ia++A.drop ia)++(B.take ib++B.drop ib)):=by
   refine(JK _ (JK _ h.pm)).trans ?_
   rw[IS,IS,IS];refine JZ _ ?_
   rw[<-IS,<-IS];exact JK _ KF
  rw[JO,JO] at this;exact this
 ·rw[Jt,Jt]
  refine⟨⟨h.so,JN (LW _ _) hA,λx hx y hy=>h.up x hx y (Ja _ hy)⟩,JN (LW _ _) hB,λx hx y hy=>?_⟩
  rcases IM.mp hx with hx|hx
  ·exact h.up x hx y (Iw _ hy)
  ·exact hab x hx y hy
theorem MJ.fin2 {A B out:List IG}{ia ib:Nat}(h:MJ L A B out ia ib)(hA:A.Pairwise (leq L))(hB:B.Pairwise (leq L))(hab: ∀y∈B.drop ib,∀x∈A.drop ia,leq L y x):MG L A B (out++B.drop ib++A.drop ia):=by
 refine⟨?_,?_⟩
 ·have:=(MJ.fin (L:=λ_ _=>false) ⟨h.pm,MF (λ_=>rfl) h.so,λ_ _ _ _=>rfl⟩ (MF (λ_=>rfl) hA) (MF (λ_=>rfl) hB) λ_ _ _ _=>rfl).pm
  refine Q8 ?_ this
  rw[IS,IS];exact JZ _ KF
 ·rw[Jt,Jt]
  refine⟨⟨h.so,JN (LW _ _) hB,λx hx y hy=>h.up x hx y (Iw _ hy)⟩,JN (LW _ _) hA,λx hx y hy=>?_⟩
  rcases IM.mp hx with hx|hx
  ·exact h.up x hx y (Ja _ hy)
  ·exact hab x hx y hy
theorem cG(a:Array IG)(i j:Nat):(a.extract i j).toList=(a.toList.drop i).take (j-i):=by
 rw[Array.toList_extract,List.extract_eq_drop_take]
theorem lw(a:Array IG)(i:Nat):(a.extract i a.size).toList=a.toList.drop i:=by
 rw[cG,OE (by simp)]
theorem gZ(a:Array IG){i:Nat}(h:i<a.size):(a.toList.drop i).take 1=[a.getD i bj]:=by
 have e:a.getD i bj=a.toList[i]'(by simpa using h):=by simp[KU,h]
 rw[e,Kf (by simpa using h)];rfl
theorem fz {a:Array IG}{i:Nat}{y:IG}(h:y∈a.toList.drop i): ∃j,i<=j/\j<a.size/\y=a.getD j bj:=by
 obtain⟨j,hj,e⟩:=Ls h
 rw[Qm] at e;have hl:i+j<a.size:=by simp at hj;omega
 exact⟨i+j,by omega,hl,by rw[<-e];simp[KU,hl]⟩
theorem iM {a:Array IG}{i k:Nat}{y:IG}(h:y∈(a.toList.drop i).take k): ∃j,j<k/\i+j<a.size/\y=a.getD (i+j) bj:=by
 obtain⟨j,hj,e⟩:=Ls h
 rw[List.getElem_take,Qm] at e;have hj2:j<k/\j<a.size-i:=by simpa [Nat.lt_min] using hj
 have hl:i+j<a.size:=by omega
 exact⟨j,hj2.1,hl,by rw[<-e];simp[KU,hl]⟩
theorem xZ {a:Array IG}(h:a.toList.Pairwise (leq L))(rf: ∀x,L x x=false):gV L a 0 a.size:=λi j _ hij hj=>by
 by_cases e:i=j
 ·subst e;exact rf _
 ·have:=JV.mp h i j (by simpa using (show i<a.size by omega)) (by simpa using hj) (by omega)
  have hi:i<a.size:=by omega
  simpa [KU,hi,hj] using this
end
section
variable {prog:IP}{w:Jo}{A:Jc}{E:Ia->Ic->Prop}{s:Ic}{κ:L0}{P:IG->Prop}{L:IG->IG->Bool}
theorem Cmp.rf(C:Cmp prog w A E s κ P L)(x:IG):L x x=false:=by
 cases h:L x x with
 |false=>rfl
 |true=>have:=C.as _ _ h;rw[h] at this;exact this
structure TwoR(P:IG->Prop)(L:IG->IG->Bool)(a b:Array IG):Prop where
 sa:a.toList.Pairwise (leq L)
 sb:b.toList.Pairwise (leq L)
 pa: ∀i,i<a.size->P (a.getD i bj)
 pb: ∀i,i<b.size->P (b.getD i bj)
 na:1<=a.size
 nb:1<=b.size
 first: ∀i,i<a.size->L (b.getD 0 bj) (a.getD i bj)=true
 last: ∀j,j<b.size->L (b.getD j bj) (a.getD (a.size-1) bj)=true
variable {a b:Array IG}
structure MI(L:IG->IG->Bool)(a b out:Array IG)(ia ib:Nat):Prop where
 j:MJ L a.toList b.toList out.toList ia ib
 ha:ia+1<a.size
 hb:ib<b.size
theorem dX(T:TwoR P L a b){out:Array IG}{ia ib:Nat}(h:MJ L a.toList b.toList out.toList ia ib)(e:a.size<=ia\/b.size<=ib):MG L a.toList b.toList (out++a.extract ia a.size++b.extract ib b.size).toList:=by
 rw[JC,JC,lw,lw];refine h.fin T.sa T.sb λx hx y hy=>?_
 obtain⟨i,h1,h2,_⟩:=fz hx
 obtain⟨j,h3,h4,_⟩:=fz hy
 omega
theorem cJ(C:Cmp prog w A E s κ P L)(T:TwoR P L a b){out:Array IG}{ia ib:Nat}(h:MJ L a.toList b.toList out.toList ia ib)(e:ia+1=a.size):MG L a.toList b.toList (out++b.extract ib b.size++a.extract ia a.size).toList:=by
 rw[JC,JC,lw,lw];refine h.fin2 T.sa T.sb λy hy x hx=>?_
 obtain⟨i,h1,h2,rfl⟩:=fz hx
 obtain⟨j,h3,h4,rfl⟩:=fz hy
 have:=T.last j h4
 rw[show a.size-1=i by omega] at this
 exact C.as _ _ this
theorem c9(T:TwoR P L a b){out:Array IG}{ia ib:Nat}(h:MJ L a.toList b.toList out.toList ia ib)(hi:ia<a.size)(q: ∀j,ib<=j->j<b.size->leq L (a.getD ia bj) (b.getD j bj)):MJ L a.toList b.toList (out.push (a.getD ia bj)).toList (ia+1) ib:=by
 have:=h.takeA (k:=1) T.sa (by
  rw[gZ a hi];intro x hx y hy;rw[IN] at hx;subst hx;obtain⟨j,h3,h4,rfl⟩:=fz hy
  exact q j h3 h4)
 rw[gZ a hi] at this;rw[Ky];exact this
theorem fS(T:TwoR P L a b){out:Array IG}{ia ib:Nat}(h:MJ L a.toList b.toList out.toList ia ib)(hi:ib<b.size)(q: ∀j,ia<=j->j<a.size->leq L (b.getD ib bj) (a.getD j bj)):MJ L a.toList b.toList (out.push (b.getD ib bj)).toList ia (ib+1):=by
 have:=h.takeB (k:=1) T.sb (by
  rw[gZ b hi];intro x hx y hy;rw[IN] at hx;subst hx;obtain⟨j,h3,h4,rfl⟩:=fz hy
  exact q j h3 h4)
 rw[gZ b hi] at this;rw[Ky];exact this
theorem rJ(T:TwoR P L a b){out:Array IG}{ia ib k:Nat}(h:MJ L a.toList b.toList out.toList ia ib)(q: ∀i,i<k->ia+i<a.size-> ∀j,ib<=j->j<b.size->leq L (a.getD (ia+i) bj) (b.getD j bj)):MJ L a.toList b.toList (out++a.extract ia (ia+k)).toList (ia+k) ib:=by
 rw[JC,cG,Og];refine h.takeA (k:=k) T.sa λx hx y hy=>?_
 obtain⟨i,h1,h2,rfl⟩:=iM hx
 obtain⟨j,h3,h4,rfl⟩:=fz hy
 exact q i h1 h2 j h3 h4
theorem j0(T:TwoR P L a b){out:Array IG}{ia ib k:Nat}(h:MJ L a.toList b.toList out.toList ia ib)(q: ∀i,i<k->ib+i<b.size-> ∀j,ia<=j->j<a.size->leq L (b.getD (ib+i) bj) (a.getD j bj)):MJ L a.toList b.toList (out++b.extract ib (ib+k)).toList ia (ib+k):=by
 rw[JC,cG,Og];refine h.takeB (k:=k) T.sb λx hx y hy=>?_
 obtain⟨i,h1,h2,rfl⟩:=iM hx
 obtain⟨j,h3,h4,rfl⟩:=fz hy
 exact q i h1 h2 j h3 h4
theorem TwoR.sa'(C:Cmp prog w A E s κ P L)(T:TwoR P L a b){i j:Nat}(h:i<=j)(hj:j<a.size):leq L (a.getD i bj) (a.getD j bj):=xZ T.sa C.rf i j (Jh _) h hj
theorem TwoR.sb'(C:Cmp prog w A E s κ P L)(T:TwoR P L a b){i j:Nat}(h:i<=j)(hj:j<b.size):leq L (b.getD i bj) (b.getD j bj):=xZ T.sb C.rf i j (Jh _) h hj
theorem TwoR.bWin(C:Cmp prog w A E s κ P L)(T:TwoR P L a b){ia ib:Nat}(hi:ia<a.size)(hb:ib<b.size)(h:L (b.getD ib bj) (a.getD ia bj)=true): ∀j,ia<=j->j<a.size->leq L (b.getD ib bj) (a.getD j bj):=λj h1 h2=>
 C.tr _ _ _ (T.pb _ hb) (T.pa _ hi) (T.pa _ h2) (C.as _ _ h) (T.sa' C h1 h2)
theorem TwoR.aWin(C:Cmp prog w A E s κ P L)(T:TwoR P L a b){ia ib:Nat}(hi:ia<a.size)(hb:ib<b.size)(h:L (b.getD ib bj) (a.getD ia bj)=false): ∀j,ib<=j->j<b.size->leq L (a.getD ia bj) (b.getD j bj):=λj h1 h2=>
 C.tr _ _ _ (T.pa _ hi) (T.pb _ hb) (T.pb _ h2) h (T.sb' C h1 h2)
theorem sM(C:Cmp prog w A E s κ P L)(T:TwoR P L a b){ia ib:Nat}{st:JI}{Q:Option Nat->JI->Prop}(hk:kindOf st=κ)(hi:ia<a.size)(hb:ib<b.size)
 (h: ∀k,ia+k<a.size->(∀i,i<k->L (b.getD ib bj) (a.getD (ia+i) bj)=false)->L (b.getD ib bj) (a.getD (ia+k) bj)=true->Q (some k) st):wpS (model prog w) A E s (cH false (b.getD ib bj) a ia (a.size-ia) 0) Q st:=by
 refine dH C hk (T.pb _ hb) (by omega) (by omega) (λi hi=>T.pa _ (by omega)) (λi j h1 h2 h3=>T.sa' C h2 (by omega)) λk c=>?_
 have hl:=T.last ib hb
 have hk2:ia+k<a.size:=by
  apply Lw
  intro h9;have:=c.lo (a.size-1-ia) (by have:=c.leq;omega)
  unfold fE at this;rw[if_neg (by decide),show ia+(a.size-1-ia)=a.size-1 by omega,hl] at this
  cases this
 refine h k hk2 (λi hi=>?_) ?_
 ·have:=c.lo i hi
  unfold fE at this;rw[if_neg (by decide),LS] at this
  exact this
 ·have:=c.hi k (Ie _) (by omega)
  unfold fE at this;rw[if_neg (by decide),Nz] at this
  exact this
theorem jJ(C:Cmp prog w A E s κ P L)(T:TwoR P L a b){ia ib:Nat}{st:JI}{Q:Option Nat->JI->Prop}(hk:kindOf st=κ)(hi:ia<a.size)(hb:ib<b.size)
 (h: ∀k,ib+k<=b.size->(∀i,i<k->L (b.getD (ib+i) bj) (a.getD ia bj)=true)->(ib+k<b.size->L (b.getD (ib+k) bj) (a.getD ia bj)=false)->Q (some k) st):wpS (model prog w) A E s (cH true (a.getD ia bj) b ib (b.size-ib) 0) Q st:=by
 refine dH C hk (T.pa _ hi) (by omega) (by omega) (λi hi=>T.pb _ (by omega)) (λi j h1 h2 h3=>T.sb' C h2 (by omega)) λk c=>?_
 refine h k (by have:=c.leq;omega) (λi hi=>?_) λh9=>?_
 ·have:=c.lo i hi
  unfold fE at this;rw[if_pos rfl] at this;exact this
 ·have:=c.hi k (Ie _) (by omega)
  unfold fE at this;rw[if_pos rfl] at this;exact this
end
set_option maxHeartbeats 2000000
section
variable {prog:IP}{w:Jo}{A:Jc}{E:Ia->Ic->Prop}{s:Ic}{κ:L0}{P:IG->Prop}{L:IG->IG->Bool}{a b:Array IG}
theorem aG {x y:Nat}(h: ¬x=y): ¬(x==y)=true:=by simpa using h
theorem rj(C:Cmp prog w A E s κ P L)(T:TwoR P L a b){st:JI}{Q:Array IG->JI->Prop}(hk:kindOf st=κ)
 (h: ∀r g,MG L a.toList b.toList r.toList->Q r (aV st g)):wpS (model prog w) A E s (mt a b) Q st:=by
 rw[qd];dsimp only;have ha:=T.na
 have hb:=T.nb
 refine Ik (Oh (KH ⟨rfl,?_⟩))
 refine Ik (au (by omega) ?_)
 have hst:st=aV st (RD st):=rfl
 have J0:MJ L a.toList b.toList (#[b.getD 0 bj]:Array IG).toList 0 1:=by
  have:MJ L a.toList b.toList (#[]:Array IG).toList 0 0:=⟨by simp,by simp,by simp⟩
  exact fS T this (by omega) λj _ h2=>C.as _ _ (T.first j h2)
 by_cases e1:1=b.size
 ·rw[if_pos (by simpa using e1)]
  refine Ij ?_
  rw[hst];exact h _ _ (dX T J0 (.inr (by omega)))
 rw[if_neg (aG e1)]
 by_cases e2:0+1=a.size
 ·rw[if_pos (by simpa using e2)]
  refine Ij ?_
  rw[hst];exact h _ _ (cJ C T J0 e2)
 rw[if_neg (aG e2)];refine Ik (Ml ?_)
 refine Ik (KY (JQ
  (I:=λx c st'=> ∃out ia ib mg g,c=(none,out,ia,ib,mg)/\st'=aV st g/\MI L a b out ia ib/\x+1<=ia+ib)
  (Q:=λc st'=> ∃r y g,c=(some r,y)/\st'=aV st g/\MG L a.toList b.toList r.toList) ?step ?fin ⟨_,0,1,_,_,rfl,hst,⟨J0,by omega,by omega⟩,by omega⟩) ?post)
 case fin=>
  rintro c st' ⟨out,ia,ib,mg,g,rfl,rfl,M,hx⟩
  have:=M.ha;have:=M.hb
  omega
 case post=>
  rintro c st' ⟨r,y,g,rfl,rfl,G⟩
  exact Ij (h r g G)
 case step=>
  rintro x c st' _ hx ⟨out,ia,ib,mg,g,rfl,rfl,M,hx2⟩
  dsimp only;refine Ik (KY (JQ
   (I:=λx' c st'=> ∃out' ia' ib' ac bc,c=(none,out',ia',ib',ac,bc)/\st'=aV st g/\MI L a b out' ia' ib'/\ia+ib+x'<=ia'+ib')
   (Q:=λc st'=>st'=aV st g/\((∃r y,c=(some r,y)/\MG L a.toList b.toList r.toList)\/ ∃out' ia' ib' ac bc,c=(none,out',ia',ib',ac,bc)/\MI L a b out' ia' ib'/\ia+ib+1<=ia'+ib')) ?step1 ?fin1 ⟨out,ia,ib,0,0,rfl,rfl,M,by omega⟩) ?post1)
  case fin1=>
   rintro c st' ⟨out',ia',ib',ac,bc,rfl,rfl,M',hx'⟩
   exact⟨rfl,.inr ⟨_,_,_,_,_,rfl,M',by omega⟩⟩
  case step1=>
   rintro x' c st' _ hx' ⟨out',ia',ib',ac,bc,rfl,rfl,M',hx3⟩
   have m1:=M'.ha;have m2:=M'.hb
   dsimp only;refine Ik (au m2 (Ik (au (by omega) ?_)))
   refine Ik (C.ask _ _ (T.pb _ m2) (T.pa _ (by omega)) _ _ hk ?_)
   dsimp only;cases e:L (b.getD ib' bj) (a.getD ia' bj) with
   |true=>
    rw[if_pos rfl];refine Ik (au m2 ?_)
    have J:=fS T M'.j m2 (T.bWin C (by omega) m2 e)
    by_cases e3:ib'+1=b.size
    ·rw[if_pos (by simpa using e3)]
     exact Ij ⟨rfl,.inl ⟨_,_,rfl,dX T J (.inr (by omega))⟩⟩
    ·rw[if_neg (aG e3)]
     by_cases q9:bc+1≥mg
     ·rw[if_pos q9];exact Ij ⟨rfl,.inr ⟨_,_,_,_,_,rfl,⟨J,m1,by omega⟩,by omega⟩⟩
     ·rw[if_neg q9];exact Ij ⟨_,_,_,_,_,rfl,rfl,⟨J,m1,by omega⟩,by omega⟩
   |false=>
    rw[if_neg (by decide)]
    refine Ik (au (by omega) ?_)
    have J:=c9 T M'.j (by omega) (T.aWin C (by omega) m2 e)
    by_cases e3:ia'+1+1=a.size
    ·rw[if_pos (by simpa using e3)]
     exact Ij ⟨rfl,.inl ⟨_,_,rfl,cJ C T J e3⟩⟩
    ·rw[if_neg (aG e3)]
     by_cases q9:ac+1≥mg
     ·rw[if_pos q9];exact Ij ⟨rfl,.inr ⟨_,_,_,_,_,rfl,⟨J,by omega,m2⟩,by omega⟩⟩
     ·rw[if_neg q9];exact Ij ⟨_,_,_,_,_,rfl,rfl,⟨J,by omega,m2⟩,by omega⟩
  case post1=>
   rintro c st' ⟨rfl,⟨r,y,rfl,G⟩|⟨out1,ia1,ib1,ac,bc,rfl,M1,hx1⟩⟩
   ·exact Ij ⟨r,_,g,rfl,rfl,G⟩
   ·dsimp only
    refine Ik (Oh (KH ⟨rfl,?_⟩))
    refine Ik (KY (JQ
     (I:=λ_ c st'=> ∃out' ia' ib' mg ac bc g,c=(none,out',ia',ib',mg,ac,bc)/\st'=aV st g/\MI L a b out' ia' ib'/\ia1+ib1<=ia'+ib')
     (Q:=λc st'=> ∃g,st'=aV st g/\((∃r y,c=(some r,y)/\MG L a.toList b.toList r.toList)\/ ∃out' ia' ib' mg ac bc,c=(none,out',ia',ib',mg,ac,bc)/\MI L a b out' ia' ib'/\ia1+ib1<=ia'+ib')) ?step2 ?fin2 ⟨out1,ia1,ib1,_,_,_,_,rfl,rfl,M1,Ie _⟩) ?post2)
    case fin2=>
     rintro c st' ⟨out',ia',ib',mg,ac,bc,g,rfl,rfl,M',hx'⟩
     exact⟨g,rfl,.inr ⟨_,_,_,_,_,_,rfl,M',hx'⟩⟩
    case post2=>
     rintro c st' ⟨g2,rfl,⟨r,y,rfl,G⟩|⟨out',ia',ib',mg,ac,bc,rfl,M',hx'⟩⟩
     ·exact Ij ⟨r,_,g2,rfl,rfl,G⟩
     ·dsimp only
      refine Ik (Kz ?_)
      exact Ij ⟨_,_,_,_,_,rfl,rfl,M',by omega⟩
    case step2=>
     rintro x' c st' _ hx' ⟨out',ia',ib',mg',ac',bc',g',rfl,rfl,M',hx3⟩
     have m1:=M'.ha;have m2:=M'.hb
     dsimp only
     by_cases q1:mg'>1
     ·rw[if_pos q1]
      refine Ik (Kz ?_)
      refine Ik (au m2 ?_)
      refine Ik (sM C T hk (by omega) m2 λk k1 k2 k3=>?_)
      dsimp only
      by_cases q2:k>0
      ·rw[if_pos q2]
       have J1:=rJ T M'.j (k:=k) λi hi h2=>T.aWin C (by omega) m2 (k2 i hi)
       by_cases e5:ia'+k+1=a.size
       ·rw[if_pos (by simpa using e5)]
        exact Ij ⟨_,rfl,.inl ⟨_,_,rfl,cJ C T J1 e5⟩⟩
       rw[if_neg (aG e5),if_neg (aG (show¬ia'+k=a.size by omega))]
       refine Ik (au m2 ?_)
       have J2:=fS T J1 m2 (T.bWin C (by omega) m2 k3)
       by_cases e6:ib'+1=b.size
       ·rw[if_pos (by simpa using e6)]
        exact Ij ⟨_,rfl,.inl ⟨_,_,rfl,dX T J2 (.inr (by omega))⟩⟩
       rw[if_neg (aG e6)];refine Ik (au (by omega) ?_)
       refine Ik (jJ C T hk (by omega) (by omega) λl l1 l2 l3=>?_)
       dsimp only
       by_cases q3:l>0
       ·rw[if_pos q3]
        have J3:=j0 T J2 (k:=l) λi hi h2=>T.bWin C (by omega) h2 (l2 i hi)
        by_cases e7:ib'+1+l=b.size
        ·rw[if_pos (by simpa using e7)]
         exact Ij ⟨_,rfl,.inl ⟨_,_,rfl,dX T J3 (.inr (by omega))⟩⟩
        rw[if_neg (aG e7)];refine Ik (au (by omega) ?_)
        have J4:=c9 T J3 (by omega) (T.aWin C (by omega) (by omega) (l3 (by omega)))
        by_cases e8:ia'+k+1+1=a.size
        ·rw[if_pos (by simpa using e8)]
         exact Ij ⟨_,rfl,.inl ⟨_,_,rfl,cJ C T J4 e8⟩⟩
        rw[if_neg (aG e8)]
        by_cases q4:(decide (k<7)&&decide (l<7))=true
        ·rw[if_pos q4]
         exact Ij ⟨_,rfl,.inr ⟨_,_,_,_,_,_,rfl,⟨J4,by omega,by omega⟩,by omega⟩⟩
        ·rw[if_neg q4]
         exact Ij ⟨_,_,_,_,_,_,_,rfl,rfl,⟨J4,by omega,by omega⟩,by omega⟩
       ·rw[if_neg q3]
        rw[show l=0 by omega,Lh] at l3
        have J3:=J2
        refine Ik (au (by omega) ?_)
        have J4:=c9 T J3 (by omega) (T.aWin C (by omega) (by omega) (l3 (by omega)))
        by_cases e8:ia'+k+1+1=a.size
        ·rw[if_pos (by simpa using e8)]
         exact Ij ⟨_,rfl,.inl ⟨_,_,rfl,cJ C T J4 e8⟩⟩
        rw[if_neg (aG e8)]
        by_cases q4:(decide (k<7)&&decide (l<7))=true
        ·rw[if_pos q4]
         exact Ij ⟨_,rfl,.inr ⟨_,_,_,_,_,_,rfl,⟨J4,by omega,by omega⟩,by omega⟩⟩
        ·rw[if_neg q4]
         exact Ij ⟨_,_,_,_,_,_,_,rfl,rfl,⟨J4,by omega,by omega⟩,by omega⟩
      ·rw[if_neg q2]
       rw[show k=0 by omega,Lh] at k3
       have J1:=M'.j
       refine Ik (au m2 ?_)
       have J2:=fS T J1 m2 (T.bWin C (by omega) m2 k3)
       by_cases e6:ib'+1=b.size
       ·rw[if_pos (by simpa using e6)]
        exact Ij ⟨_,rfl,.inl ⟨_,_,rfl,dX T J2 (.inr (by omega))⟩⟩
       rw[if_neg (aG e6)];refine Ik (au (by omega) ?_)
       refine Ik (jJ C T hk (by omega) (by omega) λl l1 l2 l3=>?_)
       dsimp only
       by_cases q3:l>0
       ·rw[if_pos q3]
        have J3:=j0 T J2 (k:=l) λi hi h2=>T.bWin C (by omega) h2 (l2 i hi)
        by_cases e7:ib'+1+l=b.size
        ·rw[if_pos (by simpa using e7)]
         exact Ij ⟨_,rfl,.inl ⟨_,_,rfl,dX T J3 (.inr (by omega))⟩⟩
        rw[if_neg (aG e7)];refine Ik (au (by omega) ?_)
        have J4:=c9 T J3 (by omega) (T.aWin C (by omega) (by omega) (l3 (by omega)))
        by_cases e8:ia'+1+1=a.size
        ·rw[if_pos (by simpa using e8)]
         exact Ij ⟨_,rfl,.inl ⟨_,_,rfl,cJ C T J4 e8⟩⟩
        rw[if_neg (aG e8)]
        by_cases q4:(decide (k<7)&&decide (l<7))=true
        ·rw[if_pos q4]
         exact Ij ⟨_,rfl,.inr ⟨_,_,_,_,_,_,rfl,⟨J4,by omega,by omega⟩,by omega⟩⟩
        ·rw[if_neg q4]
         exact Ij ⟨_,_,_,_,_,_,_,rfl,rfl,⟨J4,by omega,by omega⟩,by omega⟩
       ·rw[if_neg q3]
        rw[show l=0 by omega,Lh] at l3
        have J3:=J2
        refine Ik (au (by omega) ?_)
        have J4:=c9 T J3 (by omega) (T.aWin C (by omega) (by omega) (l3 (by omega)))
        by_cases e8:ia'+1+1=a.size
        ·rw[if_pos (by simpa using e8)]
         exact Ij ⟨_,rfl,.inl ⟨_,_,rfl,cJ C T J4 e8⟩⟩
        rw[if_neg (aG e8)]
        by_cases q4:(decide (k<7)&&decide (l<7))=true
        ·rw[if_pos q4]
         exact Ij ⟨_,rfl,.inr ⟨_,_,_,_,_,_,rfl,⟨J4,by omega,by omega⟩,by omega⟩⟩
        ·rw[if_neg q4]
         exact Ij ⟨_,_,_,_,_,_,_,rfl,rfl,⟨J4,by omega,by omega⟩,by omega⟩
     ·rw[if_neg q1]
      refine Ik (Kz ?_)
      refine Ik (au m2 ?_)
      refine Ik (sM C T hk (by omega) m2 λk k1 k2 k3=>?_)
      dsimp only
      by_cases q2:k>0
      ·rw[if_pos q2]
       have J1:=rJ T M'.j (k:=k) λi hi h2=>T.aWin C (by omega) m2 (k2 i hi)
       by_cases e5:ia'+k+1=a.size
       ·rw[if_pos (by simpa using e5)]
        exact Ij ⟨_,rfl,.inl ⟨_,_,rfl,cJ C T J1 e5⟩⟩
       rw[if_neg (aG e5),if_neg (aG (show¬ia'+k=a.size by omega))]
       refine Ik (au m2 ?_)
       have J2:=fS T J1 m2 (T.bWin C (by omega) m2 k3)
       by_cases e6:ib'+1=b.size
       ·rw[if_pos (by simpa using e6)]
        exact Ij ⟨_,rfl,.inl ⟨_,_,rfl,dX T J2 (.inr (by omega))⟩⟩
       rw[if_neg (aG e6)];refine Ik (au (by omega) ?_)
       refine Ik (jJ C T hk (by omega) (by omega) λl l1 l2 l3=>?_)
       dsimp only
       by_cases q3:l>0
       ·rw[if_pos q3]
        have J3:=j0 T J2 (k:=l) λi hi h2=>T.bWin C (by omega) h2 (l2 i hi)
        by_cases e7:ib'+1+l=b.size
        ·rw[if_pos (by simpa using e7)]
         exact Ij ⟨_,rfl,.inl ⟨_,_,rfl,dX T J3 (.inr (by omega))⟩⟩
        rw[if_neg (aG e7)];refine Ik (au (by omega) ?_)
        have J4:=c9 T J3 (by omega) (T.aWin C (by omega) (by omega) (l3 (by omega)))
        by_cases e8:ia'+k+1+1=a.size
        ·rw[if_pos (by simpa using e8)]
         exact Ij ⟨_,rfl,.inl ⟨_,_,rfl,cJ C T J4 e8⟩⟩
        rw[if_neg (aG e8)]
        by_cases q4:(decide (k<7)&&decide (l<7))=true
        ·rw[if_pos q4]
         exact Ij ⟨_,rfl,.inr ⟨_,_,_,_,_,_,rfl,⟨J4,by omega,by omega⟩,by omega⟩⟩
        ·rw[if_neg q4]
         exact Ij ⟨_,_,_,_,_,_,_,rfl,rfl,⟨J4,by omega,by omega⟩,by omega⟩
       ·rw[if_neg q3]
        rw[show l=0 by omega,Lh] at l3
        have J3:=J2
        refine Ik (au (by omega) ?_)
        have J4:=c9 T J3 (by omega) (T.aWin C (by omega) (by omega) (l3 (by omega)))
        by_cases e8:ia'+k+1+1=a.size
        ·rw[if_pos (by simpa using e8)]
         exact Ij ⟨_,rfl,.inl ⟨_,_,rfl,cJ C T J4 e8⟩⟩
        rw[if_neg (aG e8)]
        by_cases q4:(decide (k<7)&&decide (l<7))=true
        ·rw[if_pos q4]
         exact Ij ⟨_,rfl,.inr ⟨_,_,_,_,_,_,rfl,⟨J4,by omega,by omega⟩,by omega⟩⟩
        ·rw[if_neg q4]
         exact Ij ⟨_,_,_,_,_,_,_,rfl,rfl,⟨J4,by omega,by omega⟩,by omega⟩
      ·rw[if_neg q2]
       rw[show k=0 by omega,Lh] at k3
       have J1:=M'.j
       refine Ik (au m2 ?_)
       have J2:=fS T J1 m2 (T.bWin C (by omega) m2 k3)
       by_cases e6:ib'+1=b.size
       ·rw[if_pos (by simpa using e6)]
        exact Ij ⟨_,rfl,.inl ⟨_,_,rfl,dX T J2 (.inr (by omega))⟩⟩
       rw[if_neg (aG e6)];refine Ik (au (by omega) ?_)
       refine Ik (jJ C T hk (by omega) (by omega) λl l1 l2 l3=>?_)
       dsimp only
       by_cases q3:l>0
       ·rw[if_pos q3]
        have J3:=j0 T J2 (k:=l) λi hi h2=>T.bWin C (by omega) h2 (l2 i hi)
        by_cases e7:ib'+1+l=b.size
        ·rw[if_pos (by simpa using e7)]
         exact Ij ⟨_,rfl,.inl ⟨_,_,rfl,dX T J3 (.inr (by omega))⟩⟩
        rw[if_neg (aG e7)];refine Ik (au (by omega) ?_)
        have J4:=c9 T J3 (by omega) (T.aWin C (by omega) (by omega) (l3 (by omega)))
        by_cases e8:ia'+1+1=a.size
        ·rw[if_pos (by simpa using e8)]
         exact Ij ⟨_,rfl,.inl ⟨_,_,rfl,cJ C T J4 e8⟩⟩
        rw[if_neg (aG e8)]
        by_cases q4:(decide (k<7)&&decide (l<7))=true
        ·rw[if_pos q4]
         exact Ij ⟨_,rfl,.inr ⟨_,_,_,_,_,_,rfl,⟨J4,by omega,by omega⟩,by omega⟩⟩
        ·rw[if_neg q4]
         exact Ij ⟨_,_,_,_,_,_,_,rfl,rfl,⟨J4,by omega,by omega⟩,by omega⟩
       ·rw[if_neg q3]
        rw[show l=0 by omega,Lh] at l3
        have J3:=J2
        refine Ik (au (by omega) ?_)
        have J4:=c9 T J3 (by omega) (T.aWin C (by omega) (by omega) (l3 (by omega)))
        by_cases e8:ia'+1+1=a.size
        ·rw[if_pos (by simpa using e8)]
         exact Ij ⟨_,rfl,.inl ⟨_,_,rfl,cJ C T J4 e8⟩⟩
        rw[if_neg (aG e8)]
        by_cases q4:(decide (k<7)&&decide (l<7))=true
        ·rw[if_pos q4]
         exact Ij ⟨_,rfl,.inr ⟨_,_,_,_,_,_,rfl,⟨J4,by omega,by omega⟩,by omega⟩⟩
        ·rw[if_neg q4]
         exact Ij ⟨_,_,_,_,_,_,_,rfl,rfl,⟨J4,by omega,by omega⟩,by omega⟩
end
section
variable {L:IG->IG->Bool}{P:IG->Prop}
structure MH(L:IG->IG->Bool)(A B:List IG)(R:List IG)(na nb:Nat):Prop where
 pm:R.Perm (A.drop na++B.drop nb)
 so:R.Pairwise (leq L)
 up: ∀x∈R,∀y∈A.take na++B.take nb,leq L y x
theorem sH {A:List IG}(h:A.Pairwise (leq L))(i k:Nat):((A.drop i).take k).Pairwise (leq L)/\ ∀x∈(A.drop i).take k,∀y∈A.take i,leq L y x:=by
 refine⟨(lK h i k).1,λx hx y hy=>?_⟩
 rw[<-JO i A,Jt] at h;exact h.2.2 y hy x (M6 hx)
theorem gq(A:List IG)(i k:Nat):(A.drop i).take k++A.drop (i+k)=A.drop i:=by
 rw[<-Pd,JO]
theorem MH.takeA {A B R:List IG}{na nb k:Nat}(h:MH L A B R (na+k) nb)(hA:A.Pairwise (leq L))(hb: ∀x∈(A.drop na).take k,∀y∈B.take nb,leq L y x):MH L A B ((A.drop na).take k++R) na nb:=by
 have⟨s1,s2⟩:=sH hA na k
 refine⟨?_,?_,?_⟩
 ·refine(JZ _ h.pm).trans (OO ?_)
  rw[<-IS,gq]
 ·rw[Jt]
  exact⟨s1,h.so,λx hx y hy=>h.up y hy x (Ja _ (by rw[eN];exact Iw _ hx))⟩
 ·intro x hx y hy
  rcases IM.mp hy with hy|hy
  ·rcases IM.mp hx with hx|hx
   ·exact s2 x hx y hy
   ·exact h.up x hx y (Ja _ (by rw[eN];exact Ja _ hy))
  ·rcases IM.mp hx with hx|hx
   ·exact hb x hx y hy
   ·exact h.up x hx y (Iw _ hy)
theorem MH.takeB {A B R:List IG}{na nb k:Nat}(h:MH L A B R na (nb+k))(hB:B.Pairwise (leq L))(ha: ∀x∈(B.drop nb).take k,∀y∈A.take na,leq L y x):MH L A B ((B.drop nb).take k++R) na nb:=by
 have⟨s1,s2⟩:=sH hB nb k
 refine⟨?_,?_,?_⟩
 ·refine(JZ _ h.pm).trans ?_
  rw[<-IS];refine(JK _ KF).trans (OO ?_)
  rw[IS,gq]
 ·rw[Jt]
  exact⟨s1,h.so,λx hx y hy=>h.up y hy x (Iw _ (by rw[eN];exact Iw _ hx))⟩
 ·intro x hx y hy
  rcases IM.mp hy with hy|hy
  ·rcases IM.mp hx with hx|hx
   ·exact ha x hx y hy
   ·exact h.up x hx y (Ja _ hy)
  ·rcases IM.mp hx with hx|hx
   ·exact s2 x hx y hy
   ·exact h.up x hx y (Iw _ (by rw[eN];exact Ja _ hy))
theorem MH.perm {A B R:List IG}{na nb:Nat}(h:MH L A B R na nb):(A.take na++B.take nb++R).Perm (A++B):=by
 have:(A.take na++B.take nb++R).Perm ((A.take na++A.drop na)++(B.take nb++B.drop nb)):=by
  refine(JZ _ h.pm).trans ?_
  rw[IS,IS];refine JZ _ ?_
  rw[<-IS,<-IS];exact JK _ KF
 rw[JO,JO] at this;exact this
theorem MH.fin {A B R:List IG}{na nb:Nat}(h:MH L A B R na nb)(hA:A.Pairwise (leq L))(hB:B.Pairwise (leq L))(hab: ∀x∈A.take na,∀y∈B.take nb,leq L x y):MG L A B (A.take na++B.take nb++R):=by
 refine⟨h.perm,?_⟩
 rw[Jt,Jt];exact⟨⟨JN (LR _ _) hA,JN (LR _ _) hB,hab⟩,h.so,λx hx y hy=>h.up y hy x hx⟩
theorem MH.fin2 {A B R:List IG}{na nb:Nat}(h:MH L A B R na nb)(hA:A.Pairwise (leq L))(hB:B.Pairwise (leq L))(hab: ∀y∈B.take nb,∀x∈A.take na,leq L y x):MG L A B (B.take nb++A.take na++R):=by
 refine⟨(JK _ KF).trans h.perm,?_⟩
 rw[Jt,Jt];refine⟨⟨JN (LR _ _) hB,JN (LR _ _) hA,hab⟩,h.so,λx hx y hy=>h.up y hy x ?_⟩
 rcases IM.mp hx with hx|hx
 ·exact Iw _ hx
 ·exact Ja _ hx
theorem lG(a:Array IG)(i:Nat):(a.extract 0 i).toList=a.toList.take i:=by rw[cG];simp
theorem iy {a:Array IG}{k:Nat}{y:IG}(h:y∈a.toList.take k): ∃j,j<k/\j<a.size/\y=a.getD j bj:=by
 have:=iM (a:=a) (i:=0) (k:=k) (by simpa using h)
 obtain⟨j,h1,h2,h3⟩:=this
 rw[ML] at h2 h3;exact⟨j,h1,h2,h3⟩
end
section
variable {prog:IP}{w:Jo}{A:Jc}{E:Ia->Ic->Prop}{s:Ic}{κ:L0}{P:IG->Prop}{L:IG->IG->Bool}{a b:Array IG}
abbrev MR(L:IG->IG->Bool)(a b out:Array IG)(na nb:Nat):Prop:=MH L a.toList b.toList out.toList.reverse na nb
structure MK(L:IG->IG->Bool)(a b out:Array IG)(na nb:Nat):Prop where
 j:MR L a b out na nb
 ha:1<=na
 hb:2<=nb
 la:na<=a.size
 lb:nb<=b.size
theorem cI(T:TwoR P L a b){out:Array IG}{na nb:Nat}(h:MR L a b out na nb)(e:na=0\/nb=0):MG L a.toList b.toList (a.extract 0 na++b.extract 0 nb++out.reverse).toList:=by
 rw[JC,JC,lG,lG,L3];refine h.fin T.sa T.sb λx hx y hy=>?_
 obtain⟨i,h1,h2,_⟩:=iy hx
 obtain⟨j,h3,h4,_⟩:=iy hy
 omega
theorem cF(C:Cmp prog w A E s κ P L)(T:TwoR P L a b){out:Array IG}{na nb:Nat}(h:MR L a b out na nb)(e:nb=1):MG L a.toList b.toList (b.extract 0 nb++a.extract 0 na++out.reverse).toList:=by
 rw[JC,JC,lG,lG,L3];refine h.fin2 T.sa T.sb λy hy x hx=>?_
 obtain⟨i,h1,h2,rfl⟩:=iy hx
 obtain⟨j,h3,h4,rfl⟩:=iy hy
 rw[show j=0 by omega]
 exact C.as _ _ (T.first i h2)
theorem cC(T:TwoR P L a b){out:Array IG}{na nb:Nat}(h:MR L a b out (na+1) nb)(hi:na<a.size)(q: ∀j,j<nb->j<b.size->leq L (b.getD j bj) (a.getD na bj)):MR L a b (out.push (a.getD na bj)) na nb:=by
 have:=MH.takeA (k:=1) h T.sa (by
  rw[gZ a hi];intro x hx y hy;rw[IN] at hx;subst hx;obtain⟨j,h3,h4,rfl⟩:=iy hy
  exact q j h3 h4)
 rw[gZ a hi] at this;show MH L _ _ _ _ _;rw[Ky,Kh];exact this
theorem iE(T:TwoR P L a b){out:Array IG}{na nb:Nat}(h:MR L a b out na (nb+1))(hi:nb<b.size)(q: ∀j,j<na->j<a.size->leq L (a.getD j bj) (b.getD nb bj)):MR L a b (out.push (b.getD nb bj)) na nb:=by
 have:=MH.takeB (k:=1) h T.sb (by
  rw[gZ b hi];intro x hx y hy;rw[IN] at hx;subst hx;obtain⟨j,h3,h4,rfl⟩:=iy hy
  exact q j h3 h4)
 rw[gZ b hi] at this;show MH L _ _ _ _ _;rw[Ky,Kh];exact this
theorem qq(T:TwoR P L a b){out:Array IG}{na na' nb:Nat}(hle:na'<=na)(h:MR L a b out na nb)(q: ∀i,na'<=i->i<na->i<a.size-> ∀j,j<nb->j<b.size->leq L (b.getD j bj) (a.getD i bj)):MR L a b (out++(a.extract na' na).reverse) na' nb:=by
 have h':MH L a.toList b.toList out.toList.reverse (na'+(na-na')) nb:=by rw[show na'+(na-na')=na by omega];exact h
 show MH L _ _ _ _ _;rw[JC,L3,Kh,Pe,cG];refine MH.takeA h' T.sa λx hx y hy=>?_
 obtain⟨i,h1,h2,rfl⟩:=iM hx
 obtain⟨j,h3,h4,rfl⟩:=iy hy
 exact q _ (by omega) (by omega) h2 j h3 h4
theorem j4(T:TwoR P L a b){out:Array IG}{na nb nb':Nat}(hle:nb'<=nb)(h:MR L a b out na nb)(q: ∀i,nb'<=i->i<nb->i<b.size-> ∀j,j<na->j<a.size->leq L (a.getD j bj) (b.getD i bj)):MR L a b (out++(b.extract nb' nb).reverse) na nb':=by
 have h':MH L a.toList b.toList out.toList.reverse na (nb'+(nb-nb')):=by rw[show nb'+(nb-nb')=nb by omega];exact h
 show MH L _ _ _ _ _;rw[JC,L3,Kh,Pe,cG];refine MH.takeB h' T.sb λx hx y hy=>?_
 obtain⟨i,h1,h2,rfl⟩:=iM hx
 obtain⟨j,h3,h4,rfl⟩:=iy hy
 exact q _ (by omega) (by omega) h2 j h3 h4
theorem TwoR.aTop(C:Cmp prog w A E s κ P L)(T:TwoR P L a b){i j:Nat}(hi:i<a.size)(hj:j<b.size)(h:L (b.getD j bj) (a.getD i bj)=true): ∀k,k<=j->leq L (b.getD k bj) (a.getD i bj):=λk hk=>
 C.tr _ _ _ (T.pb _ (by omega)) (T.pb _ hj) (T.pa _ hi) (T.sb' C hk hj) (C.as _ _ h)
theorem TwoR.bTop(C:Cmp prog w A E s κ P L)(T:TwoR P L a b){i j:Nat}(hi:i<a.size)(hj:j<b.size)(h:L (b.getD j bj) (a.getD i bj)=false): ∀k,k<=i->leq L (a.getD k bj) (b.getD j bj):=λk hk=>
 C.tr _ _ _ (T.pa _ (by omega)) (T.pa _ hi) (T.pb _ hj) (T.sa' C hk hi) h
theorem nZ(C:Cmp prog w A E s κ P L)(T:TwoR P L a b){na j:Nat}{st:JI}{Q:Option Nat->JI->Prop}(hk:kindOf st=κ)(h1:1<=na)(h2:na<=a.size)(hb:j<b.size)
 (h: ∀k,k<=na->(∀i,i<k->L (b.getD j bj) (a.getD i bj)=false)->(∀i,k<=i->i<na->L (b.getD j bj) (a.getD i bj)=true)->Q (some k) st):wpS (model prog w) A E s (cH false (b.getD j bj) a 0 na (na-1)) Q st:=by
 refine dH C hk (T.pb _ hb) (by omega) (by omega) (λi hi=>T.pa _ (by omega)) (λi j h1 h2 h3=>T.sa' C h2 (by omega)) λk c=>?_
 refine h k c.leq (λi hi=>?_) λi hi h9=>?_
 ·have:=c.lo i hi
  unfold fE at this;rw[if_neg (by decide),LS,ML] at this
  exact this
 ·have:=c.hi i hi h9
  unfold fE at this;rw[if_neg (by decide),Nz,ML] at this
  exact this
theorem iO(C:Cmp prog w A E s κ P L)(T:TwoR P L a b){nb i0:Nat}{st:JI}{Q:Option Nat->JI->Prop}(hk:kindOf st=κ)(h1:1<=nb)(h2:nb<=b.size)(hi:i0<a.size)
 (h: ∀k,k<=nb->(∀i,i<k->L (b.getD i bj) (a.getD i0 bj)=true)->(∀i,k<=i->i<nb->L (b.getD i bj) (a.getD i0 bj)=false)->Q (some k) st):wpS (model prog w) A E s (cH true (a.getD i0 bj) b 0 nb (nb-1)) Q st:=by
 refine dH C hk (T.pa _ hi) (by omega) (by omega) (λi hi=>T.pb _ (by omega)) (λi j h1 h2 h3=>T.sb' C h2 (by omega)) λk c=>?_
 refine h k c.leq (λi hi=>?_) λi hi h9=>?_
 ·have:=c.lo i hi
  unfold fE at this;rw[if_pos rfl,ML] at this;exact this
 ·have:=c.hi i hi h9
  unfold fE at this;rw[if_pos rfl,ML] at this;exact this
theorem r9(a b:Array IG):mv a b=(do
 rule "list.sort.merge-hi"
 let total:=a.size+b.size
 let done (out:Array IG) (na nb:Nat):=a.extract 0 na++b.extract 0 nb++out.reverse
 let firstOfB (out:Array IG) (na nb:Nat):=b.extract 0 nb++a.extract 0 na++out.reverse
 let mut na:=a.size-1
 let mut nb:=b.size
 let mut out:Array Keyed:= #[<-Mh a na]
 if na==0 then return done out na nb
 if nb==1 then return firstOfB out na nb
 let mut minGallop:=RD (<-get)
 for _ in [0:total] do
  let mut acount:=0
  let mut bcount:=0
  for _ in [0:total] do
   let some aWins <-lt' (<-Mh b (nb-1)) (<-Mh a (na-1))|return done out na nb
   if aWins then
    na:=na-1;out:=out.push (<-Mh a na);acount:=acount+1;bcount:=0
    if na==0 then return done out na nb
    if acount≥minGallop then break
   else
    nb:=nb-1;out:=out.push (<-Mh b nb);bcount:=bcount+1;acount:=0
    if nb==1 then return firstOfB out na nb
    if bcount≥minGallop then break
  rule "list.sort.gallop"
  minGallop:=minGallop+1
  for _ in [0:total] do
   if minGallop>1 then minGallop:=minGallop-1
   modify λs=>aV s minGallop
   let some at_ <-cH false (<-Mh b (nb-1)) a 0 na (na-1)|return done out na nb
   let k:=na-at_
   acount:=k
   if k>0 then
    out:=out++(a.extract at_ na).reverse;na:=at_
    if na==0 then return done out na nb
   nb:=nb-1;out:=out.push (<-Mh b nb)
   if nb==1 then return firstOfB out na nb
   let some at_ <-cH true (<-Mh a (na-1)) b 0 nb (nb-1)|return done out na nb
   let k:=nb-at_
   bcount:=k
   if k>0 then
    out:=out++(b.extract at_ nb).reverse;nb:=at_
    if nb==1 then return firstOfB out na nb
    if nb==0 then return done out na nb
   na:=na-1;out:=out.push (<-Mh a na)
   if na==0 then return done out na nb
   if acount<7&&bcount<7 then break
  minGallop:=minGallop+1
  modify λs=>aV s minGallop
 NM "internal:list.sort.merge-bound"):=rfl
end
section
variable {prog:IP}{w:Jo}{A:Jc}{E:Ia->Ic->Prop}{s:Ic}{κ:L0}{P:IG->Prop}{L:IG->IG->Bool}{a b:Array IG}
theorem dS {α:Type}{c:Prop} [Decidable c]{m1 m2:StateT JI Sem α}{Q:α->JI->Prop}{st:JI}(h1:wpS (model prog w) A E s m1 Q st)(h2:wpS (model prog w) A E s m2 Q st):wpS (model prog w) A E s (if c then m1 else m2) Q st:=by
 by_cases h:c
 ·rw[if_pos h];exact h1
 ·rw[if_neg h];exact h2
theorem rY(C:Cmp prog w A E s κ P L)(T:TwoR P L a b){st:JI}{Q:Array IG->JI->Prop}(hk:kindOf st=κ)
 (h: ∀r g,MG L a.toList b.toList r.toList->Q r (aV st g)):wpS (model prog w) A E s (mv a b) Q st:=by
 rw[r9];dsimp only;have ha:=T.na
 have hb:=T.nb
 refine Ik (Oh (KH ⟨rfl,?_⟩))
 refine Ik (au (by omega) ?_)
 have hst:st=aV st (RD st):=rfl
 have J0:MR L a b #[a.getD (a.size-1) bj] (a.size-1) b.size:=by
  have z:MR L a b #[] (a.size-1+1) b.size:=⟨by rw[Kx (by simp;omega),Kx (by simp)];simp,by simp,by simp⟩
  exact cC T z (by omega) λj _ h2=>C.as _ _ (T.last j h2)
 by_cases e1:a.size-1=0
 ·rw[if_pos (by simpa using e1)]
  refine Ij ?_
  rw[hst];exact h _ _ (cI T J0 (.inl e1))
 rw[if_neg (aG e1)]
 by_cases e2:b.size=1
 ·rw[if_pos (by simpa using e2)]
  refine Ij ?_
  rw[hst];exact h _ _ (cF C T J0 e2)
 rw[if_neg (aG e2)];refine Ik (Ml ?_)
 refine Ik (KY (JQ
  (I:=λx c st'=> ∃out na nb mg g,c=(none,na,nb,out,mg)/\st'=aV st g/\MK L a b out na nb/\na+nb+x+1<=a.size+b.size)
  (Q:=λc st'=> ∃r y g,c=(some r,y)/\st'=aV st g/\MG L a.toList b.toList r.toList) ?step ?fin ⟨_,_,_,_,_,rfl,hst,⟨J0,by omega,by omega,by omega,by omega⟩,by omega⟩) ?post)
 case fin=>
  rintro c st' ⟨out,na,nb,mg,g,rfl,rfl,M,hx⟩
  have:=M.ha;have:=M.hb
  omega
 case post=>
  rintro c st' ⟨r,y,g,rfl,rfl,G⟩
  exact Ij (h r g G)
 case step=>
  rintro x c st' _ hx ⟨out,na,nb,mg,g,rfl,rfl,M,hx2⟩
  dsimp only;refine Ik (KY (JQ
   (I:=λx' c st'=> ∃out' na' nb' ac bc,c=(none,na',nb',out',ac,bc)/\st'=aV st g/\MK L a b out' na' nb'/\na'+nb'+x'<=na+nb)
   (Q:=λc st'=>st'=aV st g/\((∃r y,c=(some r,y)/\MG L a.toList b.toList r.toList)\/ ∃out' na' nb' ac bc,c=(none,na',nb',out',ac,bc)/\MK L a b out' na' nb'/\na'+nb'+1<=na+nb)) ?step1 ?fin1 ⟨out,na,nb,0,0,rfl,rfl,M,by omega⟩) ?post1)
  case fin1=>
   rintro c st' ⟨out',na',nb',ac,bc,rfl,rfl,M',hx'⟩
   exact⟨rfl,.inr ⟨_,_,_,_,_,rfl,M',by omega⟩⟩
  case step1=>
   rintro x' c st' _ hx' ⟨out',na',nb',ac,bc,rfl,rfl,M',hx3⟩
   have m1:=M'.ha;have m2:=M'.hb;have m3:=M'.la;have m4:=M'.lb
   dsimp only;refine Ik (au (show nb'-1<b.size by omega) (Ik (au (show na'-1<a.size by omega) ?_)))
   refine Ik (C.ask _ _ (T.pb _ (by omega)) (T.pa _ (by omega)) _ _ hk ?_)
   dsimp only;cases e:L (b.getD (nb'-1) bj) (a.getD (na'-1) bj) with
   |true=>
    rw[if_pos rfl];refine Ik (au (show na'-1<a.size by omega) ?_)
    have J:=cC T (na:=na'-1) (show MR L a b _ (na'-1+1) _ by rw[show na'-1+1=na' by omega];exact M'.j) (by omega) λj h1 _=>T.aTop C (by omega) (by omega) e j (by omega)
    by_cases e3:na'-1=0
    ·rw[if_pos (by simpa using e3)]
     exact Ij ⟨rfl,.inl ⟨_,_,rfl,cI T J (.inl e3)⟩⟩
    ·rw[if_neg (aG e3)]
     by_cases q9:ac+1≥mg
     ·rw[if_pos q9];exact Ij ⟨rfl,.inr ⟨_,_,_,_,_,rfl,⟨J,by omega,by omega,by omega,by omega⟩,by omega⟩⟩
     ·rw[if_neg q9];exact Ij ⟨_,_,_,_,_,rfl,rfl,⟨J,by omega,by omega,by omega,by omega⟩,by omega⟩
   |false=>
    rw[if_neg (by decide)]
    refine Ik (au (show nb'-1<b.size by omega) ?_)
    have J:=iE T (nb:=nb'-1) (show MR L a b _ _ (nb'-1+1) by rw[show nb'-1+1=nb' by omega];exact M'.j) (by omega) λj h1 _=>T.bTop C (show na'-1<a.size by omega) (by omega) e j (by omega)
    by_cases e3:nb'-1=1
    ·rw[if_pos (by simpa using e3)]
     exact Ij ⟨rfl,.inl ⟨_,_,rfl,cF C T J e3⟩⟩
    ·rw[if_neg (aG e3)]
     by_cases q9:bc+1≥mg
     ·rw[if_pos q9];exact Ij ⟨rfl,.inr ⟨_,_,_,_,_,rfl,⟨J,by omega,by omega,by omega,by omega⟩,by omega⟩⟩
     ·rw[if_neg q9];exact Ij ⟨_,_,_,_,_,rfl,rfl,⟨J,by omega,by omega,by omega,by omega⟩,by omega⟩
  case post1=>
   rintro c st' ⟨rfl,⟨r,y,rfl,G⟩|⟨out1,na1,nb1,ac,bc,rfl,M1,hx1⟩⟩
   ·exact Ij ⟨r,_,g,rfl,rfl,G⟩
   ·dsimp only
    refine Ik (Oh (KH ⟨rfl,?_⟩))
    refine Ik (KY (JQ
     (I:=λ_ c st'=> ∃out' na' nb' mg ac bc g,c=(none,na',nb',out',mg,ac,bc)/\st'=aV st g/\MK L a b out' na' nb'/\na'+nb'<=na1+nb1)
     (Q:=λc st'=> ∃g,st'=aV st g/\((∃r y,c=(some r,y)/\MG L a.toList b.toList r.toList)\/ ∃out' na' nb' mg ac bc,c=(none,na',nb',out',mg,ac,bc)/\MK L a b out' na' nb'/\na'+nb'<=na1+nb1)) ?step2 ?fin2 ⟨out1,na1,nb1,_,_,_,_,rfl,rfl,M1,Ie _⟩) ?post2)
    case fin2=>
     rintro c st' ⟨out',na',nb',mg,ac,bc,g,rfl,rfl,M',hx'⟩
     exact⟨g,rfl,.inr ⟨_,_,_,_,_,_,rfl,M',hx'⟩⟩
    case post2=>
     rintro c st' ⟨g2,rfl,⟨r,y,rfl,G⟩|⟨out',na',nb',mg,ac,bc,rfl,M',hx'⟩⟩
     ·exact Ij ⟨r,_,g2,rfl,rfl,G⟩
     ·dsimp only
      refine Ik (Kz ?_)
      exact Ij ⟨_,_,_,_,_,rfl,rfl,M',by omega⟩
    case step2=>
     rintro x' c st' _ hx' ⟨out',na',nb',mg',ac',bc',g',rfl,rfl,M',hx3⟩
     have m1:=M'.ha;have m2:=M'.hb;have m3:=M'.la;have m4:=M'.lb
     dsimp only
     by_cases q1:mg'>1
     ·rw[if_pos q1]
      refine Ik (Kz ?_)
      refine Ik (au (show nb'-1<b.size by omega) ?_)
      refine Ik (nZ C T hk m1 m3 (show nb'-1<b.size by omega) λp p1 p2 p3=>?_)
      dsimp only
      by_cases q2:na'-p>0
      ·rw[if_pos q2]
       have J1:=qq T (na':=p) p1 M'.j λi h1 h2 h3 j h4 h5=>T.aTop C h3 (show nb'-1<b.size by omega) (p3 i h1 h2) j (by omega)
       by_cases e5:p=0
       ·rw[if_pos (by simpa using e5)]
        exact Ij ⟨_,rfl,.inl ⟨_,_,rfl,cI T J1 (.inl e5)⟩⟩
       rw[if_neg (aG e5)];have k2: ∀j,j<p->j<a.size->leq L (a.getD j bj) (b.getD (nb'-1) bj):=λj h1 _=>p2 j h1
       refine Ik (au (show nb'-1<b.size by omega) ?_)
       have J2:=iE T (nb:=nb'-1) (show MR L a b _ _ (nb'-1+1) by rw[show nb'-1+1=nb' by omega];exact J1) (by omega) k2
       by_cases e6:nb'-1=1
       ·rw[if_pos (by simpa using e6)]
        exact Ij ⟨_,rfl,.inl ⟨_,_,rfl,cF C T J2 e6⟩⟩
       rw[if_neg (aG e6)];refine Ik (au (show p-1<a.size by omega) ?_)
       refine Ik (iO C T hk (by omega) (by omega) (show p-1<a.size by omega) λl l1 l2 l3=>?_)
       dsimp only;have l0:1<=l:=by
        apply Lw
        intro h9;have:=l3 0 (by omega) (by omega)
        rw[T.first _ (by omega)] at this
        cases this
       replace l2: ∀j,j<l->j<b.size->leq L (b.getD j bj) (a.getD (p-1) bj):=λj h1 _=>C.as _ _ (l2 j h1)
       by_cases q3:nb'-1-l>0
       ·rw[if_pos q3]
        have J3:=j4 T (nb':=l) (by omega) J2 λi h1 h2 h3 j h4 h5=>T.bTop C (show p-1<a.size by omega) h3 (l3 i h1 h2) j (by omega)
        by_cases e7:l=1
        ·rw[if_pos (by simpa using e7)]
         exact Ij ⟨_,rfl,.inl ⟨_,_,rfl,cF C T J3 e7⟩⟩
        rw[if_neg (aG e7),if_neg (aG (show¬l=0 by omega))]
        refine Ik (au (show p-1<a.size by omega) ?_)
        have J4:=cC T (na:=p-1) (show MR L a b _ (p-1+1) _ by rw[show p-1+1=p by omega];exact J3) (by omega) (l2)
        by_cases e8:p-1=0
        ·rw[if_pos (by simpa using e8)]
         exact Ij ⟨_,rfl,.inl ⟨_,_,rfl,cI T J4 (.inl e8)⟩⟩
        rw[if_neg (aG e8)];refine dS ?_ ?_
        ·exact Ij ⟨_,rfl,.inr ⟨_,_,_,_,_,_,rfl,⟨J4,by omega,by omega,by omega,by omega⟩,by omega⟩⟩
        ·exact Ij ⟨_,_,_,_,_,_,_,rfl,rfl,⟨J4,by omega,by omega,by omega,by omega⟩,by omega⟩
       ·rw[if_neg q3]
        have hl:l=nb'-1:=by omega
        subst hl;have J3:=J2
        refine Ik (au (show p-1<a.size by omega) ?_)
        have J4:=cC T (na:=p-1) (show MR L a b _ (p-1+1) _ by rw[show p-1+1=p by omega];exact J3) (by omega) (l2)
        by_cases e8:p-1=0
        ·rw[if_pos (by simpa using e8)]
         exact Ij ⟨_,rfl,.inl ⟨_,_,rfl,cI T J4 (.inl e8)⟩⟩
        rw[if_neg (aG e8)];refine dS ?_ ?_
        ·exact Ij ⟨_,rfl,.inr ⟨_,_,_,_,_,_,rfl,⟨J4,by omega,by omega,by omega,by omega⟩,by omega⟩⟩
        ·exact Ij ⟨_,_,_,_,_,_,_,rfl,rfl,⟨J4,by omega,by omega,by omega,by omega⟩,by omega⟩
      ·rw[if_neg q2]
       have hp:p=na':=by omega
       subst hp;have J1:=M'.j
       have k2: ∀j,j<p->j<a.size->leq L (a.getD j bj) (b.getD (nb'-1) bj):=λj h1 _=>p2 j h1
       refine Ik (au (show nb'-1<b.size by omega) ?_)
       have J2:=iE T (nb:=nb'-1) (show MR L a b _ _ (nb'-1+1) by rw[show nb'-1+1=nb' by omega];exact J1) (by omega) k2
       by_cases e6:nb'-1=1
       ·rw[if_pos (by simpa using e6)]
        exact Ij ⟨_,rfl,.inl ⟨_,_,rfl,cF C T J2 e6⟩⟩
       rw[if_neg (aG e6)];refine Ik (au (show p-1<a.size by omega) ?_)
       refine Ik (iO C T hk (by omega) (by omega) (show p-1<a.size by omega) λl l1 l2 l3=>?_)
       dsimp only;have l0:1<=l:=by
        apply Lw
        intro h9;have:=l3 0 (by omega) (by omega)
        rw[T.first _ (by omega)] at this
        cases this
       replace l2: ∀j,j<l->j<b.size->leq L (b.getD j bj) (a.getD (p-1) bj):=λj h1 _=>C.as _ _ (l2 j h1)
       by_cases q3:nb'-1-l>0
       ·rw[if_pos q3]
        have J3:=j4 T (nb':=l) (by omega) J2 λi h1 h2 h3 j h4 h5=>T.bTop C (show p-1<a.size by omega) h3 (l3 i h1 h2) j (by omega)
        by_cases e7:l=1
        ·rw[if_pos (by simpa using e7)]
         exact Ij ⟨_,rfl,.inl ⟨_,_,rfl,cF C T J3 e7⟩⟩
        rw[if_neg (aG e7),if_neg (aG (show¬l=0 by omega))]
        refine Ik (au (show p-1<a.size by omega) ?_)
        have J4:=cC T (na:=p-1) (show MR L a b _ (p-1+1) _ by rw[show p-1+1=p by omega];exact J3) (by omega) (l2)
        by_cases e8:p-1=0
        ·rw[if_pos (by simpa using e8)]
         exact Ij ⟨_,rfl,.inl ⟨_,_,rfl,cI T J4 (.inl e8)⟩⟩
        rw[if_neg (aG e8)];refine dS ?_ ?_
        ·exact Ij ⟨_,rfl,.inr ⟨_,_,_,_,_,_,rfl,⟨J4,by omega,by omega,by omega,by omega⟩,by omega⟩⟩
        ·exact Ij ⟨_,_,_,_,_,_,_,rfl,rfl,⟨J4,by omega,by omega,by omega,by omega⟩,by omega⟩
       ·rw[if_neg q3]
        have hl:l=nb'-1:=by omega
        subst hl;have J3:=J2
        refine Ik (au (show p-1<a.size by omega) ?_)
        have J4:=cC T (na:=p-1) (show MR L a b _ (p-1+1) _ by rw[show p-1+1=p by omega];exact J3) (by omega) (l2)
        by_cases e8:p-1=0
        ·rw[if_pos (by simpa using e8)]
         exact Ij ⟨_,rfl,.inl ⟨_,_,rfl,cI T J4 (.inl e8)⟩⟩
        rw[if_neg (aG e8)];refine dS ?_ ?_
        ·exact Ij ⟨_,rfl,.inr ⟨_,_,_,_,_,_,rfl,⟨J4,by omega,by omega,by omega,by omega⟩,by omega⟩⟩
        ·exact Ij ⟨_,_,_,_,_,_,_,rfl,rfl,⟨J4,by omega,by omega,by omega,by omega⟩,by omega⟩
     ·rw[if_neg q1]
      refine Ik (Kz ?_)
      refine Ik (au (show nb'-1<b.size by omega) ?_)
      refine Ik (nZ C T hk m1 m3 (show nb'-1<b.size by omega) λp p1 p2 p3=>?_)
      dsimp only
      by_cases q2:na'-p>0
      ·rw[if_pos q2]
       have J1:=qq T (na':=p) p1 M'.j λi h1 h2 h3 j h4 h5=>T.aTop C h3 (show nb'-1<b.size by omega) (p3 i h1 h2) j (by omega)
       by_cases e5:p=0
       ·rw[if_pos (by simpa using e5)]
        exact Ij ⟨_,rfl,.inl ⟨_,_,rfl,cI T J1 (.inl e5)⟩⟩
       rw[if_neg (aG e5)];have k2: ∀j,j<p->j<a.size->leq L (a.getD j bj) (b.getD (nb'-1) bj):=λj h1 _=>p2 j h1
       refine Ik (au (show nb'-1<b.size by omega) ?_)
       have J2:=iE T (nb:=nb'-1) (show MR L a b _ _ (nb'-1+1) by rw[show nb'-1+1=nb' by omega];exact J1) (by omega) k2
       by_cases e6:nb'-1=1
       ·rw[if_pos (by simpa using e6)]
        exact Ij ⟨_,rfl,.inl ⟨_,_,rfl,cF C T J2 e6⟩⟩
       rw[if_neg (aG e6)];refine Ik (au (show p-1<a.size by omega) ?_)
       refine Ik (iO C T hk (by omega) (by omega) (show p-1<a.size by omega) λl l1 l2 l3=>?_)
       dsimp only;have l0:1<=l:=by
        apply Lw
        intro h9;have:=l3 0 (by omega) (by omega)
        rw[T.first _ (by omega)] at this
        cases this
       replace l2: ∀j,j<l->j<b.size->leq L (b.getD j bj) (a.getD (p-1) bj):=λj h1 _=>C.as _ _ (l2 j h1)
       by_cases q3:nb'-1-l>0
       ·rw[if_pos q3]
        have J3:=j4 T (nb':=l) (by omega) J2 λi h1 h2 h3 j h4 h5=>T.bTop C (show p-1<a.size by omega) h3 (l3 i h1 h2) j (by omega)
        by_cases e7:l=1
        ·rw[if_pos (by simpa using e7)]
         exact Ij ⟨_,rfl,.inl ⟨_,_,rfl,cF C T J3 e7⟩⟩
        rw[if_neg (aG e7),if_neg (aG (show¬l=0 by omega))]
        refine Ik (au (show p-1<a.size by omega) ?_)
        have J4:=cC T (na:=p-1) (show MR L a b _ (p-1+1) _ by rw[show p-1+1=p by omega];exact J3) (by omega) (l2)
        by_cases e8:p-1=0
        ·rw[if_pos (by simpa using e8)]
         exact Ij ⟨_,rfl,.inl ⟨_,_,rfl,cI T J4 (.inl e8)⟩⟩
        rw[if_neg (aG e8)];refine dS ?_ ?_
        ·exact Ij ⟨_,rfl,.inr ⟨_,_,_,_,_,_,rfl,⟨J4,by omega,by omega,by omega,by omega⟩,by omega⟩⟩
        ·exact Ij ⟨_,_,_,_,_,_,_,rfl,rfl,⟨J4,by omega,by omega,by omega,by omega⟩,by omega⟩
       ·rw[if_neg q3]
        have hl:l=nb'-1:=by omega
        subst hl;have J3:=J2
        refine Ik (au (show p-1<a.size by omega) ?_)
        have J4:=cC T (na:=p-1) (show MR L a b _ (p-1+1) _ by rw[show p-1+1=p by omega];exact J3) (by omega) (l2)
        by_cases e8:p-1=0
        ·rw[if_pos (by simpa using e8)]
         exact Ij ⟨_,rfl,.inl ⟨_,_,rfl,cI T J4 (.inl e8)⟩⟩
        rw[if_neg (aG e8)];refine dS ?_ ?_
        ·exact Ij ⟨_,rfl,.inr ⟨_,_,_,_,_,_,rfl,⟨J4,by omega,by omega,by omega,by omega⟩,by omega⟩⟩
        ·exact Ij ⟨_,_,_,_,_,_,_,rfl,rfl,⟨J4,by omega,by omega,by omega,by omega⟩,by omega⟩
      ·rw[if_neg q2]
       have hp:p=na':=by omega
       subst hp;have J1:=M'.j
       have k2: ∀j,j<p->j<a.size->leq L (a.getD j bj) (b.getD (nb'-1) bj):=λj h1 _=>p2 j h1
       refine Ik (au (show nb'-1<b.size by omega) ?_)
       have J2:=iE T (nb:=nb'-1) (show MR L a b _ _ (nb'-1+1) by rw[show nb'-1+1=nb' by omega];exact J1) (by omega) k2
       by_cases e6:nb'-1=1
       ·rw[if_pos (by simpa using e6)]
        exact Ij ⟨_,rfl,.inl ⟨_,_,rfl,cF C T J2 e6⟩⟩
       rw[if_neg (aG e6)];refine Ik (au (show p-1<a.size by omega) ?_)
       refine Ik (iO C T hk (by omega) (by omega) (show p-1<a.size by omega) λl l1 l2 l3=>?_)
       dsimp only;have l0:1<=l:=by
        apply Lw
        intro h9;have:=l3 0 (by omega) (by omega)
        rw[T.first _ (by omega)] at this
        cases this
       replace l2: ∀j,j<l->j<b.size->leq L (b.getD j bj) (a.getD (p-1) bj):=λj h1 _=>C.as _ _ (l2 j h1)
       by_cases q3:nb'-1-l>0
       ·rw[if_pos q3]
        have J3:=j4 T (nb':=l) (by omega) J2 λi h1 h2 h3 j h4 h5=>T.bTop C (show p-1<a.size by omega) h3 (l3 i h1 h2) j (by omega)
        by_cases e7:l=1
        ·rw[if_pos (by simpa using e7)]
         exact Ij ⟨_,rfl,.inl ⟨_,_,rfl,cF C T J3 e7⟩⟩
        rw[if_neg (aG e7),if_neg (aG (show¬l=0 by omega))]
        refine Ik (au (show p-1<a.size by omega) ?_)
        have J4:=cC T (na:=p-1) (show MR L a b _ (p-1+1) _ by rw[show p-1+1=p by omega];exact J3) (by omega) (l2)
        by_cases e8:p-1=0
        ·rw[if_pos (by simpa using e8)]
         exact Ij ⟨_,rfl,.inl ⟨_,_,rfl,cI T J4 (.inl e8)⟩⟩
        rw[if_neg (aG e8)];refine dS ?_ ?_
        ·exact Ij ⟨_,rfl,.inr ⟨_,_,_,_,_,_,rfl,⟨J4,by omega,by omega,by omega,by omega⟩,by omega⟩⟩
        ·exact Ij ⟨_,_,_,_,_,_,_,rfl,rfl,⟨J4,by omega,by omega,by omega,by omega⟩,by omega⟩
       ·rw[if_neg q3]
        have hl:l=nb'-1:=by omega
        subst hl;have J3:=J2
        refine Ik (au (show p-1<a.size by omega) ?_)
        have J4:=cC T (na:=p-1) (show MR L a b _ (p-1+1) _ by rw[show p-1+1=p by omega];exact J3) (by omega) (l2)
        by_cases e8:p-1=0
        ·rw[if_pos (by simpa using e8)]
         exact Ij ⟨_,rfl,.inl ⟨_,_,rfl,cI T J4 (.inl e8)⟩⟩
        rw[if_neg (aG e8)];refine dS ?_ ?_
        ·exact Ij ⟨_,rfl,.inr ⟨_,_,_,_,_,_,rfl,⟨J4,by omega,by omega,by omega,by omega⟩,by omega⟩⟩
        ·exact Ij ⟨_,_,_,_,_,_,_,rfl,rfl,⟨J4,by omega,by omega,by omega,by omega⟩,by omega⟩
end
abbrev SS(κ:L0)(arr:Array IG)(pend:Array (Nat×Nat×Nat))(g:Nat):SortSt:=WB κ arr pend g none
abbrev gk(arr:Array IG)(i:Nat):Keyed:=arr.getD i bj
section
variable {prog:IP}{w:Jo}{A:Jc}{E:Ia->Ic->Prop}{s:Ic}{κ:L0}{P:IG->Prop}{L:IG->IG->Bool}{arr arr':Array IG}{pend:Array (Nat×Nat×Nat)}{g:Nat}
def AlP(P:IG->Prop)(arr:Array IG):Prop:= ∀x∈arr.toList,P x
def DsL(L:IG->IG->Bool)(arr:Array IG):Prop:=arr.toList.Pairwise λx y=>L x y=true\/L y x=true
theorem AlP.gt(h:AlP P arr){i:Nat}(hi:i<arr.size):P (gk arr i):=h _ (by simp[gk,KU,hi])
theorem AlP.perm(h:AlP P arr)(p:arr'.Perm arr):AlP P arr':=λx hx=>h x (p.toList.mem_iff.mp hx)
theorem DsL.perm(h:DsL L arr)(p:arr'.Perm arr):DsL L arr':=(p.toList.pairwise_iff (λhxy=>hxy.symm)).mpr h
theorem DsL.gt(h:DsL L arr){i j:Nat}(hi:i<arr.size)(hj:j<arr.size)(ne:i≠j):L (gk arr i) (gk arr j)=true\/L (gk arr j) (gk arr i)=true:=by
 have key: ∀i j,i<arr.size->j<arr.size->i<j->L (gk arr i) (gk arr j)=true\/L (gk arr j) (gk arr i)=true:=λi j hi hj hij=>by
  have:=JV.mp h i j (by simpa using hi) (by simpa using hj) hij
  simpa [gk,KU,hi,hj] using this
 rcases Nat.lt_or_gt_of_ne ne with h1|h1
 ·exact key i j hi hj h1
 ·exact(key j i hj hi h1).symm
structure ChgK(lo hi:Nat)(arr arr':Array IG):Prop where
 perm:arr'.Perm arr
 same: ∀i,i<lo\/hi<=i->gk arr' i=gk arr i
theorem ChgK.refl(lo hi:Nat)(arr:Array IG):ChgK lo hi arr arr:=⟨.refl _,λ_ _=>rfl⟩
theorem ChgK.size {lo hi:Nat}(c:ChgK lo hi arr arr'):arr'.size=arr.size:=c.perm.size_eq
theorem ChgK.trans {lo hi:Nat}{arr2:Array IG}(c:ChgK lo hi arr arr')(d:ChgK lo hi arr' arr2):ChgK lo hi arr arr2:=⟨d.perm.trans c.perm,λi h=>(d.same i h).trans (c.same i h)⟩
theorem ChgK.mono {lo hi lo' hi':Nat}(c:ChgK lo hi arr arr')(h1:lo'<=lo)(h2:hi<=hi'):ChgK lo' hi' arr arr':=⟨c.perm,λi h=>c.same i (by omega)⟩
theorem eO(C:Cmp prog w A E s κ P L)(hP:AlP P arr){i j:Nat}{Q:Option Bool->JI->Prop}(hi:i<arr.size)(hj:j<arr.size)(h:Q (some (L (gk arr i) (gk arr j))) (SS κ arr pend g)):wpS (model prog w) A E s (ltAt' i j) Q (SS κ arr pend g):=by
 rw[ltAt'_eq];refine Ik (Ml ?_)
 exact Ik (au hi (Ik (au hj (C.ask _ _ (hP.gt hi) (hP.gt hj) _ _ rfl h))))
theorem xR(C:Cmp prog w A E s κ P L)(hP:AlP P arr){lo n:Nat}(hn:1<=n)(hz:lo+n<arr.size)(h:gV L arr lo (lo+n))(e:L (gk arr (lo+n)) (gk arr (lo+n-1))=false):gV L arr lo (lo+(n+1)):=λi j h1 h2 h3=>by
 by_cases h4:j<lo+n
 ·exact h i j h1 h2 h4
 ·have:j=lo+n:=by omega
  subst this
  by_cases h5:i=lo+n
  ·subst h5;exact C.rf _
  ·exact C.tr _ _ _ (hP.gt (by omega)) (hP.gt (by omega)) (hP.gt hz) (h i (lo+n-1) h1 (by omega) (by omega)) e
theorem AV(C:Cmp prog w A E s κ P L)(lo:Nat):gV L arr lo (lo+1):=λi j h1 h2 h3=>by
 have:i=j:=by omega
 subst this;exact C.rf _
theorem ki {i j:Nat}(hj:j<=arr.size)(k:Nat):gk (QF arr i j ((j-i) / 2)) k=if i<=k/\k<j then gk arr (i+j-1-k) else gk arr k:=by
 have:=Pv (i:=i) hj k
 unfold gk;rw[JL,this];split
 ·rw[JL]
 ·rw[JL]
theorem tN {lo hi i j:Nat}(h1:lo<=i)(h2:j<=hi)(hj:j<=arr.size):ChgK lo hi arr (QF arr i j ((j-i) / 2)):=⟨mirror_perm _ _ _ _,λk hk=>by rw[ki hj,if_neg (by omega)]⟩
theorem xD(C:Cmp prog w A E s κ P L)(hP:AlP P arr)(hD:DsL L arr){lo nrem:Nat}(hz:lo+nrem<=arr.size)(h1:1<=nrem){Q:Option Nat->JI->Prop}
 (h: ∀n arr',1<=n->n<=nrem->ChgK lo (lo+nrem) arr arr'->gV L arr' lo (lo+n)->Q (some n) (SS κ arr' pend g)):wpS (model prog w) A E s (countRun' lo nrem) Q (SS κ arr pend g):=by
 rw[countRun'_eq];have asc: ∀(ar:Array IG) (n0:Nat),AlP P ar->lo+nrem<=ar.size->1<=n0->n0<=nrem->gV L ar lo (lo+n0)-> ∀(f:Nat->Option (Option Nat)×Nat->StateT JI Sem (ForInStep (Option (Option Nat)×Nat))),
  (∀x n (R:ForInStep (Option (Option Nat)×Nat)->JI->Prop),1<=n->n<nrem->(L (gk ar (lo+n)) (gk ar (lo+n-1))=true->R (.done (none,n)) (SS κ ar pend g))->(L (gk ar (lo+n)) (gk ar (lo+n-1))=false->R (.yield (none,n+1)) (SS κ ar pend g))->wpS (model prog w) A E s (f x (none,n)) R (SS κ ar pend g))->
  ∀(R':Option (Option Nat)×Nat->JI->Prop),(∀n,n0<=n->n<=nrem->gV L ar lo (lo+n)->(n<nrem->L (gk ar (lo+n)) (gk ar (lo+n-1))=true)->R' (none,n) (SS κ ar pend g))->wpS (model prog w) A E s (forIn [n0:nrem] ((none,n0):Option (Option Nat)×Nat) f) R' (SS κ ar pend g):=λar n0 pA zA a1 a2 sA f hf R' hR=>by
  refine KY (JQ (I:=λx c st'=>c=(none,x)/\st'=SS κ ar pend g/\x<=nrem/\gV L ar lo (lo+x))
   (Q:=λc st'=>st'=SS κ ar pend g/\ ∃n,c=(none,n)/\n0<=n/\n<=nrem/\gV L ar lo (lo+n)/\(n<nrem->L (gk ar (lo+n)) (gk ar (lo+n-1))=true)) ?_ ?_ ⟨rfl,rfl,a2,sA⟩) ?_
  ·rintro x c st' hx0 hx ⟨rfl,rfl,b1,b2⟩
   refine hf x x _ (by omega) hx (λe=>⟨rfl,x,rfl,hx0,b1,b2,λ_=>e⟩) λe=>⟨rfl,rfl,by omega,xR C pA (by omega) (by omega) b2 e⟩
  ·rintro c st' ⟨rfl,rfl,b1,b2⟩
   rw[show max n0 nrem=nrem by omega] at*
   exact⟨rfl,_,rfl,a2,Ie _,b2,λz=>absurd z (Ku _)⟩
  ·rintro c st' ⟨rfl,n,rfl,b1,b2,b3,b4⟩
   exact hR n b1 b2 b3 b4
 refine Ik (asc arr 1 hP hz (by omega) h1 (AV C lo) _ (λx n R n1 n2 r1 r2=>?_) _ λn n1 n2 sn nx=>?_)
 ·dsimp only
  refine Ik (eO C hP (by omega) (by omega) ?_)
  cases e:L (gk arr (lo+n)) (gk arr (lo+n-1)) with
  |true=>exact Ij (r1 e)
  |false=>exact Ij (r2 e)
 dsimp only
 by_cases e1:n=nrem
 ·rw[if_pos (by simpa using e1)]
  exact Ij (h n arr n1 n2 (.refl _ _ _) sn)
 rw[if_neg (aG e1)]
 by_cases e2:n>1
 ·rw[if_pos e2]
  refine Ik (eO C hP (by omega) (by omega) ?_)
  have rise:L (gk arr lo) (gk arr (lo+n-1))=true:=by
   rcases hD.gt (i:=lo) (j:=lo+n-1) (by omega) (by omega) (by omega) with q|q
   ·exact q
   ·rw[sn lo (lo+n-1) (Ie _) (by omega) (by omega)] at q;cases q
  rw[rise];exact Ij (h n arr n1 n2 (.refl _ _ _) sn)
 rw[if_neg e2];have hn:n=1:=by omega
 subst hn;refine Ik (Oh (KH ⟨rfl,?_⟩))
 refine Ik (KY (JQ (I:=λx c st'=>c=(none,x,0)/\st'=SS κ arr pend g/\2<=x/\x<=nrem/\ ∀i j,lo<=i->i<=j->j<lo+x->L (gk arr i) (gk arr j)=false)
  (Q:=λc st'=>st'=SS κ arr pend g/\ ∃n,c=(none,n,0)/\2<=n/\n<=nrem/\ ∀i j,lo<=i->i<=j->j<lo+n->L (gk arr i) (gk arr j)=false) ?_ ?_ ⟨rfl,rfl,by omega,by omega,λi j i1 i2 i3=>?_⟩) ?_)
 ·rintro x c st' hx0 hx ⟨rfl,rfl,b1,b2,b3⟩
  dsimp only;refine Ik (eO C hP (by omega) (by omega) ?_)
  dsimp only;cases e:L (gk arr (lo+x)) (gk arr (lo+x-1)) with
  |true=>
   rw[if_pos rfl,if_neg (by omega)]
   refine Ij ⟨rfl,rfl,by omega,by omega,λi j i1 i2 i3=>?_⟩
   by_cases h4:j<lo+x
   ·exact b3 i j i1 i2 h4
   ·have:j=lo+x:=by omega
    subst this
    by_cases h5:i=lo+x
    ·subst h5;exact C.rf _
    ·exact C.tr _ _ _ (hP.gt (by omega)) (hP.gt (by omega)) (hP.gt (by omega)) (C.as _ _ e) (b3 i (lo+x-1) i1 (by omega) (by omega))
  |false=>
   rw[if_neg (by decide)]
   refine Ik (eO C hP (by omega) (by omega) ?_)
   have lar:L (gk arr (lo+x-1)) (gk arr (lo+x))=true:=by
    rcases hD.gt (i:=lo+x-1) (j:=lo+x) (by omega) (by omega) (by omega) with q|q
    ·exact q
    ·rw[e] at q;cases q
   rw[lar];exact Ij ⟨rfl,x,rfl,b1,b2,b3⟩
 ·rintro c st' ⟨rfl,rfl,b1,b2,b3⟩
  exact⟨rfl,_,rfl,b1,b2,b3⟩
 ·by_cases h5:i=j
  ·subst h5;exact C.rf _
  ·have:i=lo:=by omega
   have hj:j=lo+1:=by omega
   subst this;subst hj;exact C.as _ _ (nx (by omega))
 ·rintro c st' ⟨rfl,n,rfl,b1,b2,b3⟩
  dsimp only;rw[if_neg (by omega)]
  refine Ik (wpS_reverse ?_)
  have hz2:lo+n<=arr.size:=by omega
  have cm:ChgK lo (lo+nrem) arr (QF arr lo (lo+n) ((lo+n-lo) / 2)):=tN (Ie _) (by omega) hz2
  have sm:gV L (QF arr lo (lo+n) ((lo+n-lo) / 2)) lo (lo+n):=λi j i1 i2 i3=>by
   have g1:=ki (i:=lo) hz2 i
   have g2:=ki (i:=lo) hz2 j
   rw[if_pos ⟨i1,by omega⟩] at g1
   rw[if_pos ⟨by omega,i3⟩] at g2
   show L (gk _ j) (gk _ i)=false;rw[g1,g2];exact b3 _ _ (by omega) (by omega) (by omega)
  show wpS (model prog w) A E s _ Q (SS κ (QF arr lo (lo+n) ((lo+n-lo) / 2)) pend g);refine Ik (asc _ n (hP.perm cm.perm) (by rw[cm.size];omega) (by omega) b2 sm _ (λx n R n1 n2 r1 r2=>?_) _ λn' n1 n2 sn' nx'=>Ij (h n' _ (by omega) n2 cm sn'))
  dsimp only;refine Ik (eO C (hP.perm cm.perm) (by rw[cm.size];omega) (by rw[cm.size];omega) ?_)
  cases e:L (gk (QF arr lo (lo+_) ((lo+_-lo) / 2)) (lo+n)) (gk (QF arr lo (lo+_) ((lo+_-lo) / 2)) (lo+n-1)) with
  |true=>exact Ij (r1 e)
  |false=>exact Ij (r2 e)
end
section
variable {prog:IP}{w:Jo}{A:Jc}{E:Ia->Ic->Prop}{s:Ic}{κ:L0}{P:IG->Prop}{L:IG->IG->Bool}{arr arr':Array IG}{pend:Array (Nat×Nat×Nat)}{g:Nat}
theorem xH {src d:Nat}(hs:src<arr.size)(hd:d<=src)(k:Nat):gk (Tb arr src d) k=if k=src-d then gk arr src else if src-d<k/\k<=src then gk arr (k-1) else gk arr k:=by
 have:=Q2 hs d hd k
 simp only[gk,JL,this]
 by_cases h1:k=src-d
 ·rw[if_pos h1,if_pos h1]
 ·rw[if_neg h1,if_neg h1]
  by_cases h2:src-d<k/\k<=src
  ·rw[if_pos h2,if_pos h2]
  ·rw[if_neg h2,if_neg h2]
theorem Cb(C:Cmp prog w A E s κ P L)(hP:AlP P arr){lo n ok:Nat}(hz:lo+n<=arr.size)(h1:1<=ok)(h2:ok<=n)(hS:gV L arr lo (lo+ok)){Q:Bool->JI->Prop}
 (h: ∀arr',ChgK lo (lo+n) arr arr'->gV L arr' lo (lo+n)->Q true (SS κ arr' pend g)):wpS (model prog w) A E s (binarySort' lo n ok) Q (SS κ arr pend g):=by
 rw[binarySort'_eq];refine Ik (KY (JQ (I:=λk c st'=> ∃ar,c=(none,())/\st'=SS κ ar pend g/\ChgK lo (lo+n) arr ar/\k<=n/\1<=k/\gV L ar lo (lo+k))
  (Q:=λc st'=> ∃ar,c=(none,())/\st'=SS κ ar pend g/\ChgK lo (lo+n) arr ar/\gV L ar lo (lo+n)) ?step ?fin ⟨arr,rfl,rfl,.refl _ _ _,by omega,by omega,by rw[show max ok 1=ok by omega];exact hS⟩) ?post)
 case post=>
  rintro c st' ⟨ar,rfl,rfl,ch,sg⟩
  exact Ij (h ar ch sg)
 case fin=>
  rintro c st' ⟨ar,rfl,rfl,ch,k1,k2,sg⟩
  rw[show max (max ok 1) n=n by omega] at sg
  exact⟨ar,rfl,rfl,ch,sg⟩
 case step=>
  rintro k c st' _ hk ⟨ar,rfl,rfl,ch,k1,k2,sg⟩
  have pA:=hP.perm ch.perm
  have za:=ch.size
  have mono: ∀i j,i<=j->j<k->L (gk ar (lo+k)) (gk ar (lo+j))=false->L (gk ar (lo+k)) (gk ar (lo+i))=false:=λi j hij hj e=>
   C.tr _ _ _ (pA.gt (by omega)) (pA.gt (by omega)) (pA.gt (by omega)) (sg (lo+i) (lo+j) (by omega) (by omega) (by omega)) e
  refine Ik (KY (JQ (I:=λx c st'=>st'=SS κ ar pend g/\ ∃l r,c=(none,l,r)/\l<=r/\r<=k/\r-l<=k-x/\(∀i,i<l->L (gk ar (lo+k)) (gk ar (lo+i))=false)/\(∀i,r<=i->i<k->L (gk ar (lo+k)) (gk ar (lo+i))=true))
   (Q:=λc st'=>st'=SS κ ar pend g/\ ∃l,c=(none,l,l)/\l<=k/\(∀i,i<l->L (gk ar (lo+k)) (gk ar (lo+i))=false)/\(∀i,l<=i->i<k->L (gk ar (lo+k)) (gk ar (lo+i))=true)) ?_ ?_ ⟨rfl,0,k,rfl,by omega,by omega,by omega,λi hi=>absurd hi (OL _),λi h1 h2=>absurd h2 (by omega)⟩) ?_)
  ·rintro x c st' _ hx ⟨rfl,l,r,rfl,a1,a2,a3,a4,a5⟩
   dsimp only
   by_cases hc:l≥r
   ·rw[if_pos hc]
    have:l=r:=by omega
    subst this;exact Ij ⟨rfl,l,rfl,a2,a4,a5⟩
   ·rw[if_neg hc]
    refine Ik (eO C pA (by omega) (by omega) ?_)
    dsimp only;cases e:L (gk ar (lo+k)) (gk ar (lo+(l+r) / 2)) with
    |true=>
     rw[if_pos rfl];refine Ij ⟨rfl,_,_,rfl,by omega,by omega,by omega,a4,λi i1 i2=>?_⟩
     cases q:L (gk ar (lo+k)) (gk ar (lo+i)) with
     |true=>rfl
     |false=>have:=mono _ i i1 i2 q;rw[e] at this;cases this
    |false=>
     rw[if_neg (by decide)]
     exact Ij ⟨rfl,_,_,rfl,by omega,by omega,by omega,λi hi=>mono i _ (show i<=(l+r) / 2 by omega) (by omega) e,a5⟩
  ·rintro c st' ⟨rfl,l,r,rfl,a1,a2,a3,a4,a5⟩
   have:l=r:=by omega
   subst this;exact⟨rfl,l,rfl,a2,a4,a5⟩
  ·rintro c st' ⟨rfl,l,rfl,a1,a2,a3⟩
   dsimp only;rw[moveDown'_eq];have hb: ∀q,gk (Tb ar (lo+k) (lo+k- (lo+l))) q=if q=lo+l then gk ar (lo+k) else if lo+l<q/\q<=lo+k then gk ar (q-1) else gk ar q:=λq=>by
    have:=xH (arr:=ar) (src:=lo+k) (d:=lo+k- (lo+l)) (by omega) (by omega) q
    rw[show lo+k- (lo+k- (lo+l))=lo+l by omega] at this
    exact this
   refine Ik (Kz (Ij ⟨Tb ar (lo+k) (lo+k- (lo+l)),rfl,rfl,ch.trans ⟨bubble_perm _ _ _,λi hi=>?_⟩,by omega,by omega,λi j i1 i2 i3=>?_⟩))
   ·rw[hb,if_neg (by omega),if_neg (by omega)]
   ·show L (gk _ j) (gk _ i)=false
    rw[hb,hb];have low: ∀q,lo<=q->q<lo+l->leq L (gk ar q) (gk ar (lo+k)):=λq q1 q2=>by
     have:=a2 (q-lo) (by omega)
     rw[show lo+(q-lo)=q by omega] at this
     exact this
    have high: ∀q,lo+l<=q->q<lo+k->leq L (gk ar (lo+k)) (gk ar q):=λq q1 q2=>by
     have:=a3 (q-lo) (by omega) (by omega)
     rw[show lo+(q-lo)=q by omega] at this
     exact C.as _ _ this
    have mid: ∀p q,lo<=p->p<=q->q<lo+k->leq L (gk ar p) (gk ar q):=λp q q1 q2 q3=>sg p q q1 q2 q3
    by_cases c1:j=lo+l
    ·rw[if_pos c1]
     by_cases c2:i=lo+l
     ·rw[if_pos c2];exact C.rf _
     ·rw[if_neg c2,if_neg (by omega)];exact low i i1 (by omega)
    ·rw[if_neg c1]
     by_cases c3:lo+l<j/\j<=lo+k
     ·rw[if_pos c3]
      by_cases c2:i=lo+l
      ·rw[if_pos c2];exact high (j-1) (by omega) (by omega)
      ·rw[if_neg c2]
       by_cases c4:lo+l<i/\i<=lo+k
       ·rw[if_pos c4];exact mid _ _ (by omega) (by omega) (by omega)
       ·rw[if_neg c4];exact mid _ _ (by omega) (by omega) (by omega)
     ·rw[if_neg c3,if_neg (by omega),if_neg (by omega)]
      exact mid _ _ i1 i2 (by omega)
theorem ss(i:Nat):U6 i=(do
 let s <-get
 let(some (sa,na,power),some (sb,nb,_)):=((K5 s)[i]?,(K5 s)[i+1]?)|NM "internal:list.sort.pending"
 set (setPending s (((K5 s).setIfInBounds i (sa,na+nb,power)).eraseIdxIfInBounds (i+1)))
 let some k <-cH false (<-Mh (NL s) sb) (NL s) sa na 0 |return false
 let(sa,na):=(sa+k,na-k)
 if na==0 then return true
 let some nb <-cH true (<-Mh (NL s) (sa+na-1)) (NL s) sb nb (nb-1)|return false
 if nb==0 then return true
 let x:=(NL s).extract sa sb
 let y:=(NL s).extract sb (sb+nb)
 let merged <-if na<=nb then mt x y else mv x y
 modify λs=>setArr s (merged.toList.zipIdx.foldl (λa (p,j)=>a.setIfInBounds (sa+j) p) (NL s))
 return(Qf (<-get)).isNone):=rfl
end
theorem v7(off:Nat): ∀(l:List IG) (j:Nat) (ar:Array IG),off+j+l.length<=ar.size->((l.zipIdx j).foldl (λ(a:Array IG) (x:IG×Nat)=>a.setIfInBounds (off+x.2) x.1) ar).toList=ar.toList.take (off+j)++l++ar.toList.drop (off+j+l.length)
 | [],j,ar,h=>by simp
 |p::l,j,ar,h=>by
  rw[IK] at h;rw[List.zipIdx_cons,JW,v7 off l (j+1) _ (by rw[Lr];omega)]
  rw[NA];have hl:off+j<ar.toList.length:=by rw[IW];omega
  rw[IK,show off+(j+1)=off+j+1 by omega,List.take_succ_eq_append_getElem (by rw[Mj];exact hl),List.take_set_of_le (Ie _),List.getElem_set_self,List.drop_set_of_lt (by omega),show off+j+1+l.length=off+j+(l.length+1) by omega]
  simp
section
variable {prog:IP}{w:Jo}{A:Jc}{E:Ia->Ic->Prop}{s:Ic}{κ:L0}{P:IG->Prop}{L:IG->IG->Bool}{arr arr':Array IG}{pend:Array (Nat×Nat×Nat)}{g:Nat}
theorem ls(ar:Array IG)(i:Nat):gk ar i=ar.toList.getD i bj:=by
 unfold gk;rw[JL,IZ,KD]
theorem Bs {st st':JI}{Q:PUnit->JI->Prop}(h:Q ⟨⟩ st'):wpS (model prog w) A E s (set st':StateT JI Sem PUnit) Q st:=by
 unfold wpS;rw[StateT.run_set];exact Ih ⟨rfl,h⟩
theorem ip {a e i:Nat}(he:e<=arr.size)(hi:a+i<e):gk (arr.extract a e) i=gk arr (a+i):=by
 rw[ls,ls,cG,IZ,IZ,Ln (by omega),NB]
theorem m9 {a e:Nat}(he:e<=arr.size):(arr.extract a e).size=e-a:=by rw[Array.size_extract];omega
theorem pw_ext {a e:Nat}(he:e<=arr.size)(h:gV L arr a e):(arr.extract a e).toList.Pairwise (leq L):=by
 rw[JV];intro i j hi hj hij;have z:=m9 (a:=a) he
 rw[IW,z] at hi hj;have e1:(arr.extract a e).toList[i]'(by rw[IW,z];exact hi)=gk arr (a+i):=by
  rw[<-ip he (by omega)];simp[gk,KU,z,hi]
 have e2:(arr.extract a e).toList[j]'(by rw[IW,z];exact hj)=gk arr (a+j):=by
  rw[<-ip he (by omega)];simp[gk,KU,z,hj]
 rw[e1,e2];exact h (a+i) (a+j) (by omega) (by omega) (by omega)
theorem wa {a e:Nat}{y:IG}(he:e<=arr.size)(h:y∈(arr.extract a e).toList): ∃t,a<=t/\t<e/\y=gk arr t:=by
 rw[cG] at h;obtain⟨j,h1,h2,h3⟩:=iM h
 exact⟨a+j,by omega,by omega,h3⟩
theorem wK(C:Cmp prog w A E s κ P L)(hP:AlP P arr){sa sb sc O Z:Nat}{r:Array IG}(h1:sa<=O)(h2:O<sb)(h3:sb<Z)(h4:Z<=sc)(hz:sc<=arr.size)(S1:gV L arr sa sb)(S2:gV L arr sb sc)
 (f1: ∀p,sa<=p->p<O->leq L (gk arr p) (gk arr sb)) (f2: ∀q,Z<=q->q<sc->leq L (gk arr (sb-1)) (gk arr q)) (G:MG L (arr.extract O sb).toList (arr.extract sb Z).toList r.toList):
 ChgK sa sc arr (r.toList.zipIdx.foldl (λa (p,j)=>a.setIfInBounds (O+j) p) arr)/\gV L (r.toList.zipIdx.foldl (λa (p,j)=>a.setIfInBounds (O+j) p) arr) sa sc:=by
 have lr:r.toList.length=Z-O:=by
  have:=G.pm.length_eq
  rw[Jf,IW,IW,IW,m9 (by omega),m9 (by omega)] at this
  rw[IW];omega
 have e:=v7 O r.toList 0 arr (by rw[lr];omega)
 rw[Lh,lr,show O+(Z-O)=Z by omega] at e
 generalize hB:(r.toList.zipIdx.foldl (λa (p,j)=>a.setIfInBounds (O+j) p) arr)=B
 have eB:B.toList=arr.toList.take O++r.toList++arr.toList.drop Z:=by rw[<-hB];exact e
 have lO:(arr.toList.take O).length=O:=by rw[L7,IW];omega
 have gB: ∀q,gk B q=if q<O then gk arr q else if q<Z then r.toList.getD (q-O) bj else gk arr q:=λq=>by
  rw[ls,eB,ls,IZ,IZ,IZ,IS,Pf,lO]
  by_cases c1:q<O
  ·rw[if_pos c1,if_pos c1,Ln c1]
  ·rw[if_neg c1,if_neg c1,Pf,lr]
   by_cases c2:q<Z
   ·rw[if_pos (by omega),if_pos c2]
   ·rw[if_neg (by omega),if_neg c2,NB,show Z+(q-O- (Z-O))=q by omega]
 have pm:B.toList.Perm arr.toList:=by
  rw[eB];have ea:arr.toList=arr.toList.take O++((arr.extract O sb).toList++(arr.extract sb Z).toList)++arr.toList.drop Z:=by
   rw[cG,cG];have a1:=JO O arr.toList
   have a2:arr.toList.drop O=(arr.toList.drop O).take (sb-O)++arr.toList.drop sb:=by
    have:=gq arr.toList O (sb-O)
    rw[show O+(sb-O)=sb by omega] at this
    exact this.symm
   have a3:arr.toList.drop sb=(arr.toList.drop sb).take (Z-sb)++arr.toList.drop Z:=by
    have:=gq arr.toList sb (Z-sb)
    rw[show sb+(Z-sb)=Z by omega] at this
    exact this.symm
   rw[IS,IS,<-a3,<-a2,a1]
  refine Q8 ?_ (OO ea.symm)
  exact JK _ (JZ _ G.pm)
 have inr: ∀t,t<Z-O-> ∃u,r.toList.getD t bj=gk arr u/\O<=u/\u<Z:=λt ht=>by
  have hm:r.toList.getD t bj∈r.toList:=by
   rw[IZ,Ig (by rw[lr];exact ht)]
   exact MW _
  rcases IM.mp (G.pm.mem_iff.mp hm) with q|q
  ·obtain⟨u,u1,u2,u3⟩:=wa (by omega) q
   exact⟨u,u3,u1,by omega⟩
  ·obtain⟨u,u1,u2,u3⟩:=wa (by omega) q
   exact⟨u,u3,by omega,u2⟩
 have ni: ∀p t,sa<=p->p<O->O<=t->t<sc->leq L (gk arr p) (gk arr t):=λp t p1 p2 t1 t2=>by
  by_cases c:t<sb
  ·exact S1 p t p1 (by omega) c
  ·exact C.tr _ _ _ (hP.gt (by omega)) (hP.gt (by omega)) (hP.gt (by omega)) (f1 p p1 p2) (S2 sb t (Ie _) (by omega) t2)
 have bot: ∀t q,O<=t->t<Z->Z<=q->q<sc->leq L (gk arr t) (gk arr q):=λt q t1 t2 q1 q2=>by
  by_cases c:t<sb
  ·exact C.tr _ _ _ (hP.gt (by omega)) (hP.gt (by omega)) (hP.gt (by omega)) (S1 t (sb-1) (by omega) (by omega) (by omega)) (f2 q q1 q2)
  ·exact S2 t q (by omega) (by omega) q2
 refine⟨⟨Nu.mpr pm,λi hi=>?_⟩,λp q p1 p2 p3=>?_⟩
 ·rw[gB]
  by_cases c1:i<O
  ·rw[if_pos c1]
  ·rw[if_neg c1,if_neg (by omega)]
 ·show L (gk B q) (gk B p)=false
  rw[gB,gB]
  by_cases c1:q<O
  ·rw[if_pos c1,if_pos (by omega)]
   exact S1 p q p1 p2 (by omega)
  ·rw[if_neg c1]
   by_cases c2:q<Z
   ·rw[if_pos c2]
    by_cases c3:p<O
    ·rw[if_pos c3]
     obtain⟨u,u1,u2,u3⟩:=inr (q-O) (by omega)
     rw[u1];exact ni p u p1 c3 u2 (by omega)
    ·rw[if_neg c3,if_pos (by omega)]
     by_cases c4:p=q
     ·subst c4;exact C.rf _
     ·have:=JV.mp G.so (p-O) (q-O) (by rw[lr];omega) (by rw[lr];omega) (by omega)
      rw[IZ,IZ,Ig (by rw[lr];omega),Ig (by rw[lr];omega)]
      exact this
   ·rw[if_neg c2]
    by_cases c3:p<O
    ·rw[if_pos c3]
     exact ni p q p1 c3 (by omega) p3
    ·rw[if_neg c3]
     by_cases c4:p<Z
     ·rw[if_pos c4]
      obtain⟨u,u1,u2,u3⟩:=inr (p-O) (by omega)
      rw[u1];exact bot u q u2 u3 (by omega) p3
     ·rw[if_neg c4]
      exact S2 p q (by omega) p2 p3
theorem rh(C:Cmp prog w A E s κ P L)(hP:AlP P arr){i sa na pw sb nb pw2:Nat}{Q:Bool->JI->Prop}(p0:pend[i]? =some (sa,na,pw))(p1:pend[i+1]? =some (sb,nb,pw2))(hsb:sa+na=sb)(hz:sb+nb<=arr.size)(hna:1<=na)(hnb:1<=nb)
 (S1:gV L arr sa sb) (S2:gV L arr sb (sb+nb))
 (h: ∀arr' g',ChgK sa (sb+nb) arr arr'->gV L arr' sa (sb+nb)->Q true (SS κ arr' ((pend.setIfInBounds i (sa,na+nb,pw)).eraseIdxIfInBounds (i+1)) g')):wpS (model prog w) A E s (U6 i) Q (SS κ arr pend g):=by
 rw[ss];refine Ik (Ml ?_)
 show wpS _ _ _ _ (match (pend[i]?,pend[i+1]?) with|(some (sa,na,power),some (sb,nb,_))=>_|_=>_) Q _
 rw[p0,p1];dsimp only;refine Ik (Bs ?_)
 refine Ik (au (show sb<arr.size by omega) ?_)
 refine Ik (dH C rfl (hP.gt (by omega)) (show sa+na<=arr.size by omega) (by omega) (λj hj=>hP.gt (by omega)) (by rw[hsb];exact S1) λk c=>?_)
 dsimp only;have c1: ∀t,t<k->L (gk arr sb) (gk arr (sa+t))=false:=λt ht=>by
  have:=c.lo t ht
  unfold fE at this;rw[if_neg (by decide),LS] at this
  exact this
 have c2: ∀t,k<=t->t<na->L (gk arr sb) (gk arr (sa+t))=true:=λt h1 h2=>by
  have:=c.hi t h1 h2
  unfold fE at this;rw[if_neg (by decide),Nz] at this
  exact this
 have hk:=c.leq
 by_cases e1:na-k=0
 ·rw[if_pos (by simpa using e1)]
  refine Ij (h arr g (.refl _ _ _) λp q a1 a2 a3=>?_)
  by_cases b1:q<sb
  ·exact S1 p q a1 a2 b1
  ·by_cases b2:p<sb
   ·have:=c1 (p-sa) (by omega)
    rw[show sa+(p-sa)=p by omega] at this
    exact C.tr _ _ _ (hP.gt (by omega)) (hP.gt (by omega)) (hP.gt (by omega)) this (S2 sb q (Ie _) (by omega) a3)
   ·exact S2 p q (by omega) a2 a3
 rw[if_neg (aG e1)];refine Ik (au (show sa+k+(na-k) -1<arr.size by omega) ?_)
 rw[show sa+k+(na-k) -1=sb-1 by omega]
 refine Ik (dH C rfl (hP.gt (show sb-1<arr.size by omega)) (show sb+nb<=arr.size by omega) (by omega) (λj hj=>hP.gt (by omega)) S2 λm d=>?_)
 dsimp only;have d1: ∀t,t<m->L (gk arr (sb+t)) (gk arr (sb-1))=true:=λt ht=>by
  have:=d.lo t ht
  unfold fE at this;rw[if_pos rfl] at this;exact this
 have d2: ∀t,m<=t->t<nb->L (gk arr (sb+t)) (gk arr (sb-1))=false:=λt h1 h2=>by
  have:=d.hi t h1 h2
  unfold fE at this;rw[if_pos rfl] at this;exact this
 have hm:=d.leq
 have m0:1<=m:=by
  apply Lw
  intro h9;have a:=d2 0 (by omega) (by omega)
  have b:=c2 (na-1) (by omega) (by omega)
  rw[show sa+(na-1)=sb-1 by omega] at b
  rw[Lh,b] at a;cases a
 rw[if_neg (aG (show¬m=0 by omega))]
 have T:TwoR P L (arr.extract (sa+k) sb) (arr.extract sb (sb+m)):=by
  have zx:=m9 (arr:=arr) (a:=sa+k) (e:=sb) (by omega)
  have zy:=m9 (arr:=arr) (a:=sb) (e:=sb+m) (by omega)
  refine⟨pw_ext (by omega) λp q a1 a2 a3=>S1 p q (by omega) a2 a3,pw_ext (by omega) λp q a1 a2 a3=>S2 p q a1 a2 (by omega),λt ht=>?_,λt ht=>?_,by omega,by omega,λt ht=>?_,λt ht=>?_⟩
  ·rw[zx] at ht
   have:=ip (arr:=arr) (a:=sa+k) (e:=sb) (i:=t) (by omega) (by omega)
   show P (gk _ t);rw[this];exact hP.gt (by omega)
  ·rw[zy] at ht
   have:=ip (arr:=arr) (a:=sb) (e:=sb+m) (i:=t) (by omega) (by omega)
   show P (gk _ t);rw[this];exact hP.gt (by omega)
  ·rw[zx] at ht
   have e3:=ip (arr:=arr) (a:=sa+k) (e:=sb) (i:=t) (by omega) (by omega)
   have e4:=ip (arr:=arr) (a:=sb) (e:=sb+m) (i:=0) (by omega) (by omega)
   show L (gk _ 0) (gk _ t)=true;rw[e3,e4,Lh,Sj];exact c2 (k+t) (by omega) (by omega)
  ·rw[zy] at ht
   have e3:=ip (arr:=arr) (a:=sa+k) (e:=sb) (i:=(arr.extract (sa+k) sb).size-1) (by omega) (by omega)
   have e4:=ip (arr:=arr) (a:=sb) (e:=sb+m) (i:=t) (by omega) (by omega)
   show L (gk _ t) (gk _ ((arr.extract (sa+k) sb).size-1))=true;rw[e3,e4,show sa+k+((arr.extract (sa+k) sb).size-1)=sb-1 by omega]
   exact d1 t (by omega)
 have fin: ∀(r:Array IG) (g':Nat),MG L (arr.extract (sa+k) sb).toList (arr.extract sb (sb+m)).toList r.toList->Q true (SS κ (r.toList.zipIdx.foldl (λa (p,j)=>a.setIfInBounds (sa+k+j) p) arr) ((pend.setIfInBounds i (sa,na+nb,pw)).eraseIdxIfInBounds (i+1)) g'):=λr g' G=>by
  have⟨x1,x2⟩:=wK C hP (sa:=sa) (sb:=sb) (sc:=sb+nb) (O:=sa+k) (Z:=sb+m) (by omega) (by omega) (by omega) (by omega) hz S1 S2 (λp a1 a2=>by
   have:=c1 (p-sa) (by omega)
   rw[show sa+(p-sa)=p by omega] at this
   exact this) (λq a1 a2=>by
   have:=d2 (q-sb) (by omega) (by omega)
   rw[show sb+(q-sb)=q by omega] at this
   exact this) G
  exact h _ g' x1 x2
 by_cases e5:na-k<=m
 ·rw[if_pos e5]
  refine Ik (rj C T rfl λr g' G=>?_)
  refine Ik (Kz ?_)
  refine Ik (Ml ?_)
  exact Ij (fin r g' G)
 ·rw[if_neg e5]
  refine Ik (rY C T rfl λr g' G=>?_)
  refine Ik (Kz ?_)
  refine Ik (Ml ?_)
  exact Ij (fin r g' G)
end
def Rn(L:IG->IG->Bool)(arr:Array IG):Nat->List (Nat×Nat×Nat)->Nat->Prop
 |a,[],b=>a=b
 |a,p::t,b=>p.1=a/\1<=p.2.1/\gV L arr a (a+p.2.1)/\Rn L arr (a+p.2.1) t b
section
variable {prog:IP}{w:Jo}{A:Jc}{E:Ia->Ic->Prop}{s:Ic}{κ:L0}{P:IG->Prop}{L:IG->IG->Bool}{arr arr':Array IG}{pend:Array (Nat×Nat×Nat)}{g:Nat}
theorem Rn.leq: ∀ {t:List (Nat×Nat×Nat)} {a b:Nat},Rn L arr a t b->a+t.length<=b
 | [],a,b,h=>by have:a=b:=h;simp;omega
 |p::t,a,b,h=>by
  have:=Rn.leq h.2.2.2
  have:=h.2.1
  rw[IK];omega
theorem Rn.app: ∀ {t u:List (Nat×Nat×Nat)} {a b:Nat},Rn L arr a (t++u) b-> ∃m,Rn L arr a t m/\Rn L arr m u b
 | [],u,a,b,h=>⟨a,rfl,h⟩
 |p::t,u,a,b,h=>by
  obtain⟨m,h1,h2⟩:=Rn.app (t:=t) (u:=u) h.2.2.2
  exact⟨m,⟨h.1,h.2.1,h.2.2.1,h1⟩,h2⟩
theorem Rn.cat: ∀ {t u:List (Nat×Nat×Nat)} {a m b:Nat},Rn L arr a t m->Rn L arr m u b->Rn L arr a (t++u) b
 | [],u,a,m,b,h,h2=>by have:a=m:=h;subst this;exact h2
 |p::t,u,a,m,b,h,h2=>⟨h.1,h.2.1,h.2.2.1,Rn.cat h.2.2.2 h2⟩
theorem lZ {lo hi:Nat}(h:gV L arr lo hi)(e: ∀i,lo<=i->i<hi->gk arr' i=gk arr i):gV L arr' lo hi:=λi j h1 h2 h3=>by
 show L (gk arr' j) (gk arr' i)=false;rw[e j (by omega) h3,e i h1 (by omega)]
 exact h i j h1 h2 h3
theorem Rn.same: ∀ {t:List (Nat×Nat×Nat)} {a b:Nat},Rn L arr a t b->(∀i,a<=i->i<b->gk arr' i=gk arr i)->Rn L arr' a t b
 | [],a,b,h,_=>h
 |p::t,a,b,h,e=>by
  have l:=Rn.leq h.2.2.2
  exact⟨h.1,h.2.1,lZ h.2.2.1 λi h1 h2=>e i h1 (by omega),Rn.same h.2.2.2 λi h1 h2=>e i (by omega) h2⟩
theorem xO: ∀(l:List (Nat×Nat×Nat)) (i:Nat),i+1<l.length-> ∃p x y q,l=p++x::y::q/\p.length=i
 | [],i,h=>by simp at h
 | [x],i,h=>by simp at h
 |x::y::q,0,_=>⟨[],x,y,q,rfl,rfl⟩
 |x::y::q,i+1,h=>by
  obtain⟨p,u,v,r,e,hl⟩:=xO (y::q) i (by simp at h⊢;omega)
  exact⟨x::p,u,v,r,by rw[e];rfl,by simp[hl]⟩
theorem gA(C:Cmp prog w A E s κ P L)(hP:AlP P arr){lo i:Nat}(R:Rn L arr 0 pend.toList lo)(hz:lo<=arr.size)(hi:i+1<pend.size){Q:Bool->JI->Prop}
 (h: ∀arr' pend' g',ChgK 0 lo arr arr'->Rn L arr' 0 pend'.toList lo->pend'.size+1=pend.size->Q true (SS κ arr' pend' g')):wpS (model prog w) A E s (U6 i) Q (SS κ arr pend g):=by
 obtain⟨p,⟨sa,na,pw⟩,⟨sb,nb,pw2⟩,q,e,hl⟩:=xO pend.toList i (by simpa using hi)
 rw[e] at R;obtain⟨m,R1,R2⟩:=Rn.app R
 obtain⟨e1,n1,S1,e2,n2,S2,R3⟩:=R2
 dsimp only at e1 n1 S1 e2 n2 S2 R3;subst e1;have l1:=R1.leq
 have l3:=R3.leq
 have g0:pend[i]? =some (sa,na,pw):=by rw[<-KD,e,<-hl];simp
 have g1:pend[i+1]? =some (sb,nb,pw2):=by rw[<-KD,e,<-hl];simp
 refine rh C hP g0 g1 e2.symm (by omega) n1 n2 (by rw[e2];exact S1) (by rw[e2];exact S2) λarr' g' c sg=>h arr' _ g' (c.mono (Jh _) (by omega)) ?_ ?_
 ·have el:((pend.setIfInBounds i (sa,na+nb,pw)).eraseIdxIfInBounds (i+1)).toList=p++(sa,na+nb,pw)::q:=by
   have z:i+1<(pend.setIfInBounds i (sa,na+nb,pw)).size:=by rw[Lr];exact hi
   rw[N0,dif_pos z,Array.toList_eraseIdx,NA,e,<-hl];rw[OZ _ _ (Ie _),OF,List.eraseIdx_append_of_length_le (by omega),show p.length+1-p.length=1 by omega]
   rfl
  rw[el];refine Rn.cat (R1.same λj h1 h2=>c.same j (.inl h2)) ⟨rfl,by show 1<=na+nb;omega,?_,?_⟩
  ·show gV L arr' sa (sa+(na+nb))
   rw[show sa+(na+nb)=sb+nb by omega];exact sg
  ·show Rn L arr' (sa+(na+nb)) q lo
   rw[show sa+(na+nb)=sa+na+nb by omega]
   exact R3.same λj h1 h2=>c.same j (.inr (by omega))
 ·have z:i+1<(pend.setIfInBounds i (sa,na+nb,pw)).size:=by rw[Lr];exact hi
  rw[N0,dif_pos z,Array.size_eraseIdx,Lr];omega
theorem yn {t:List (Nat×Nat×Nat)}{pw:Nat}{b:Nat}(h:Rn L arr 0 t b):Rn L arr 0 (t.modify (t.length-1) λx=>(x.1,x.2.1,pw)) b:=by
 have key: ∀(t:List (Nat×Nat×Nat)) (a k:Nat),Rn L arr a t b->Rn L arr a (t.modify k λx=>(x.1,x.2.1,pw)) b:=by
  intro t
  induction t with
  |nil=>intro a k h;cases k<;>exact h
  |cons p t ih=>
   intro a k h;cases k with
   |zero=>exact h
   |succ k=>exact⟨h.1,h.2.1,h.2.2.1,ih _ k h.2.2.2⟩
 exact key t 0 _ h
theorem Dc {c:Prop} [Decidable c]{a b n:Nat}(h1:a+1<n)(h2:b+1<n):(if c then a else b)+1<n:=by split<;>assumption
theorem tf(C:Cmp prog w A E s κ P L){a₀:Array IG}(hP:AlP P a₀)(hD:DsL L a₀)(h2:1<=a₀.size){g:Nat}{Q:Unit->JI->Prop}
 (h: ∀st',(NL st').Perm a₀->Qf st'=none->gV L (NL st') 0 a₀.size->Q () st'):wpS (model prog w) A E s sortRuns' Q (SS κ a₀ #[] g):=by
 rw[sortRuns'_eq];refine Ik (Ml ?_)
 generalize hsz:(NL (SS κ a₀ #[] g)).size=size
 obtain rfl:size=a₀.size:=hsz.symm
 clear hsz;dsimp only
 generalize minRun' a₀.size a₀.size 0=mr
 refine Ik (KY (JQ
  (I:=λx c st'=> ∃lo ar pe g,c=(none,lo)/\st'=SS κ ar pe g/\ar.Perm a₀/\Rn L ar 0 pe.toList lo/\x<=lo/\lo<=a₀.size)
  (Q:=λc st'=> ∃ar pe g,c=(none,a₀.size)/\st'=SS κ ar pe g/\ar.Perm a₀/\Rn L ar 0 pe.toList a₀.size) ?step ?fin ⟨0,a₀, #[],g,rfl,rfl,.refl _,rfl,Ie _,Jh _⟩) ?post)
 case fin=>
  rintro c st' ⟨lo,ar,pe,g,rfl,rfl,pm,R,hx,hl⟩
  have:lo=a₀.size:=by omega
  subst this;exact⟨ar,pe,g,rfl,rfl,pm,R⟩
 case post=>
  rintro c st' ⟨ar,pe,g,rfl,rfl,pm,R⟩
  dsimp only;refine Ik (KY (JQ
   (I:=λx c st'=> ∃ar pe g,c=(none,())/\st'=SS κ ar pe g/\ar.Perm a₀/\Rn L ar 0 pe.toList a₀.size/\pe.size+x<=a₀.size)
   (Q:=λc st'=> ∃ar pe g,c=(none,())/\st'=SS κ ar pe g/\ar.Perm a₀/\Rn L ar 0 pe.toList a₀.size/\pe.size<=1) ?step2 ?fin2 ⟨ar,pe,g,rfl,rfl,pm,R,by have:=R.leq;simp at this;omega⟩) ?post2)
  case fin2=>
   rintro c st' ⟨ar,pe,g,rfl,rfl,pm,R,hx⟩
   exact⟨ar,pe,g,rfl,rfl,pm,R,by omega⟩
  case post2=>
   rintro c st' ⟨ar,pe,g,rfl,rfl,pm,R,hx⟩
   refine Ij (h _ pm rfl ?_)
   show gV L ar 0 a₀.size;have hl:pe.toList.length<=1:=by simpa using hx
   match e:pe.toList,hl with
   | [],_=>rw[e] at R;have:0=a₀.size:=R;omega
   | [p],_=>
     rw[e] at R;obtain⟨r1,r2,r3,r4⟩:=R
     have:0+p.2.1=a₀.size:=r4
     rw[this] at r3;exact r3
  case step2=>
   rintro x c st' _ hx ⟨ar,pe,g,rfl,rfl,pm,R,hp⟩
   refine Ik (Ml ?_)
   by_cases e1:pe.size<=1
   ·rw[if_pos e1]
    exact Ij ⟨ar,pe,g,rfl,rfl,pm,R,e1⟩
   ·rw[if_neg e1]
    refine Ik (gA C (hP.perm pm) R (by rw[pm.size_eq];exact Ie _) (Dc (show pe.size-2-1+1<pe.size by omega) (show pe.size-2+1<pe.size by omega)) λar' pe' g' ch R' z=>?_)
    exact Ij ⟨ar',pe',g',rfl,rfl,ch.perm.trans pm,R',by omega⟩
 case step=>
  rintro x c st' _ hx ⟨lo,ar,pe,g,rfl,rfl,pm,R,hx2,hlo⟩
  dsimp only
  by_cases e1:lo≥a₀.size
  ·rw[if_pos e1]
   have:lo=a₀.size:=by omega
   subst this;exact Ij ⟨ar,pe,g,rfl,rfl,pm,R⟩
  rw[if_neg e1];have za:=pm.size_eq
  refine Ik (xD C (hP.perm pm) (hD.perm pm) (lo:=lo) (nrem:=a₀.size-lo) (by omega) (by omega) λn ar1 n1 n2 ch1 sg1=>?_)
  dsimp only;have pm1:=ch1.perm.trans pm
  have R1:Rn L ar1 0 pe.toList lo:=R.same λi h1 h2=>ch1.same i (.inl h2)
  by_cases e2:n<mr
  ·rw[if_pos e2]
   refine Ik (Oh (KH ⟨rfl,?_⟩))
   refine Ik (Cb C (hP.perm pm1) (lo:=lo) (n:=min (a₀.size-lo) mr) (ok:=n) (by rw[pm1.size_eq];omega) n1 (by omega) sg1 λar2 ch2 sg2=>?_)
   rw[if_neg (by decide)]
   have pm2:=ch2.perm.trans pm1
   have R2:Rn L ar2 0 pe.toList lo:=R1.same λi h1 h2=>ch2.same i (.inl h2)
   have hN:1<=min (a₀.size-lo) mr:=by omega
   refine Ik (Ml ?_)
   rw[show(K5 (SS κ ar2 pe g)).back?=pe.back? from rfl];cases pe.back? with
   |none=>
    dsimp only;refine Ik (Kz ?_)
    exact Ij ⟨lo+min (a₀.size-lo) mr,ar2,pe.push (lo,min (a₀.size-lo) mr,0),g,rfl,rfl,pm2,by rw[Ky];exact R2.cat ⟨rfl,hN,sg2,rfl⟩,by omega,by omega⟩
   |some bk=>
    obtain⟨s1,m1,b2⟩:=bk
    dsimp only;refine Ik (KY (JQ (I:=λ_ c st'=> ∃ar pe g,c=(none,())/\st'=SS κ ar pe g/\ar.Perm a₀/\Rn L ar 0 pe.toList lo/\gV L ar lo (lo+min (a₀.size-lo) mr))
     (Q:=λc st'=> ∃ar pe g,c=(none,())/\st'=SS κ ar pe g/\ar.Perm a₀/\Rn L ar 0 pe.toList lo/\gV L ar lo (lo+min (a₀.size-lo) mr)) ?_ (λ_ _ z=>z) ⟨_,_,_,rfl,rfl,pm2,R2,sg2⟩) ?_)
    ·rintro y c st' _ _ ⟨ar3,pe3,g3,rfl,rfl,pm3,R3,sg3⟩
     refine Ik (Ml ?_)
     by_cases q1:pe3.size>1
     ·rw[if_pos (show(K5 (SS κ ar3 pe3 g3)).size>1 from q1)]
      rw[show(K5 (SS κ ar3 pe3 g3))[(K5 (SS κ ar3 pe3 g3)).size-2]? =pe3[pe3.size-2]? from rfl];cases pe3[pe3.size-2]? with
      |none=>exact Ij ⟨_,_,_,rfl,rfl,pm3,R3,sg3⟩
      |some o=>
       obtain⟨o1,o2,o3⟩:=o
       dsimp only;refine dS (Ij ⟨_,_,_,rfl,rfl,pm3,R3,sg3⟩) ?_
       refine Ik (gA C (hP.perm pm3) R3 (by rw[pm3.size_eq];omega) (show pe3.size-2+1<pe3.size by omega) λar4 pe4 g4 ch4 R4 _=>?_)
       exact Ij ⟨ar4,pe4,g4,rfl,rfl,ch4.perm.trans pm3,R4,lZ sg3 λi h1 h2=>ch4.same i (.inr h1)⟩
     ·rw[if_neg (show¬(K5 (SS κ ar3 pe3 g3)).size>1 from q1)]
      exact Ij ⟨_,_,_,rfl,rfl,pm3,R3,sg3⟩
    ·rintro c st' ⟨ar3,pe3,g3,rfl,rfl,pm3,R3,sg3⟩
     dsimp only;refine Ik (Kz (Ik (Kz ?_)))
     refine Ij ⟨lo+min (a₀.size-lo) mr,ar3,(pe3.modify (pe3.size-1) λx=>(x.fst,x.2.fst,WE a₀.size (2*s1+m1) (2*s1+m1+m1+min (a₀.size-lo) mr) a₀.size)).push (lo,min (a₀.size-lo) mr,0),g3,rfl,rfl,pm3,?_,by omega,by omega⟩
     rw[Ky,Px];exact Rn.cat (by have:=yn (pw:=WE a₀.size (2*s1+m1) (2*s1+m1+m1+min (a₀.size-lo) mr) a₀.size) R3;simpa using this) ⟨rfl,hN,sg3,rfl⟩
  ·rw[if_neg e2]
   have pm2:=pm1
   have R2:=R1
   have sg2:=sg1
   have hN:=n1
   refine Ik (Ml ?_)
   rw[show(K5 (SS κ ar1 pe g)).back?=pe.back? from rfl];cases pe.back? with
   |none=>
    dsimp only;refine Ik (Kz ?_)
    exact Ij ⟨lo+n,ar1,pe.push (lo,n,0),g,rfl,rfl,pm2,by rw[Ky];exact R2.cat ⟨rfl,hN,sg2,rfl⟩,by omega,by omega⟩
   |some bk=>
    obtain⟨s1,m1,b2⟩:=bk
    dsimp only;refine Ik (KY (JQ (I:=λ_ c st'=> ∃ar pe g,c=(none,())/\st'=SS κ ar pe g/\ar.Perm a₀/\Rn L ar 0 pe.toList lo/\gV L ar lo (lo+n))
     (Q:=λc st'=> ∃ar pe g,c=(none,())/\st'=SS κ ar pe g/\ar.Perm a₀/\Rn L ar 0 pe.toList lo/\gV L ar lo (lo+n)) ?_ (λ_ _ z=>z) ⟨_,_,_,rfl,rfl,pm2,R2,sg2⟩) ?_)
    ·rintro y c st' _ _ ⟨ar3,pe3,g3,rfl,rfl,pm3,R3,sg3⟩
     refine Ik (Ml ?_)
     by_cases q1:pe3.size>1
     ·rw[if_pos (show(K5 (SS κ ar3 pe3 g3)).size>1 from q1)]
      rw[show(K5 (SS κ ar3 pe3 g3))[(K5 (SS κ ar3 pe3 g3)).size-2]? =pe3[pe3.size-2]? from rfl];cases pe3[pe3.size-2]? with
      |none=>exact Ij ⟨_,_,_,rfl,rfl,pm3,R3,sg3⟩
      |some o=>
       obtain⟨o1,o2,o3⟩:=o
       dsimp only;refine dS (Ij ⟨_,_,_,rfl,rfl,pm3,R3,sg3⟩) ?_
       refine Ik (gA C (hP.perm pm3) R3 (by rw[pm3.size_eq];omega) (show pe3.size-2+1<pe3.size by omega) λar4 pe4 g4 ch4 R4 _=>?_)
       exact Ij ⟨ar4,pe4,g4,rfl,rfl,ch4.perm.trans pm3,R4,lZ sg3 λi h1 h2=>ch4.same i (.inr h1)⟩
     ·rw[if_neg (show¬(K5 (SS κ ar3 pe3 g3)).size>1 from q1)]
      exact Ij ⟨_,_,_,rfl,rfl,pm3,R3,sg3⟩
    ·rintro c st' ⟨ar3,pe3,g3,rfl,rfl,pm3,R3,sg3⟩
     dsimp only;refine Ik (Kz (Ik (Kz ?_)))
     refine Ij ⟨lo+n,ar3,(pe3.modify (pe3.size-1) λx=>(x.fst,x.2.fst,WE a₀.size (2*s1+m1) (2*s1+m1+m1+n) a₀.size)).push (lo,n,0),g3,rfl,rfl,pm3,?_,by omega,by omega⟩
     rw[Ky,Px];exact Rn.cat (by have:=yn (pw:=WE a₀.size (2*s1+m1) (2*s1+m1+m1+n) a₀.size) R3;simpa using this) ⟨rfl,hN,sg3,rfl⟩
end
set_option maxHeartbeats 1000000
open PySem PySem.W PySem.Calls PyProof.Rows
section
variable {prog:IP}{w:Jo}{A:Jc}{E:Ia->Ic->Prop}{s:Ic}{κ:L0}{P:IG->Prop}{L:IG->IG->Bool}
theorem Cmp.of(lt: ∀x y,P x->P y-> ∀Q:Bool->Ic->Prop,Q (L x y) s->II (model prog w) A (keyLt' κ x.1 y.1) Q (λ_ _=>False) s)(tr: ∀x y z,P x->P y->P z->L y x=false->L z y=false->L z x=false)(as: ∀x y,L x y=true->L y x=false):Cmp prog w A E s κ P L:=by
 refine⟨λx y hx hy st Q hk h=>?_,tr,as⟩
 rw[lt'_eq];refine Ik (Ml ?_)
 rw[hk];refine Ik (Oh (MZ (Ji (lt x y hx hy (λb s'=>s'=s/\b=L x y) ⟨rfl,rfl⟩) (λb s' hb=>?_) λ_ _ z=>z.elim)))
 obtain⟨rfl,rfl⟩:=hb
 exact⟨rfl,Ij h⟩
theorem yF {a:Addr}{us:List Ia}{n:Nat}{P:Xw->Ic->Prop}(ho:s.heap.get? a=some (KG "list" us.toArray n))(hz:us.length<=100000)
 (few:us.length<2->P (.done (.ret .none)) {s with heap:=LB s.heap a us us.toArray})
 (many:2<=us.length-> ∀g:Heap,(∀c o,c≠a->s.heap.get? c=some o->g.get? c=some o)->II (model prog w) A (UX us.toArray) (λκ t=>t={s with heap:=g}/\
   ∃Pk L,Cmp prog w A E {s with heap:=g} κ Pk L/\AlP Pk (us.toArray.zip us.toArray)/\DsL L (us.toArray.zip us.toArray)/\ ∀ar:Array IG,ar.Perm (us.toArray.zip us.toArray)->gV L ar 0 us.length->P (.done (.ret .none)) {s with heap:=LB s.heap a us (ar.map (·.2))}) (λ_ _=>False) {s with heap:=g}):
 II (model prog w) A (NK.«list.sort» ⟨[.ref a],[]⟩) P E s:=by
 have la:a<s.heap.objs.size:=Ix ho
 have z1:us.toArray.size<=sizeLine:=by rw[IF,JY];omega
 obtain⟨c1,h1⟩: ∃c,(s.heap.update a (Kp λ_=> #[])).get? a=some (KG "list" #[] c):=⟨_,Q3 ho (λ_=> #[])⟩
 have h2:(((s.heap.update a (Kp λ_=> #[])).push (KG "tuple" us.toArray 0)).push (KG "list" #[] 0)).get? a=some (KG "list" #[] c1):=Ib _ (Ib _ h1)
 have kp: ∀c o,c≠a->s.heap.get? c=some o->(((s.heap.update a (Kp λ_=> #[])).push (KG "tuple" us.toArray 0)).push (KG "list" #[] 0)).get? c=some o:=λc o nc e=>
  Ib _ (Ib _ (by rw[Pw _ _ _ _ nc];exact e))
 rw[Q4];refine HZ (listItems_at ho rfl (HZ (Mf ho rfl ?_ z1 (Jh _))))
 refine HZ (M3 h1 rfl (HZ (O7 ?_ (show us.length<=_ by rw[JY];omega))))
 refine HZ (NW (Kj ?_) (Jh _))
 show II (model prog w) A _ P E {s with heap:=((s.heap.update a (Kp λ_=> #[])).push (KG "tuple" us.toArray 0)).push (KG "list" #[] 0)}
 dsimp only
 by_cases hs:us.toArray.size<2
 ·rw[if_pos hs,if_pos hs]
  refine HZ (Ih ?_)
  rw[StateT.run_pure];refine HZ (Ih ?_)
  dsimp only;have ea:N9 (λx=>x.2) (us.toArray.zip us.toArray)=us.toArray:=by
   apply Qx.mp
   simp[Qy]
  refine HZ (M3 h2 rfl (HZ (Mf h2 rfl ?_ (Jh _) ?_)))
  ·simp only[bne_self_eq_false,JG,if_false]
   refine Ih ?_
   have:=few (by simpa using hs)
   show P _ {s with heap:=LB s.heap a us (N9 (λx=>x.2) (us.toArray.zip us.toArray))}
   rw[ea];exact this
  ·show(N9 (λx=>x.2) (us.toArray.zip us.toArray)).size<=_
   rw[ea];exact MB z1
 ·rw[if_neg hs,if_neg hs]
  have h2':2<=us.length:=by simpa using hs
  have zp:(us.toArray.zip us.toArray).size=us.length:=by simp
  refine HZ (Ji (many h2' _ kp) (λκ t ht=>?_) λ_ _ x=>x.elim)
  obtain⟨et,Pk,L,C,hP,hD,fin⟩:=ht
  subst et;refine HZ (Ji (tf C hP hD (by rw[zp];omega) (g:=7) (Q:=λ_ st=>Qf st=none/\(NL st).Perm (us.toArray.zip us.toArray)/\gV L (NL st) 0 us.length) λst' a1 a2 a3=>⟨a2,a1,by rw[zp] at a3;exact a3⟩) (λr t' hr=>?_) λ_ _ x=>x)
  obtain⟨u,st⟩:=r
  obtain⟨e1,hf,pm,sg⟩:=hr
  subst e1;dsimp only at hf pm sg⊢;rw[hf];have zz:((NL st).map (·.2)).size<=sizeLine:=by rw[Array.size_map,pm.size_eq,zp,JY];omega
  refine HZ (M3 h2 rfl (HZ (Mf h2 rfl ?_ (Jh _) (MB zz))))
  simp only[bne_self_eq_false,JG,if_false];exact Ih (fin _ pm sg)
end
def tj(x:IG):Int:=match x.1 with
 | .int k _=>k
 |_=>0
section
variable {prog:IP}{w:Jo}{A:Jc}{E:Ia->Ic->Prop}{s:Ic}
theorem pO {d:Addr}{ns:List Int}{vs:List (aM×Ia)}{Q:Ia->Ic->Prop}(hk:vs.map (·.1)=ns.map IU)(hd:s.heap.DictOf (aZ prog w) d vs)(lo:(d==Kn)=false)(hh:A.handled=none)(hz:ns.length<=100000)(nd:ns.Nodup)
 (fin: ∀(g:Heap) (tk a e:Nat) (us:List Ia),(∀c o,s.heap.get? c=some o->g.get? c=some o)->s.heap.objs.size<=a->mn us (br fc ns)->g.get? a=some (KG "list" us.toArray e)->Q (.ref a) {s with heap:=g,toks:=tk}):
 II (model prog w) A (call (.builtin "sorted") [.ref d]) Q E s:=by
 obtain⟨ep,hd'⟩:=hd.dictAt
 have lv:vs.length=ns.length:=by have:=congrArg LY hk;simpa using this
 refine ND kind_sorted plain_sorted entry_sorted (args_sorted1 _) ?_
 unfold NK.«sorted»;refine HZ (m:=checkCount "sorted" 1 1 _) (Ih (HZ (uI (A:=A.in1) (kdl_dict lo) hh hd' (by rw[lv,JY];omega) λg tk acc kg sg0 hacc=>?_)))
 obtain⟨us,hus⟩: ∃us,us=acc.toList:=⟨_,rfl⟩
 rw[<-hus];have hl:us.length=ns.length:=by rw[hus,IW,hacc.1,lv]
 have gi: ∀i,i<ns.length-> ∃t,us.getD i Jm=K3 (ns.getD i 0) t:=λi hi=>by
  have e2:us[i]? =some us[i]:=Ig (by omega)
  have e3:acc[i]? =some us[i]:=by rw[<-KD,<-hus];exact e2
  obtain⟨k,x,h1,h2⟩:=hacc.2 i _ e3
  have h3:(vs.map (·.1))[i]? =some k:=by rw[Jd,h1];rfl
  rw[hk,Jd,Ig hi] at h3;cases h3
  rw[sX] at h2;rcases bg h2 with⟨j,t,q1,q2⟩|⟨_,_,q1,_⟩
  ·cases q1
   exact⟨t,by simp[JH,e2,q2,Ig hi]⟩
  ·cases q1
 have pickI: ∀(ix:List Nat) (ms:List Int),ix.map (λi=>ns.getD i 0)=ms->(∀i∈ix,i<ns.length)->mn (ix.map λi=>us.getD i Jm) ms:=by
  intro ix
  induction ix with
  |nil=>intro ms e _;rw[<-e];exact .nil
  |cons i ix ih=>
   intro ms e hi;rw[<-e,Ip,Ip];exact .cons (gi i (hi i Is)) (ih _ rfl λj hj=>hi j (Ii _ hj))
 have sg:s.heap.objs.size<=g.objs.size:=Le sg0
 refine HZ (NW ?_ (by rw[JY];omega))
 have hL:(g.push (KG "list" us.toArray 0)).get? g.objs.size=some (KG "list" us.toArray 0):=Io _ rfl
 show II _ _ _ _ _ {s with heap:=g.push (KG "list" us.toArray 0),toks:=tk}
 have end_: ∀out:Array Ia,mn out.toList (br fc ns)->Q (.ref g.objs.size) {s with heap:=LB (g.push (KG "list" us.toArray 0)) g.objs.size us out,toks:=tk}:=λout hG=>by
  obtain⟨e,he⟩:=Sg (out:=out) hL
  refine fin _ tk g.objs.size e out.toList (λc u hu=>?_) sg hG he
  have lt:=Ix (kg c u hu)
  rw[Ru (IV lt) (by rw[size_push'];exact Qh lt)]
  exact Ib _ (kg c u hu)
 have full:mn us ns:=by
  have:=pickI (Iz us.length) ns (by rw[hl];exact jm _ _) λi hi=>by rw[JB] at hi;omega
  rw[show(Iz us.length).map (λi=>us.getD i Jm)=us from Lg λi=>by
   by_cases hi:i<us.length
   ·simp[hi]
   ·simp[hi]] at this
  exact this
 refine HZ (Kj (JX Rv ⟨_,hL,rfl⟩ Q5 (yF (P:=λf t=> ∃v,f=.done (.ret v)/\II (model prog w) A.in1 (pure (Rw (.ret (JD g.objs.size)))) (λf t=> ∃v,f=.done (.ret v)/\Q v t) E t) hL (by omega) (λh=>?_) (λh g' kg'=>?_)) (Rx _)))
 ·exact⟨_,rfl,Ih ⟨_,rfl,end_ us.toArray (by rw[gH (by omega)];exact full)⟩⟩
 ·refine kas_kind (T:=.type "int") h (λv hv'=>?_) (by rfl) (by rfl) ⟨rfl,?_⟩
  ·obtain⟨i,hi,rfl⟩:=Ls hv'
   obtain⟨t,e⟩:=gi i (by omega)
   have:us[i]=us.getD i Value.none:=by simp[JH,Ig hi]
   rw[this,e];exact SA
  ·have zl:(us.toArray.zip us.toArray).toList=us.map λv=>(v,v):=by simp[List.zip_eq_zipWith,List.zipWith_self]
   have itm: ∀x∈(us.toArray.zip us.toArray).toList,∃k t,x=(K3 k t,K3 k t):=λx hx=>by
    rw[zl] at hx;obtain⟨v,hv,rfl⟩:=IE.mp hx
    obtain⟨i,hi,rfl⟩:=Ls hv
    obtain⟨t,e⟩:=gi i (by omega)
    have:us[i]=us.getD i Value.none:=by simp[JH,Ig hi]
    rw[this,e];exact⟨_,t,rfl⟩
   have fst:(us.toArray.zip us.toArray).toList.map tj=ns:=by
    rw[zl,Jl];refine Lg λi=>?_
    by_cases hi:i<ns.length
    ·obtain⟨t,e⟩:=gi i hi
     have:us[i]? =some (us.getD i Jm):=by simp[JH,Ig (show i<us.length by omega)]
     rw[Jd,this,e,Ig hi];simp[tj,JH,Ig hi]
    ·rw[Ju (by rw[Ir];omega),Ju (by omega)]
   refine⟨λx=> ∃k t,x=(K3 k t,K3 k t),λx y=>fc (tj x) (tj y),Cmp.of (λx y hx hy Q' hQ=>?_) (λx y z _ _ _ h1 h2=>?_) (λx y h1=>?_),itm,?_,λar pm sg=>⟨_,rfl,Ih ⟨_,rfl,end_ _ ?_⟩⟩⟩
   ·obtain⟨k,t,rfl⟩:=hx
    obtain⟨k',t',rfl⟩:=hy
    exact kat_lt_int hQ
   ·simp only[fc,decide_eq_false_iff_not] at*;omega
   ·simp only[fc,decide_eq_false_iff_not,decide_eq_true_eq] at*;omega
   ·have:((us.toArray.zip us.toArray).toList.map tj).Pairwise λx y=>fc x y=true\/fc y x=true:=by
     rw[fst];refine MF (λ{x y} hxy=>?_) nd
     simp only[fc,decide_eq_true_eq];omega
    rw[KQ] at this;exact this
   ·have pl:=pm.toList
    have e1:ar.toList.map tj=br fc ns:=kS Aa (by rw[<-fst];exact pl.map tj) (by
     rw[KQ,JV];intro i j hi hj hij;have:=sg i j (Jh _) (by omega) (by
      have:=pl.length_eq
      rw[zl,Ir] at this;omega)
     have hi':i<ar.size:=by simpa using hi
     have hj':j<ar.size:=by simpa using hj
     simpa [KU,hi',hj'] using this)
    rw[<-e1,Array.toList_map];have al: ∀x∈ar.toList,∃k t,x=(K3 k t,K3 k t):=λx hx=>itm x (pl.mem_iff.mp hx)
    generalize ar.toList=l at al
    induction l with
    |nil=>exact .nil
    |cons x l ih=>
     rw[Ip,Ip];refine .cons ?_ (ih λy hy=>al y (Ii _ hy))
     obtain⟨k,t,rfl⟩:=al x Is
     exact⟨t,rfl⟩
end
section
variable {X:Cx}{c:Ct}{pos p py:Pos}{x y:Str}
theorem nq(hc:X.calm=true):eG X (.builtin "sorted") (λxs H Q=> ∃a us ns,xs=[.ref a]/\H a=some (.dK us)/\us.map (·.1)=ns.map IU/\(ns.length<=100000/\ns.Nodup)/\ ∀l,H l=none->Q (.ref l) (aI H l (.lst ((br fc ns).map V.int)))):=by
 intro aa s σ H xs us Q I r h;obtain⟨a,kvs,ns,rfl,ha,hk,hz,q⟩:=h
 obtain⟨u,rfl,rx⟩:=jc r
 cases rx
 obtain⟨z,lo,vs,rel,dd⟩:=yJ I.hok ha
 refine pO (vs:=vs) (by rw[<-rel.keys,hk]) dd lo (I.ok.hd hc) hz.1 hz.2 λg tk a' e us kg sg hi hg=>?_
 have hn:H a'=none:=I.hok.fresh sg
 refine⟨.ref a',_,I.laid (t':=tk) (o:=.lst ((br fc ns).map V.int)) kg sg ?_,rfl,q a' hn⟩
 have ll:(br fc ns).length=ns.length:=(aY (lt:=fc) ns).length_eq
 exact⟨by rw[Ir,ll,JY];omega,us,e,zZ hi,hg⟩
def sf(i:Nat):FE:=λρ=>(rV i ρ).bind λkvs=>(gv kvs).bind λns=>if ns.length<=100000/\ns.Nodup then some (.lst ((br fc ns).map D.int)) else none
theorem rL(i:Nat)(hcm:X.calm=true)(hm:X.mg "sorted"=none)(hN:X.N[i]? =some y:=by rfl)(hv':jw X.env.scope y:=by first|exact Jp rfl|exact IQ (Jp rfl)|exact IQ (IQ rfl))(hd:(y==("__debug__":Str))=false:=by decide)
 (hcd:(y==("__classdict__":Str))=false:=by decide) (hg:Gl X "sorted":=by rfl) (hv:J5 "sorted"=some (.builtin "sorted"):=by kernel_rfl)
 (he:Iu [.Name y py] X.env=(false,eval (.Name y py) X.env)::Iu [] X.env:=by rfl) (hpl:(Ko pos (Iu [] X.env)).any (·.1)=false:=by rfl):DP X c .n (.Call (.Name "sorted" p) [.Name y py] [] pos) (sf i):=λhid ρ=>
 PE.imp (mO (nq hcm) hg hm hv (be (pv i hN hv' hd hcd) cy he) (by decide) (by decide) he hpl) λσ H Q hq_=>by
  obtain⟨sr,d,hd,q⟩:=hq_
  obtain⟨kvs,e0,hd⟩:=Iq.mp hd
  obtain⟨ns,e1,hd⟩:=Iq.mp hd
  split at hd
  ·rename_i hz
   cases hd
   obtain⟨a,us,a1,a2,a3,a4,a5⟩:=sr.dict e0
   refine⟨.ref a,a1,a,us,ns,rfl,a4,by rw[a5.1];exact mW e1,hz,λl hl=>q _ _ (aF hl _) ⟨l,_,_,rfl,rfl,hl,ah,?_⟩⟩
   exact kc _
  ·cases hd
end
open PySem PySem.W PyProof.Rows
open PySem PySem.W PyProof.Rows PySem.Builtin
set_option maxHeartbeats 3200000
set_option maxHeartbeats 1000000
open PySem PySem.W PySem.Spec PyProof.Rows
open PySem PySem.Spec PyProof.Rows HT
set_option maxHeartbeats 3200000
def HB(a:Addr)(o:Obj)(us:List (aM×V))(ys:List V):It:=⟨λi H=>H a=some (.frz o (.dK us))/\i<ys.length,λi H x H'=>H'=H/\ys[i]? =some x,λi H=>H a=some (.frz o (.dK us))/\i=ys.length⟩
theorem B8 {P:IP}{w:Jo}{K:Il}{tg:Expr}(a it:Addr){o:Obj}{us:List (aM×V)}{es:Array N5}{ep:Nat}{ys:List V}(hex:o.ExactDict)(hd:o.data=.dict es ep)(rv:Vals ys (es.toList.map (·.key))):
 Turn P w K tg (HB a o us ys) [it] it (λi h=>h.IsKeyIter it a i es.size ep) where
 mem:=by simp
 obj:=λi h st b hb=>by
  have e:b=it:=by simpa using hb
  subst e;obtain⟨o,e,c,d⟩:=st
  exact⟨o,e,λv z=>by rw[d] at z;cases z⟩
 keep:=λi h h' st k=>st.at λo e=>k it (by simp) o e
 item:=by
  intro X hP hw hK hc i aa s σ H E I hf st hg;subst hP hw hK;obtain⟨hH,hlt⟩:=hg
  have hl:=rv.length
  rw[Ir,IW (xs:=es)] at hl;have hi:i<es.size:=by omega
  obtain⟨ho,_⟩:=(show ObjOk X.prog X.w H s.heap a (.frz o (.dK us)) from I.hok a _ hH)
  obtain⟨f0,f1,f2,f3,f4,f5⟩:=hf it (by simp)
  obtain⟨u,hu,ru⟩:=rv.get (i:=i) (x:=ys[i]) (Ig hlt)
  have hu':u=es[i].key:=by
   rw[Jd,KD,La hi] at hu;exact(Je hu).symm
  refine qh st ⟨o,ho,hex,hd⟩ hi λh' st' sb=>?_
  have I1:Inv X aa σ H {s with heap:=h'}:=I.turned (t':=s.toks) (λb o hb e=>(sb.2 b hb).trans e) f0 f1 f3 f4 f5
  obtain⟨o',e,c,d⟩:=id st'
  exact⟨_,rfl,qD (s:={s with heap:=h'}) e c d (by decide) ⟨ys[i],H,I1,by rw[<-hu'];exact ru,⟨rfl,Ig hlt⟩,st',λb hb=>(hf b hb).1⟩⟩
 done:=by
  intro X hP hw hK hc i aa s σ H E I hf st hg;subst hP hw hK;obtain⟨hH,rfl⟩:=hg
  obtain⟨ho,_⟩:=(show ObjOk X.prog X.w H s.heap a (.frz o (.dK us)) from I.hok a _ hH)
  obtain⟨f0,f1,f2,f3,f4,f5⟩:=hf it (by simp)
  have hl:=rv.length
  rw[Ir,IW (xs:=es)] at hl;rw[hl] at st;exact v8 (I.ok.hd hc) st ⟨o,ho,hex,hd⟩ λh' eb=>⟨rfl,I.turned (t':=s.toks) (λb o hb e=>eb b o hb e) f0 f1 f3 f4 f5⟩
 self:=λ_ _ _ _ _ st h=>Pc st h
theorem m6 {prog:IP}{w:Jo}: ∀ {es:List N5} {us:List (aM×V)} {vs:List (aM×Ia)},PySem.Pairs (aZ prog w) es vs->KV us vs->Vals (us.map λu=>kV u.1) (es.map (·.key))
 |_,_,_,.nil,r=>by cases r;exact .nil
 |_,_,_,.cons h1 h2 hp,r=>by
  cases r with
  |cons r rs=>
   refine .cons ?_ (m6 hp rs)
   dsimp only;rw[r.1];rcases bg h1 with⟨i,t,e1,e2⟩|⟨x,t,e1,e2⟩
   ·rw[e1,e2];exact⟨t,rfl⟩
   ·rw[e1,e2];exact⟨t,rfl⟩
def Hk(td:TE):TI:=λσ H R=>td σ H λx H1=> ∃a o us,x=.ref a/\H1 a=some (.frz o (.dK us))/\R (HB a o us (us.map λu=>kV u.1)) H1
theorem Dk {X:Cx}{tg l:Expr}{tl:TE}(hl:PE X l tl):PI X tg l (Hk tl):=by
 intro aa s σ H R I h;refine bm (hl aa s σ H _ I h) λv s1 hq_=>?_
 obtain⟨x,H1,I1,r1,q1⟩:=hq_
 obtain⟨a,o,us,e,hq,q⟩:=q1
 subst e;cases r1
 obtain⟨g0,z,lo,xs,r,o',es,ep,g1,g2,g3,g4,g5,g6⟩:=(show ObjOk X.prog X.w H1 s1.heap a (.frz o (.dK us)) from I1.hok a _ hq)
 rw[g0] at g1;cases g1
 have rv:Vals (us.map λu=>kV u.1) (es.toList.map (·.key)):=m6 g5 r
 refine sx lo ⟨o,g0,g2,g3⟩ ?_
 refine⟨s1.heap.objs.size,[s1.heap.objs.size],_,_,H1,rfl,I1.kept (t':=s1.toks) λb o e=>Ib _ e,B8 a _ g2 g3 rv,⟨_,Io _ rfl,rfl,rfl⟩,λb hb=>?_,q⟩
 have e:b=s1.heap.objs.size:=by simpa using hb
 subst e;exact I1.fpOk (Ie _) (I1.hok.fresh (Ie _))
def mN:List (aM×D)->Option (List D)
 | []=>some []
 |(.inl k,_)::r=>(mN r).map (.int k:: ·)
 |_=>none
def uT(i:Nat):FA:=λρ=>(yD i ρ).bind mN
theorem mx {K:Il}{W:Hp}: ∀ {us:List (aM×V)} {kvs:List (aM×D)} {ds:List D},us.map (·.1)=kvs.map (·.1)->mN kvs=some ds->Reps K W (us.map λu=>kV u.1) ds
 | [],[],_,_,e=>by cases e;exact .nil
 |_::_,[],_,h,_=>by cases h
 | [],_::_,_,h,_=>by cases h
 |(k',v)::us,(k,d)::kvs,ds,h,e=>by
  rw[Ip,Ip] at h;injection h with h1 h2
  have h1:k'=k:=h1
  subst h1;cases k' with
  |inr x=>cases e
  |inl n=>
   obtain⟨ds',e1,rfl⟩:=Jr.mp (show(mN kvs).map (D.int n:: ·)=some ds from e)
   exact .cons .int (mx h2 e1)
def ul(i:Nat)(ρ:aA):Option (List (aM×D)):=match ρ[i]? with
 |some (.ob (.dA kvs))=>some kvs
 |_=>none
theorem n8 {i:Nat}{ρ:aA}{kvs:List (aM×D)}(h:ul i ρ=some kvs):ρ[i]? =some (.ob (.dA kvs)):=by
 unfold ul at h;split at h
 ·cases h;assumption
 ·cases h
section
variable {K:Il}{c:Ct}{hid:a7}{ρ:aA}{σ:St}{H:Hp}{a:Addr}
theorem SR.dictA(h:SR K c hid ρ σ H){i:Nat}{kvs:List (aM×D)}(e:ul i ρ=some kvs): ∃a us,σ[i]? =some (some (.ref a))/\hid a=true/\c.mu a=true/\H a=some (.dK us)/\KRl K (vw H hid) us kvs:=by
 obtain⟨a,h1,⟨h2,h3⟩,us,h4,h5,h6⟩:=h.sl i _ (n8 e)
 exact⟨a,us,h1,h2,h3,h4,h5,h6⟩
theorem SR.putA {i:Nat}{kvs kvs':List (aM×D)}{us':List (aM×V)}(h:SR K c hid ρ σ H)(hg:ul i ρ=some kvs)(ha:σ[i]? =some (some (.ref a)))(r:KRl K (vw H hid) us' kvs'):SR K c hid (ρ.set i (.ob (.dA kvs'))) σ (aI H a (.dK us')):=by
 obtain⟨a1,us,h1,h2,h3,h4,h5⟩:=h.dictA hg
 rw[ha] at h1;cases h1;exact h.putO' (n8 hg) trivial trivial ha (.inl rfl) h2 (.inr h3) nofun ⟨⟨h2,h3⟩,us',ah,r.1,by rw[bH h2];exact r.2⟩
end
section
variable {X:Cx}{c:Ct}{k k1 k2:Kd}{e f ek ev:Expr}{fe ff fk fv:FE}{pos pos' py apos cpos p:Pos}{x y:Str}{tg:Expr}
def oo(i:Nat)(fk fv:FE):FS:=λρ=>match ul i ρ with
 |some kvs=>(match fv ρ with
  |some d=>(match (fk ρ).bind k6 with
   |some k=>if kvs.length<=1000 then .nx (ρ.set i (.ob (.dA (putD kvs k d)))) else .no
   |none=>.no)
  |none=>.no)
 |none=>.no
theorem yt(i:Nat)(hu:X.A.units+1<Ke)(hk:DP X c k1 ek fk)(hv:DP X c .s ev fv)(hN:X.N[i]? =some y:=by rfl)(hv':jw X.env.scope y:=by first|exact Jp rfl|exact IQ (Jp rfl)|exact IQ (IQ rfl))(hd:(y==("__debug__":Str))=false:=by decide)
 (hcd:(y==("__classdict__":Str))=false:=by decide) (hs:JU ev (some (.Subscript (.Name y py) ek pos')) pos.line X.env=pure false:=by rfl):
 DS X c k (.Assign [.Subscript (.Name y py) ek pos'] ev pos) (oo i fk fv):=λρ=>PS.imp (vC hu (pv i hN hv' hd hcd) (iC λhid=>hk hid ρ) (iC λhid=>hv hid ρ) hs) λD σ H hq_=>by
 obtain⟨hid,sr,q⟩:=hq_
 unfold oo at q;split at q
 ·rename_i kvs e0
  split at q
  ·rename_i d e1
   split at q
   ·rename_i kk e2
    split at q
    ·rename_i hz
     obtain⟨dk,e3,e4⟩:=Iq.mp e2
     obtain⟨j,rfl,rfl⟩:=dO e4
     obtain⟨a,us,a1,a2,a3,a4,a5⟩:=sr.dictA e0
     refine⟨hid,sr,d,e1,λv H1 s1 r1=>⟨.ref a,a1,hid,sr.ext s1,_,e3,λz H2 s2 r2=>?_⟩⟩
     have i1:=(RK.b k1 r2 λa n=>(sr.ext s1).fresh n).int
     cases i1
     have s12:=s1.trans s2
     have hh:H2 a=some (.dK us):=s12 _ _ a4
     refine⟨a,_,rfl,DPut.k (k:=IU j) hh (by rw[a5.len];exact JA hz (by decide)),?_⟩
     have r1':Rep X.K (vw H1 hid) v d:=r1
     refine q _ _ hid ((sr.ext s12).putA e0 a1 (KRl.put (IU j) (r1'.mono (aD s2)) ⟨a5.1,a5.2.mono (aD s12)⟩)) ?_
     rw[bH a2];exact aD s12
    ·exact q.elim
   ·exact q.elim
  ·exact q.elim
 ·exact q.elim
def oj(i:Nat)(fk fd:FE):FE:=λρ=>(ul i ρ).bind λkvs=>((fk ρ).bind k6).bind λk=>(fd ρ).map λd=>(iw kvs k).getD d
theorem x9(i:Nat)(hu:X.A.units+1<Ke)(he:DP X c k1 e fe)(hf:DP X c .s f ff)(m:M2 X (.Name y py) "get" apos e f cpos)(hN:X.N[i]? =some y:=by rfl)(hv':jw X.env.scope y:=by first|exact Jp rfl|exact IQ (Jp rfl)|exact IQ (IQ rfl))(hd:(y==("__debug__":Str))=false:=by decide)
 (hcd:(y==("__classdict__":Str))=false:=by decide):DP X c .s (.Call (.Attribute (.Name y py) "get" apos) [e,f] [] cpos) (oj i fe ff):=λhid ρ=>
 PE.imp (mG hu (pv i hN hv' hd hcd) (he hid ρ) (hf hid ρ) m) λσ H Q hq_=>by
  obtain⟨sr,d,hd,q⟩:=hq_
  obtain⟨kvs,e0,hd⟩:=Iq.mp hd
  obtain⟨kk,e1,hd⟩:=Iq.mp hd
  obtain⟨dd,e2,rfl⟩:=Jr.mp hd
  obtain⟨dk,e3,e4⟩:=Iq.mp e1
  obtain⟨j,rfl,rfl⟩:=dO e4
  obtain⟨a,us,a1,a2,a3,a4,a5⟩:=sr.dictA e0
  refine⟨.ref a,a1,a,rfl,.inl ⟨us,.inl a4⟩,sr,_,e3,λz H2 s2 r2=>⟨sr.ext s2,_,e2,λw H3 s3 r3=>?_⟩⟩
  have i1:=(RK.b k1 r2 λa n=>sr.fresh n).int
  cases i1
  have s23:=s2.trans s3
  have hh:H3 a=some (.dK us):=s23 _ _ a4
  have rr:KRl X.K (vw H3 hid) us kvs:=⟨a5.1,a5.2.mono (aD s23)⟩
  refine⟨_,DGet.k (k:=IU j) hh,q _ H3 s23 ?_⟩
  rcases rr.val (IU j) with⟨v1,v2⟩|⟨v,d,v1,v2,v3⟩
  ·rw[v1,v2];exact r3
  ·rw[v1,v2];exact v3
theorem AF(i:Nat)(hN:X.N[i]? =some y:=by rfl)(hv':jw X.env.scope y:=by first|exact Jp rfl|exact IQ (Jp rfl)|exact IQ (IQ rfl))(hd:(y==("__debug__":Str))=false:=by decide)(hcd:(y==("__classdict__":Str))=false:=by decide):
 DIp X c tg (.Name y py) (uT i):=λhid ρ=>PI.imp (Dk (pv i hN hv' hd hcd)) λσ H R hq_=>by
 obtain⟨sr,ds,e,q⟩:=hq_
 obtain⟨kvs,e0,e1⟩:=Iq.mp e
 obtain⟨a,a1,o,us,a2,a3,a4⟩:=sr.sl i _ (oy e0)
 have hh:H a=some (.frz o (.dK us)):=bF _ _ _ _ a2
 refine⟨.ref a,a1,a,o,us,rfl,hh,?_⟩
 have rr:=mx (K:=X.K) (W:=vw H hid) a3 e1
 have ll:=rr.length
 refine q _ H (Same.refl _) ⟨λj d H2 hj s=>?_,λH2 s=>⟨s _ _ a2,ll.symm⟩⟩
 obtain⟨v,h1,h2⟩:=rr.get hj
 have hlt:j<(us.map λu=>kV u.1).length:=(IA.mp h1).1
 refine⟨⟨s _ _ a2,hlt⟩,λx H' ⟨g1,g2⟩=>?_⟩
 subst g1;rw[h1] at g2;cases g2;exact⟨Same.refl _,λhid' _ sw=>h2.mono sw⟩
end
section
variable {X:Cx}{sts:List Stmt}{t:TS}
theorem PSs.inner(h:PSs X sts t):PSs X sts (λD σ H=> ∃d p u,H d=some (.nst p u)/\t {D with nx:=λσ' H'=> ∃u',H' d=some u'/\BP (some u')/\D.nx σ' (aI H' d (.nst p u')),rt:=λv H'=> ∃u',H' d=some u'/\BP (some u')/\D.rt v (aI H' d (.nst p u')),bk:=λ_ _=>False,ct:=λ_ _=>False} σ (aI H d u)):=by
 intro aa s σ H D I ⟨d,p,u,hd,q⟩;refine bm (h aa s σ (aI H d u) _ (I.unnest hd) q) λf s' z=>?_
 cases f with
 |next=>
  obtain⟨σ',H',I',u',e1,mu,w⟩:=z
  exact⟨σ',_,I'.nest (p:=p) e1 mu,w⟩
 |brk=>obtain⟨_,_,_,w⟩:=z;exact w.elim
 |cont=>obtain⟨_,_,_,w⟩:=z;exact w.elim
 |ret u=>
  obtain⟨v,σ',H',I',r,u',e1,mu,w⟩:=z
  exact⟨v,σ',_,I'.nest (p:=p) e1 mu,r,w⟩
end
abbrev mi:=List (aM×D)
def wV(K:Il)(M:mi->mi->D->D->Option mi):Sp:=λvs H Q _=> ∃hid x y v1 v3 p us A B d1 d3,vs=[.ref x,v1,.ref y,v3]/\Ap hid H/\hid x=true/\H x=some (.nst p (.dK us))/\KRl K (vw H hid) us A/\Rep K (vw H hid) v1 d1/\DRd K (vw H hid) y B/\Rep K (vw H hid) v3 d3/\
 ∃A',M A B d1 d3=some A'/\ ∀H' us',(∀b o,H b=some o->b≠x->H' b=some o)->H' x=some (.nst p (.dK us'))->KRl K (vw H' hid) us' A'->Q .non H'
def oe(n:Nat)(A B:mi)(d1 d3:D):aA:=.ob (.dA A):: .v d1:: .ob (.dR B):: .v d3::Im (n-4) .no
def Bz(n:Nat)(t:FS)(A B:mi)(d1 d3:D):Option mi:=match t (oe n A B d1 d3) with
 | .nx ρ=>ul 0 ρ
 |_=>none
theorem SR.beginsPP {K:Il}{hid:a7}{H:Hp}{N:List Str}{x y:Addr}{v1 v3:V}{us:List (aM×V)}{A B:mi}{d1 d3:D}(tr:Ap hid H)(hx:hid x=true)(ex:H x=some (.dK us))(r:KRl K (vw H hid) us A)(r1:Rep K (vw H hid) v1 d1)(r2:DRd K (vw H hid) y B)(r3:Rep K (vw H hid) v3 d3)(hN:4<=N.length):
 SR K ⟨H,hid,λb=>decide (b=x)⟩ hid (oe N.length A B d1 d3) (eC N [.ref x,v1,.ref y,v3]) H:=by
 have es:eC N [.ref x,v1,.ref y,v3]=some (V.ref x)::some v1::some (V.ref y)::some v3::Im (N.length-4) none:=rfl
 rw[es];unfold oe;refine⟨tr.1,tr.2,λ_ h=>h,λ_ _ h _=>h,λb o h=>⟨o,h⟩,tr.1,λb h=>?_,by simp,λi s e=>?_,λi j z n o1 o2 q1 q2=>?_⟩
 ·have:b=x:=by simpa using h
  rw[this];exact hx
 ·match i,e with
  |0,e=>cases e;exact⟨x,rfl,⟨hx,by simp⟩,us,ex,r.1,r.2⟩
  |1,e=>cases e;exact⟨v1,rfl,r1⟩
  |2,e=>cases e;exact⟨y,rfl,r2⟩
  |3,e=>cases e;exact⟨v3,rfl,r3⟩
  |i+4,e=>
   have e:(Im (N.length-4) Sl.no)[i]? =some s:=e
   rw[Jj] at e;split at e
   ·cases e;trivial
   ·cases e
 ·have ow: ∀i:Nat,Ow ((Sl.ob (.dA A):: .v d1:: .ob (.dR B):: .v d3::Im (N.length-4) Sl.no)[i]?)->i=0:=λi o=>by
   match i,o with
   |0,_=>rfl
   |1,o=>exact o.elim
   |2,o=>exact o.elim
   |3,o=>exact o.elim
   |i+4,o=>
    have o:Ow ((Im (N.length-4) Sl.no)[i]?):=o
    rw[Jj] at o;split at o<;>exact o.elim
  exact n ((ow i o1).trans (ow j o2).symm)
section
variable {P:IP}{w:Jo}{K:Il}{mg:Str->Option Ia}{base:Heap}{x:Str}{st:Stmt}{N ps:List Str}{k n:Nat}{t:FS}
theorem E7(F:Df K mg x st ps)(S:FnScope N ps (av st))(hn:ps.length=4)(hN:4<=N.length)
 (body: ∀(f:Addr) (cdv:Ia) (A:Jc) (outer:List Env) (s:Ic) (H:Hp) (hid:a7) (a:Addr) (E:XK) (H0:Hp),Room k (A.deeper (Mw x (av st) s.heap.objs.size f cdv))->
   tt (lq oA P w K mg base N x (av st) f cdv A outer s H E).nox ⟨H0,hid,λb=>decide (b=a)⟩ .s (bV st) t):
 Cl P w K mg base (k+1) x ps (wV K (Bz N.length t)):=by
 obtain⟨f,fd,F,hm,hb⟩:=F.ex
 refine⟨f,fd,F.ok S (λvs H Q E h=>?_) (λcdv A outer s H vs Q E hr h=>?_),hm,F.kp,hb⟩
 ·obtain⟨hid,x,y,v1,v3,p,us,A,B,d1,d3,rfl,_⟩:=h
  rw[hn];rfl
 ·obtain⟨hid,x,y,v1,v3,p,us,A0,B,d1,d3,rfl,tr,hx,ex,r,r1,r2,r3,A',hP,z⟩:=h
  unfold Bz at hP;have vv:vw (aI H x (.dK us)) hid=vw H hid:=bH hx
  have tr':Ap hid (aI H x (.dK us)):=⟨λb hb=>by
   by_cases e:b=x
   ·subst e;exact⟨_,ah⟩
   ·rw[af e];exact tr.1 b hb,λb xs hb q=>by
   by_cases e:b=x
   ·subst e;rw[ah] at q;cases q
   ·rw[af e] at q;exact tr.2 b xs hb q⟩
  cases e:t (oe N.length A0 B d1 d3) with
  |nx ρ=>
   rw[e] at hP;refine⟨_,PSs.inner (body f cdv A outer s H hid x E (aI H x (.dK us)) hr (oe N.length A0 B d1 d3)),x,p,_,ex,hid,SR.beginsPP tr' hx ah (by rw[vv];exact r) (by rw[vv];exact r1) (by rw[vv];exact r2) (by rw[vv];exact r3) hN,?_⟩
   rw[e];intro σ' H' hid' sr sm;obtain⟨a',us',g1,g2,g3,g4,g5⟩:=sr.dictA hP
   have ea:a'=x:=by simpa using g3
   subst ea;refine⟨_,g4,trivial,z _ us' (λb o q nb=>?_) ah ?_⟩
   ·rw[af nb]
    exact sr.kp b o (by show aI H a' _ b=_;rw[af nb];exact q) (by simpa using nb)
   ·have le:Same (vw H' hid') (vw (aI H' a' (.nst p (.dK us'))) hid):=by
     rw[bH hx];exact cL sr.h0
    exact⟨g5.1,g5.2.mono le⟩
  |rt d ρ=>rw[e] at hP;cases hP
  |bk ρ=>rw[e] at hP;cases hP
  |ct ρ=>rw[e] at hP;cases hP
  |no=>rw[e] at hP;cases hP
end
end L2
namespace PySem
section
variable {prog:IP}{w:Jo}{K:Type} [DecidableEq K]{knd:HeapKind prog w K}{A:Jc}{E:Ia->Ic->Prop}{s:Ic}
theorem Bj {d a:Addr}{xs:List (K×Addr×Ia)}{k:K}{v:Ia}{Q:Ia->Ic->Prop}(hu:knd.room A)(hkey:knd.is s.heap k a)(hm:s.heap.DictOfH knd d xs)
 (hold: ∀p,Oe xs k=some p->Q p.2 {s with toks:=s.toks+knd.draws k})
 (hnew:Oe xs k=none-> ∀h',h'.DictOfH knd d (Re xs k a v)->J9 d s.heap h'->Q v {s with heap:=h',toks:=s.toks+knd.draws k})
 (hsz:xs.length<=Iy):II (model prog w) A (Pg d (.ref a) v) Q E s:=by
 obtain⟨o,es,ep,ho,hc,hd,he,his,hn⟩:=hm
 unfold Pg
 try with_reducible refine Kj ?_
 refine HZ (knd.pyHash hu hkey ?_)
 refine HZ (wpAny_dictFind_heap (s:={s with toks:=s.toks+knd.draws k}) hu hkey ho hd he his hn ?_ ?_)
 ·intro hno
  have hnot:k∉xs.map (·.1):=not_mem_keys_of_get hno
  refine HZ (KH (HZ (wpAny_updateDictKeys (hz:=by have e:=size_of_entries he;omega) (s:={s with toks:=s.toks+knd.draws k}) ho hd (Ih (hnew (MM hno) _ ⟨_,_,ep+1,Ki _ ho (Obj.isFreed_of_dict (Ph hd _)),
   hc.mapDictKeys _,Ph hd _,?_,?_,?_⟩ (KB ..))))))
  ·rw[QR (MM hno)]
   simp[he,entryOfKey]
  ·rw[QR (MM hno)]
   intro x hx;rcases IM.mp hx with hx|hx
   ·exact knd.keeps (his x hx) ho hd (KB ..)
   ·simp only[IN] at hx
    subst hx;exact knd.keeps hkey ho hd (KB ..)
  ·rw[QR (MM hno)]
   rw[Jv,Li];refine⟨hn,by simp,?_⟩
   intro x hx y hy;simp only[Ip,Mx,IN] at hy;subst hy;exact λe=>hnot (e▸hx)
 ·intro j p hj
  refine HZ (ME (s:={s with toks:=s.toks+knd.draws k}) ho hd ?_)
  rw[entry_at he j,hj];exact HZ (KH (Ih (hold p (atKey_of_get hn hj))))
theorem jC(knd:HeapKind prog w K)(d a:Addr)(hd:(d==Kn)=false)(dflt:Ia):
 MeetsIn prog w (NK.«dict.setdefault» ⟨[.ref d,.ref a,dflt],[]⟩) (λA R s=>knd.room A.in1/\ ∃k xs,knd.is s.heap k a/\s.heap.DictOfH knd d xs/\xs.length<=Iy/\
  (∀p,Oe xs k=some p->R (.ok (.ret p.2)) {s with toks:=s.toks+knd.draws k})/\
  (Oe xs k=none-> ∀h',h'.DictOfH knd d (Re xs k a dflt)->J9 d s.heap h'->R (.ok (.ret dflt)) {s with heap:=h',toks:=s.toks+knd.draws k})):=
 .of_wp λA R s hq_=>by
  obtain⟨hu,k,xs,hkey,hm,hz,h1,h2⟩:=hq_
  unfold NK.«dict.setdefault»;refine HZ ?_
  unfold RE;refine HZ (OX hm.typeIs ?_)
  show II _ _ (pure (d,JD a,some dflt)) _ _ s;refine Ih ?_
  show II _ _ (if(d==Kn)=true then _ else(Pg d (.ref a) dflt>>=_)) _ _ s
  rw[if_neg (by rw[hd];exact Kq)]
  exact HZ (Bj hu hkey hm (λp hp=>Ih ⟨p.2,rfl,h1 p hp⟩) (λhn h' hm' hs'=>Ih ⟨dflt,rfl,h2 hn h' hm' hs'⟩) hz)
end
end PySem
namespace L2
open PySem PySem.Spec PyProof.Rows
section
variable {X:Cx}{aa:List (Addr×Obj)}{σ:St}{H:Hp}{s:Ic}{a b:Addr}{A:Jc}{E:Ia->Ic->Prop}{z:V}{r:Ia}
theorem Ae {kvs:List (List aM×V)}{k:List aM}{Q:Ia->Ic->Prop}(hu:A.units+1<Ke)(I:Inv X aa σ H s)(e:H a=some (.dT kvs))(eb:H b=some (.tup (k.map kV)))(l:kvs.length<Iy)(rz:RelV z r)
 (h1: ∀v w' s',cR kvs k=some v->Inv X aa σ H s'->RelV v w'->Q w' s') (h2: ∀s',cR kvs k=none->Inv X aa σ (aI H a (.dT (eL kvs k z))) s'->Q r s'):
 II (model X.prog X.w) A (call (.builtin "dict.setdefault") [.ref a,.ref b,r]) Q E s:=by
 obtain⟨zz,hd,xs,rel,dd⟩:=yr I.hok e
 have hz:xs.length<=sizeLine:=by rw[<-Ll rel];exact zz
 have hl:(eL kvs k z).length<=sizeLine:=by have:=ft kvs k z;omega
 refine OC Nc dd.typeIs PySem.F.entry_dict_setdefault (PySem.F.args_dict_setdefault_3 _ _ _) (jC (Mp (aZ X.prog X.w)) a b hd r) ⟨LG hu,k,xs,kq I.hok eb,dd,hz,λp hp=>?_,λhn h' dd' hs=>?_⟩
 ·have q:=rel.val k
  rw[hp] at q;cases ev:cR kvs k with
  |none=>rw[ev] at q;exact q.elim
  |some v=>rw[ev] at q;exact h1 v _ _ ev (I.tok _) q
 ·have q:=rel.val k
  rw[hn] at q;cases ev:cR kvs k with
  |some v=>rw[ev] at q;exact q.elim
  |none=>
   refine h2 _ ev ?_
   obtain⟨q,es,ep,hq,g2,g3,g4,_,g5⟩:=dd'
   refine jH I (by rw[e];exact True.intro) hs ⟨q,hq⟩ ⟨hl,hd,_,(rel.put k eb rz).keeps λc ys ec=>?_,q,es,ep,hq,g2,g3,g4,g5⟩
   rw[af (ym ec e (λz=>nomatch z))]
   exact ec
end
def F7(td ty tx:TE):TE:=λσ H Q=>td σ H λx H1=> ∃a,x=.ref a/\GP H1 a/\ty σ H1 λy H2=>tx σ H2 λz H3=> ∃kvs k b,y=.ref b/\H3 a=some (.dT kvs)/\H3 b=some (.tup (k.map kV))/\kvs.length<Iy/\
 (∀v,cR kvs k=some v->Q v H3)/\(cR kvs k=none->Q z (aI H3 a (.dT (eL kvs k z))))
section
variable {X:Cx}{o e f:Expr}{apos cpos:Pos}{td ty tx:TE}
theorem BC(hu:X.A.units+1<Ke)(ho:PE X o td)(he:PE X e ty)(hf:PE X f tx)(m:M2 X o "setdefault" apos e f cpos):PE X (.Call (.Attribute o "setdefault" apos) [e,f] [] cpos) (F7 td ty tx):=by
 intro aa s σ H Q I h;refine Qk m.base m.few m.line Mu Nc PySem.F.type_dict_setdefault (bm (ho aa s σ H _ I h) λu s1 hq_=>?_)
 obtain⟨x,H1,I1,rx,a,ex,d,q1⟩:=hq_
 subst ex;obtain rfl:u=JD a:=rx
 obtain⟨t1,t2,_⟩:=tE I1 d
 refine⟨t1,t2,?_⟩
 rw[m.trees];refine LA rfl (M0 (Ly (bm (he aa s1 σ H1 _ I1 q1) λiv s2 ⟨y,H2,I2,ry,q2⟩=>
  Ly (bm (hf aa s2 σ H2 _ I2 q2) λfv s3 ⟨z,H3,I3,rz,kvs,k,b,ey,g1,g2,g3,g4,g5⟩=>NI ?_))))
 subst ey;obtain rfl:iv=JD b:=ry
 exact Ae hu I3 g1 g2 g3 rz (λv w' s4 ev I4 rw'=>⟨v,H3,I4,rw',g4 v ev⟩) λs4 ev I4=>⟨z,_,I4,rz,g5 ev⟩
end
abbrev ca:=List (List Int×List (Int×Int))
def eZ(i:Nat)(ρ:aA):Option ca:=match ρ[i]? with
 |some (.ob (.dd kvs))=>some kvs
 |_=>none
theorem bS {i:Nat}{ρ:aA}{kvs:ca}(h:eZ i ρ=some kvs):ρ[i]? =some (.ob (.dd kvs)):=by
 unfold eZ at h;split at h
 ·cases h;assumption
 ·cases h
def j3(i:Nat)(ρ:aA):Option ca:=match ρ[i]? with
 |some (.ob (.ddR kvs))=>some kvs
 |_=>none
theorem gp {i:Nat}{ρ:aA}{kvs:ca}(h:j3 i ρ=some kvs):ρ[i]? =some (.ob (.ddR kvs)):=by
 unfold j3 at h;split at h
 ·cases h;assumption
 ·cases h
def EM(us:List (List aM×V))(bs:List Addr)(kvs:ca):Prop:=us.map (·.1)=kvs.map (λz=>z.1.map IU)/\us.map (·.2)=bs.map V.ref
theorem BY {a b:List Int}(h:(a.map IU:List aM)=b.map IU):a=b:=by
 induction a generalizing b with
 |nil=>cases b with
  |nil=>rfl
  |cons y b=>cases h
 |cons x a ih=>cases b with
  |nil=>cases h
  |cons y b=>
   rw[Ip,Ip] at h;injection h with h1 h2
   injection h1 with h1
   rw[h1,ih h2]
def pF(kvs:ca)(ks:List Int):Option Nat:=kvs.findIdx? λz=>decide (z.1=ks)
theorem j5(ks:List Int): ∀ {us:List (List aM×V)} {bs:List Addr} {kvs:ca},EM us bs kvs->(pF kvs ks=none/\cR us (ks.map IU)=none)\/ ∃q b m,pF kvs ks=some q/\bs[q]? =some b/\kvs[q]? =some (ks,m)/\cR us (ks.map IU)=some (.ref b)
 | [],bs,kvs,h=>by
   have:kvs=[]:=by have:=congrArg LY h.1;simpa using this.symm
   subst this;exact .inl ⟨rfl,rfl⟩
 |u::us,bs,kvs,h=>by
  obtain⟨h1,h2⟩:=h
  cases kvs with
  |nil=>cases h1
  |cons z kvs=>
   cases bs with
   |nil=>cases h2
   |cons b bs=>
    rw[Ip,Ip] at h1 h2;injection h1 with g1 g2
    injection h2 with g3 g4
    obtain⟨uk,uv⟩:=u
    obtain⟨zk,zm⟩:=z
    have g1:uk=zk.map Sum.inl:=g1
    have g3:uv=.ref b:=g3
    subst g1 g3
    by_cases e:zk=ks
    ·subst e
     refine .inr ⟨0,b,zm,by unfold pF;simp[PV],rfl,rfl,ie rfl⟩
    ·have ne:(zk.map IU:List aM)≠ks.map Sum.inl:=λq=>e (BY q)
     have v1:cR ((zk.map IU,V.ref b)::us) (ks.map IU)=cR us (ks.map IU):=iJ ne
     have v2:pF ((zk,zm)::kvs) ks=(pF kvs ks).map (·+1):=by unfold pF;rw[PV];simp[e]
     rw[v1,v2];rcases j5 ks (us:=us) (bs:=bs) (kvs:=kvs) ⟨g2,g4⟩ with⟨k1,k2⟩|⟨q,b',m,k1,k2,k3,k4⟩
     ·exact .inl ⟨by rw[k1];rfl,k2⟩
     ·exact .inr ⟨q+1,b',m,by rw[k1];rfl,by simpa using k2,by simpa using k3,k4⟩
theorem Paired.setG {β:Type}{F G:Addr->β->Prop}: ∀ {bs:List Addr} {us:List β} {i:Nat} {d:Addr} {u':β},bs.Nodup->Paired F bs us->bs[i]? =some d->G d u'->(∀b u,b≠d->F b u->G b u)->Paired G bs (us.set i u')
 |_,_,_,_,_,_,.nil,e,_,_=>by simp at e
 |_,_,0,d,u',n,.cons r t,e,g,k=>by
  simp at e;subst e;refine .cons g ?_
  have nb:=(Jq.mp n).1
  clear r n g
  induction t with
  |nil=>exact .nil
  |cons r' t' ih=>
   rw[IC,not_or] at nb;exact .cons (k _ _ (λe=>nb.1 e.symm) r') (ih nb.2)
 |b::bs,_,i+1,d,u',n,.cons r t,e,g,k=>by
  have e':bs[i]? =some d:=by simpa using e
  refine .cons (k _ _ (λz=>?_) r) (Paired.setG (Jq.mp n).2 t e' g k)
  subst z;exact(Jq.mp n).1 (KJ e')
theorem Paired.app {α β:Type}{F:α->β->Prop}{x:α}{y:β}: ∀ {l:List α} {m:List β},Paired F l m->F x y->Paired F (l++[x]) (m++[y])
 |_,_,.nil,h=>.cons h .nil
 |_,_,.cons r t,h=>.cons r (Paired.app t h)
section
variable {K:Il}{c:Ct}{hid:a7}{ρ:aA}{σ:St}{H:Hp}{a:Addr}
theorem SR.ddk(h:SR K c hid ρ σ H){i:Nat}{kvs:ca}(e:eZ i ρ=some kvs): ∃a us bs,σ[i]? =some (some (.ref a))/\(hid a=true/\c.H₀ a=none)/\H a=some (.dT us)/\EM us bs kvs/\bs.Nodup/\Paired (Cz c hid H a) bs (kvs.map (·.2)):=by
 obtain⟨a,h1,h2,us,bs,h3,h4,h5,h6,h7⟩:=h.sl i _ (bS e)
 exact⟨a,us,bs,h1,h2,h3,⟨h4,h5⟩,h6,h7⟩
theorem SR.putDD {i q:Nat}{kvs:ca}{ks:List Int}{m m':List (Int×Int)}{us:List (List aM×V)}{bs:List Addr}{d:Addr}(h:SR K c hid ρ σ H)(hg:eZ i ρ=some kvs)(ha:σ[i]? =some (some (.ref a)))(hb:H a=some (.dT us))(dp:EM us bs kvs)(nd:bs.Nodup)(pr:Paired (Cz c hid H a) bs (kvs.map (·.2)))(hd:bs[q]? =some d)(hk:kvs[q]? =some (ks,m)):
 SR K c hid (ρ.set i (.ob (.dd (kvs.set q (ks,m'))))) σ (aI H d (.nst a (.dK (jh m')))):=by
 obtain⟨a2,g1,g2,_⟩:=h.sl i _ (bS hg)
 rw[ha] at g1;cases g1;obtain⟨d',e1,x1⟩:=L2.Paired.get pr (i:=q) (y:=m) (by rw[Jd,hk];rfl)
 rw[hd] at e1;cases e1;have ne:a≠d:=λe=>by subst e;have z:=x1.2;rw[hb] at z;cases z
 refine h.putO (bS hg) trivial trivial ha (.inr ⟨_,x1.2⟩) x1.1.1 x1.1.2 nofun ⟨g2,us,bs,by rw[af ne];exact hb,?_,dp.2,nd,?_⟩
 ·rw[dp.1]
  refine Lg λj=>?_
  rw[Jd,Jd,NQ];split
  ·rename_i e;subst e
   have lt:=(IA.mp hk).1
   rw[if_pos lt,hk];rfl
  ·rfl
 ·rw[To]
  exact Paired.setG nd pr hd ⟨x1.1,ah⟩ λb u n r=>⟨r.1,by rw[af n];exact r.2⟩
end
section
variable {X:Cx}{c:Ct}{k:Kd}{pos pos' p:Pos}{x:Str}
def Fs(i:Nat):FS:=λρ=>.nx (ρ.set i (.ob (.dd [])))
theorem Eg(i:Nat)(hn:X.N.Nodup)(hi:X.N[i]? =some x:=by rfl)(hx:rO X.env.scope x:=by first|exact Jp rfl|exact IQ rfl)(hs:JU (.Dict [] [] p) (some (.Name x pos')) pos.line X.env=pure false:=by rfl)
 (hf:X.fn x=true\/X.env.scope.names.lookup x=some .local:=by first|exact .inl rfl|exact .inr rfl|assumption):DS X c k (.Assign [.Name x pos'] (.Dict [] [] p) pos) (Fs i):=λρ=>PS.imp (fM hn hi hx zW hs hf) λD σ H hq_=>by
 obtain⟨hid,sr,q⟩:=hq_
 intro a ha;have sm:=aF ha (.dT [])
 have nf:=sr.fresh ha
 refine q _ _ (aJ hid a) (SR.setD (a:=a) (b:=.dd []) (sr.hide sm ha ah) ⟨⟨bf,sr.fresh0 ha⟩,[],[],ah,rfl,rfl,KM,.nil⟩ (sr.notOw nf) i) λb o w=>?_
 obtain⟨w1,w2⟩:=vw_some.mp w
 refine vw_some.mpr ⟨?_,sm b o w2⟩
 unfold aJ;rw[w1];have:b≠a:=aQ w2 ha
 simp[this]
end
section
variable {X:Cx}{c:Ct}{py:Pos}{y:Str}{tg:Expr}
def F2(i:Nat):FA:=λρ=>(j3 i ρ).map λkvs=>kvs.map λz=>eJ z.1
theorem Ba(i:Nat)(hN:X.N[i]? =some y:=by rfl)(hv':jw X.env.scope y:=by first|exact Jp rfl|exact IQ (Jp rfl)|exact IQ (IQ rfl))(hd:(y==("__debug__":Str))=false:=by decide)(hcd:(y==("__classdict__":Str))=false:=by decide):
 DIp X c tg (.Name y py) (F2 i):=λhid ρ=>PI.imp (C1 (pv i hN hv' hd hcd)) λσ H R hq_=>by
 obtain⟨sr,ds,e,q⟩:=hq_
 obtain⟨kvs,e0,rfl⟩:=Jr.mp e
 obtain⟨a,a1,o,us,bs,a2,a3,a4,a5⟩:=sr.sl i _ (gp e0)
 have hh:H a=some (.frz o (.dT us)):=bF _ _ _ _ a2
 refine⟨.ref a,a1,a,o,us,rfl,hh,λxs kt=>?_⟩
 have ky:=zj (kss:=kvs.map (·.1)) kt (by rw[a3,Jl];rfl)
 have rr:=qZ (K:=X.K) sr.ht ky
 have er:(kvs.map (·.1)).map eJ=kvs.map λz=>eJ z.1:=by rw[Jl];rfl
 rw[er] at rr;have ll:=rr.length
 refine q _ H (Same.refl _) ⟨λj d H2 hj s=>?_,λH2 s=>⟨s _ _ a2,ll.symm⟩⟩
 obtain⟨v,h1,h2⟩:=rr.get hj
 have hlt:j<(xs.map λx=>V.ref x.2.1).length:=(IA.mp h1).1
 refine⟨⟨s _ _ a2,hlt⟩,λx H' ⟨g1,g2⟩=>?_⟩
 subst g1;rw[h1] at g2;cases g2;exact⟨Same.refl _,λhid' _ sw=>h2.mono sw⟩
end
set_option maxHeartbeats 1000000
abbrev jD(m:List (Int×Int)):mi:=m.map λq=>(IU q.1,D.int q.2)
def kU:mi->Option (List (Int×Int))
 | []=>some []
 |(.inl k,.int v)::r=>(kU r).map ((k,v):: ·)
 |_=>none
theorem l8: ∀ {A:mi} {m:List (Int×Int)},kU A=some m->A=jD m
 | [],_,h=>by cases h;rfl
 |(.inl k,.int v)::r,m,h=>by
  obtain⟨m',e,rfl⟩:=Jr.mp (show(kU r).map ((k,v):: ·)=some m from h)
  rw[l8 e];rfl
theorem jL {K:Il}{W:Hp}: ∀m:List (Int×Int),Reps K W ((jh m).map (·.2)) ((jD m).map (·.2))
 | []=>.nil
 |q::m=>.cons .int (jL m)
theorem mH(m:List (Int×Int)):(jh m).map (·.1)=(jD m).map (·.1):=by
 unfold jh jD;rw[Jl,Jl];rfl
theorem Ec {K:Il}{W:Hp}(m:List (Int×Int)):KRl K W (jh m) (jD m):=⟨mH m,jL m⟩
theorem iD {K:Il}{W:Hp}: ∀ {us:List (aM×V)} {m:List (Int×Int)},KRl K W us (jD m)->us=jh m
 |us,[],h=>by
  rcases h.inv with⟨e,_⟩|⟨_,_,_,_,_,_,e,_⟩
  ·exact e
  ·cases e
 |us,q::m,h=>by
  rcases h.inv with⟨_,e⟩|⟨k,v,us',d,kvs',e1,e2,r,rs⟩
  ·cases e
  ·have e2:(IU q.1,D.int q.2)::jD m=(k,d)::kvs':=e2
   injection e2 with g1 g2
   injection g1 with g1 g3
   subst g1 g3 g2 e1;cases r
   rw[iD rs];rfl
theorem Av {K:Il}{W:Hp}{b:Addr}{m:List (Int×Int)}(h:GR W b m):DRd K W b (jD m):=by
 obtain⟨o,h⟩:=h
 exact⟨o,jh m,h,mH m,jL m⟩
theorem lM {H:Hp}{a b:Addr}{o u:HO}(h:a≠b):aI (aI H a o) b u=aI (aI H b u) a o:=by
 funext x
 by_cases e1:x=b
 ·subst e1
  rw[ah,af (IT h),ah]
 ·rw[af e1]
  by_cases e2:x=a
  ·subst e2;rw[ah,ah]
  ·rw[af e2,af e2,af e1]
theorem zH {us:List (List aM×V)}{k:List aM}{v:V}(h:cR us k=none):eL us k v=us++[(k,v)]:=by
 unfold eL;rw[if_neg];intro q;obtain⟨z,hz,e⟩:=Oi.mp q
 have e:z.1=k:=by simpa using e
 unfold cR at h;rw[Option.map_eq_none_iff,PX] at h;exact h z hz (by simpa using e)
theorem yK {l:aA}{i:Nat}{x:Sl}(h:l[i]? =some x):l.set i x=l:=by
 refine Lg λj=>?_
 rw[NQ];split
 ·rename_i e;subst e
  rw[if_pos (IA.mp h).1,h]
 ·rfl
def gS(kvs:ca)(ks:List Int):ca×Nat:=match pF kvs ks with
 |some q=>(kvs,q)
 |none=>(kvs++[(ks,[])],kvs.length)
def G5(M:mi->mi->D->D->Option mi)(A B:List (Int×Int))(d1 d3:D):Option (List (Int×Int)):=(M (jD A) (jD B) d1 d3).bind kU
def yT(i j m:Nat)(kvs:ca)(ρ:aA):aA:=((ρ.set m .no).set i (.ob (.dd kvs))).set j .no
def nR(i j m im ic:Nat)(fk:aA->Option (List Int))(M:mi->mi->D->D->Option mi)(fe fs:FE):FS:=λρ=>match eZ i ρ,fk ρ with
 |some kvs,some ks=>if kvs.length<=1000/\m<ρ.length/\j<ρ.length then(match j3 im (yT i j m (gS kvs ks).1 ρ),(ao ic (yT i j m (gS kvs ks).1 ρ)).bind AM,fe (yT i j m (gS kvs ks).1 ρ),fs (yT i j m (gS kvs ks).1 ρ),(gS kvs ks).1[(gS kvs ks).2]? with
  |some mins,some ck,some de,some dg,some kA=>(match (pF mins ck).bind λq=>mins[q]? with
   |some kB=>(match G5 M kA.2 kB.2 de dg with
    |some A'=>.nx ((yT i j m (gS kvs ks).1 ρ).set i (.ob (.dd ((gS kvs ks).1.set (gS kvs ks).2 (ks,A')))))
    |none=>.no)
   |none=>.no)
  |_,_,_,_,_=>.no) else .no
 |_,_=>.no
structure Sd(K:Il)(c:Ct)(ρ1:aA)(i:Nat)(kvs1:ca)(q:Nat)(ks:List Int)(W:Hp)(σ:St)(H:Hp)(a d:Addr)(hid:a7)(us:List (List aM×V))(bs:List Addr)(A:List (Int×Int)):Prop where
 sr:SR K c hid ρ1 σ H
 sm:Same W (vw H hid)
 ha:σ[i]? =some (some (.ref a))
 hb:H a=some (.dT us)
 dp:EM us bs kvs1
 nd:bs.Nodup
 pr:Paired (Cz c hid H a) bs (kvs1.map (·.2))
 hd:bs[q]? =some d
 hk:kvs1[q]? =some (ks,A)
section
variable {X:Cx}{c:Ct}{k:Kd}{e0 ee es:Expr}{fk:aA->Option (List Int)}{fe fs:FE}{p1 p2 p3 p4 p5 p6 p7 p8 p9 p10 p11 p12 p13 p14 p15 p16:Pos}{xi xj xm xim xic y:Str}{ps:List Str}{l:Nat}
theorem mK {α:Type}{l:List α}{i j:Nat}{x:α}(h:i≠j):(l.set i x)[j]? =l[j]? :=Iv h
theorem xT(i j m im ic:Nat)(hij:i≠j)(him:i≠m)(hjm:j≠m){M:mi->mi->D->D->Option mi}(hn:X.N.Nodup)(hu:X.A.units+1<Ke)(hk:DK X c e0 fk)(C:Cl X.prog X.w X.K X.mg X.base l y ps (wV X.K M))(hr:Room l X.A)(he:DP X c .s ee fe)(hsg:DP X c .s es fs)
 (mm:M2 X (.Name xi p4) "setdefault" p5 (.Name xm p6) (.Dict [] [] p7) p8)
 (hNi:X.N[i]? =some xi:=by rfl) (hNj:X.N[j]? =some xj:=by rfl) (hNm:X.N[m]? =some xm:=by rfl) (hNim:X.N[im]? =some xim:=by rfl) (hNic:X.N[ic]? =some xic:=by rfl)
 (hLj:rO X.env.scope xj:=by first|exact Jp rfl|exact IQ rfl) (hLm:rO X.env.scope xm:=by first|exact Jp rfl|exact IQ rfl)
 (hVi:jw X.env.scope xi:=by first|exact Jp rfl|exact IQ (Jp rfl)|exact IQ (IQ rfl)) (hVj:jw X.env.scope xj:=by first|exact Jp rfl|exact IQ (Jp rfl)|exact IQ (IQ rfl)) (hVm:jw X.env.scope xm:=by first|exact Jp rfl|exact IQ (Jp rfl)|exact IQ (IQ rfl)) (hVim:jw X.env.scope xim:=by first|exact Jp rfl|exact IQ (Jp rfl)|exact IQ (IQ rfl)) (hVic:jw X.env.scope xic:=by first|exact Jp rfl|exact IQ (Jp rfl)|exact IQ (IQ rfl))
 (hb1:(xi==("__debug__":Str))=false:=by decide) (hb2:(xi==("__classdict__":Str))=false:=by decide) (hb3:(xj==("__debug__":Str))=false:=by decide) (hb4:(xj==("__classdict__":Str))=false:=by decide) (hb5:(xm==("__debug__":Str))=false:=by decide) (hb6:(xm==("__classdict__":Str))=false:=by decide) (hb7:(xim==("__debug__":Str))=false:=by decide) (hb8:(xim==("__classdict__":Str))=false:=by decide) (hb9:(xic==("__debug__":Str))=false:=by decide) (hb10:(xic==("__classdict__":Str))=false:=by decide)
 (hfj:X.fn xj=true\/X.env.scope.names.lookup xj=some .local:=by first|exact .inl rfl|exact .inr rfl|assumption) (hfm:X.fn xm=true\/X.env.scope.names.lookup xm=some .local:=by first|exact .inl rfl|exact .inr rfl|assumption)
 (hs0:JU e0 (some (.Name xm p1)) p2.line X.env=pure false:=by rfl) (hs1:JU (.Call (.Attribute (.Name xi p4) "setdefault" p5) [.Name xm p6,.Dict [] [] p7] [] p8) (some (.Name xj p3)) p9.line X.env=pure false:=by rfl)
 (hs2:JU (.Call (.Name y p10) [.Name xj p11,ee,.Subscript (.Name xim p12) (.Name xic p13) p14,es] [] p15) none p16.line X.env=pure false:=by rfl)
 (hg:Gl X y:=by rfl) (hdb:(y==("__debug__":Str))=false:=by decide)
 (h1:Iu [.Name xj p11,ee,.Subscript (.Name xim p12) (.Name xic p13) p14,es] X.env=(false,eval (.Name xj p11) X.env)::Iu [ee,.Subscript (.Name xim p12) (.Name xic p13) p14,es] X.env:=by rfl)
 (h2:Iu [ee,.Subscript (.Name xim p12) (.Name xic p13) p14,es] X.env=(false,eval ee X.env)::Iu [.Subscript (.Name xim p12) (.Name xic p13) p14,es] X.env:=by rfl)
 (h3:Iu [.Subscript (.Name xim p12) (.Name xic p13) p14,es] X.env=(false,eval (.Subscript (.Name xim p12) (.Name xic p13) p14) X.env)::Iu [es] X.env:=by rfl)
 (h4:Iu [es] X.env=(false,eval es X.env)::Iu [] X.env:=by rfl)
 (hpl:(Ko p15 (Iu [ee,.Subscript (.Name xim p12) (.Name xic p13) p14,es] X.env)).any (·.1)=false:=by rfl) (hns:wI (.Name xic p13):=by exact λ_ _=>rfl):
 tt X c k [.Assign [.Name xm p1] e0 p2,.Assign [.Name xj p3] (.Call (.Attribute (.Name xi p4) "setdefault" p5) [.Name xm p6,.Dict [] [] p7] [] p8) p9,.Expr (.Call (.Name y p10) [.Name xj p11,ee,.Subscript (.Name xim p12) (.Name xic p13) p14,es] [] p15) p16] (nR i j m im ic fk M fe fs):=λρ=>by
 obtain⟨f,fd,F,hm,hkp,hb⟩:=C.ex
 refine PSs.imp (jF (fM hn hNm hLm (iC λhid=>hk hid ρ) hs0 hfm) (jF (PS.post (fM hn hNj hLj (BC hu (pv i hNi hVi hb1 hb2) (pv m hNm hVm hb5 hb6) mE mm) hs1 hfj)) (pj (vd (iX F hr hg hm hkp hb .nil (nW (X:=X)) (be (pv j hNj hVj hb3 hb4) (be (iC λz:a7×aA=>he z.1 z.2) (be (Dl hu (pv im hNim hVim hb7 hb8) (pv ic hNic hVic hb9 hb10) hns) (be (iC λz:a7×aA=>hsg z.1 z.2) cy h4) h3) h2) h1) hdb h1 hpl) hs2)))) λD σ H hq_=>?_
 obtain⟨hid,sr,q⟩:=hq_
 unfold nR at q;split at q
 ·rename_i kvs ks e1 e2
  split at q
  ·rename_i hz
   split at q
   ·rename_i mins ck de dg kA g1 g2 g3 g4 g5
    split at q
    ·rename_i kB g6
     split at q
     ·rename_i A' g7
      obtain⟨hz,lm,lj⟩:=hz
      obtain⟨a,us,bs,a1,a2,a3,a4,a5,a6⟩:=sr.ddk e1
      obtain⟨A1,g7,g8⟩:=Iq.mp g7
      have g9:=l8 g8
      subst g9;refine⟨hid,sr,ks,e2,λb H1 s1 hb=>?_⟩
      have sr1:SR X.K c hid (ρ.set m .no) (σ.set m (some (.ref b))) H1:=(sr.ext s1).setNo m _
      have i1:(σ.set m (some (V.ref b)))[i]? =some (some (.ref a)):=by rw[mK (IT him)];exact a1
      have gi1:eZ i (ρ.set m .no)=some kvs:=by unfold eZ;rw[mK (IT him),bS e1]
      obtain⟨a',us1,bs1,c1,c2,c3,c4,c5,c6⟩:=sr1.ddk gi1
      rw[i1] at c1;cases c1;have mb:(σ.set m (some (V.ref b)))[m]? =some (some (.ref b)):=ID (by rw[sr.len];exact lm)
      have lu1:us1.length=kvs.length:=by have:=congrArg LY c4.1;simpa using this
      have lb1:bs1.length=kvs.length:=by have:=congrArg LY c4.2;simp at this;omega
      have jd: ∀d:Addr,((σ.set m (some (V.ref b))).set j (some (V.ref d)))[j]? =some (some (.ref d)):=λd=>ID (by rw[Mj,sr.len];exact lj)
      have cont: ∀(H2:Hp) (hid2:a7) (d:Addr) (us2:List (List aM×V)) (bs2:List Addr) (A:List (Int×Int)),Sd X.K c (yT i j m (gS kvs ks).1 ρ) i (gS kvs ks).1 (gS kvs ks).2 ks (vw H hid) ((σ.set m (some (V.ref b))).set j (some (V.ref d))) H2 a d hid2 us2 bs2 A->
       (Ck (Cy (wV X.K M) [] E0 (λσ H Q=>zN j σ H λv H1=>(∃z:a7×aA,Cv X.K c z.1 .s fe z.2 σ H1 λv2 H2=>E2 X.K (zN im) (zN ic) σ H2 λv3 H3=> ∃z:a7×aA,Cv X.K c z.1 .s fs z.2 σ H3 λv4 H4=>Q [v,v2,v3,v4] H4)))) D ((σ.set m (some (V.ref b))).set j (some (V.ref d))) H2:=λH2 hid2 d us2 bs2 A S=>by
       have eA:kA=(ks,A):=by have z:=S.hk;rw[g5] at z;exact Je z
       subst eA;refine⟨.ref d,jd d,(hid2,_),S.sr,de,g3,λv1 H3 s3 r3=>?_⟩
       have sr3:=S.sr.ext s3
       obtain⟨am,m1,o,usm,bsm,m2,m3,m4,m5⟩:=sr3.sl im _ (gp g1)
       obtain⟨dk,n1,n2⟩:=Iq.mp g2
       have n3:=wO n2
       subst n3;have n4:(yT i j m (gS kvs ks).1 ρ)[ic]? =some (.v (.tup (ck.map L2.D.int))):=by
        unfold ao at n1;split at n1
        ·rename_i d' e';cases n1;exact e'
        ·cases n1
       obtain⟨x,n5,n6⟩:=sr3.sl ic _ n4
       cases n6 with
       | @tup bc xs _ sq rr=>
         have ex:=qW rr
         subst ex;obtain⟨qB,gB,gB2⟩:=Iq.mp g6
         rcases j5 ck (us:=usm) (bs:=bsm) (kvs:=mins) ⟨m3,m4⟩ with⟨w1,_⟩|⟨q',b',m',w1,w2,w3,w4⟩
         ·rw[w1] at gB;cases gB
         rw[w1] at gB;cases gB;rw[w3] at gB2;cases gB2;obtain⟨b'',w5,w6⟩:=L2.Paired.get m5 (i:=qB) (y:=m') (by rw[Jd,w3];rfl)
         rw[w2] at w5;cases w5;refine⟨.ref am,m1,.ref bc,n5,am,bc,usm,ck.map IU,.ref b',rfl,rfl,.inr ⟨o,bF _ _ _ _ m2⟩,Same.seqT (bF _ _) sq,w4,(hid2,_),sr3,dg,g4,λv4 H4 s4 r4=>?_⟩
         have sr4:=sr3.ext s4
         obtain⟨d',x1,x2⟩:=L2.Paired.get S.pr (i:=(gS kvs ks).2) (y:=A) (by rw[Jd,S.hk];rfl)
         rw[S.hd] at x1;cases x1;have s34:=s3.trans s4
         have hd4:H4 d=some (.nst a (.dK (jh A))):=s34 _ _ x2.2
         show wV X.K M ([.ref d,v1,.ref b',v4]++[]) H4 _ E0;rw[JF];have r3:Rep X.K (vw H3 hid2) v1 de:=r3
         refine⟨hid2,d,b',v1,v4,a,jh A,jD A,jD m',de,dg,rfl,sr4.trk,x2.1.1,hd4,Ec A,r3.mono (aD s4),Av (by obtain⟨o2,w6⟩:=w6;exact⟨o2,aD s4 _ _ w6⟩),r4,_,g7,λH5 us' kp hx kr=>?_⟩
         have eu:=iD kr
         subst eu;have sG:Same H4 (aI H5 d (.nst a (.dK (jh A)))):=λx o w=>by
          by_cases e:x=d
          ·subst e;rw[ah];rw[hd4] at w;exact w
          ·rw[af e];exact kp x o w e
         have sr5:=sr4.ext sG
         have sA:Same H2 (aI H5 d (.nst a (.dK (jh A)))):=s34.trans sG
         have gi:eZ i (yT i j m (gS kvs ks).1 ρ)=some (gS kvs ks).1:=by
          unfold eZ yT;have li:i<(ρ.set m Sl.no).length:=by rw[Mj];exact(IA.mp (bS e1)).1
          rw[mK (IT hij),ID li]
         have pr5:Paired (Cz c hid2 (aI H5 d (.nst a (.dK (jh A)))) a) bs2 ((gS kvs ks).1.map (·.2)):=Paired.mapP S.pr λx y z=>⟨z.1,sA _ _ z.2⟩
         have fin:=sr5.putDD (m':=A') gi S.ha (sA _ _ S.hb) S.dp S.nd pr5 S.hd S.hk
         have eH:aI (aI H5 d (.nst a (.dK (jh A)))) d (.nst a (.dK (jh A')))=H5:=by
          rw[jW];funext x
          by_cases e:x=d
          ·subst e;rw[ah,hx]
          ·rw[af e]
         rw[eH] at fin;refine q _ H5 hid2 fin (S.sm.trans ?_)
         have vv:vw H5 hid2=vw (aI H5 d (.nst a (.dK (jh A)))) hid2:=(bH x2.1.1).symm
         rw[vv];exact aD sA
      have nb: ∀x o,H1 x=some o-> ∀p,H1 p=none->x≠p:=λx o w p hp e=>by subst e;rw[hp] at w;cases w
      refine⟨.ref a,i1,a,rfl,.inr ⟨us1,.inl c3⟩,.ref b,mb,λp hp=>⟨us1,ks.map IU,b,rfl,by rw[af (nb _ _ c3 p hp)];exact c3,by rw[af (nb _ _ hb p hp)];rw[Jl];exact hb,by rw[lu1];exact JA hz (by decide),λv hv=>?_,λhv=>?_⟩⟩
      ·intro aa s I
       rcases j5 ks c4 with⟨_,w⟩|⟨q0,b0,m0,f1,f2,f3,f4⟩
       ·rw[w] at hv;cases hv
       ·rw[f4] at hv;cases hv
        refine⟨_,I,cont _ hid b0 us1 bs1 m0 ?_⟩
        have esd:gS kvs ks=(kvs,q0):=by unfold gS;rw[f1]
        have sm:=aF hp (.dK [])
        rw[esd];refine⟨?_,(aD s1).trans (aD sm),by rw[mK (IT hij)];exact i1,sm _ _ c3,c4,c5,Paired.mapP c6 λx y z=>⟨z.1,sm _ _ z.2⟩,f2,f3⟩
        unfold yT;rw[yK (bS gi1)];exact(sr1.ext sm).setNo j _
      ·intro aa s I
       rcases j5 ks c4 with⟨f1,_⟩|⟨q0,b0,m0,f1,f2,f3,f4⟩
       ·have nap:a≠p:=nb _ _ c3 p hp
        have esd:gS kvs ks=(kvs++[(ks,[])],kvs.length):=by unfold gS;rw[f1]
        have hp2:aI (aI H1 p (.dK [])) a (.dT (eL us1 (ks.map IU) (.ref p))) p=some (.dK []):=by rw[af (IT nap),ah]
        refine⟨_,I.nest (p:=a) hp2 trivial,?_⟩
        have eH:aI (aI (aI H1 p (.dK [])) a (.dT (eL us1 (ks.map IU) (.ref p)))) p (.nst a (.dK []))=aI (aI H1 p (.nst a (.dK []))) a (.dT (us1++[(ks.map IU,.ref p)])):=by
         rw[zH hv,lM nap,jW]
        rw[eH];have sm:=aF hp (.nst a (.dK []))
        have srG:=sr1.hide sm hp ah
        have nbp:p∉bs1:=λhm=>by
         obtain⟨y,z⟩:=L2.Paired.mem c6 hm
         exact nb _ _ z.2 p hp rfl
        have dp':EM (us1++[(ks.map IU,.ref p)]) (bs1++[p]) (kvs++[(ks,[])]):=⟨by rw[Jv,Jv,c4.1];rfl,by rw[Jv,Jv,c4.2];rfl⟩
        have nd':(bs1++[p]).Nodup:=Li.mpr ⟨c5,by simp,λx hx y hy=>by rw[IN.mp hy];exact λe=>nbp (e▸hx)⟩
        have pr':Paired (Cz c (aJ hid p) (aI (aI H1 p (.nst a (.dK []))) a (.dT (us1++[(ks.map IU,.ref p)]))) a) (bs1++[p]) ((kvs++[(ks,[])]:ca).map (·.2)):=by
         rw[Jv];refine Paired.app (Paired.mapP c6 λx y z=>⟨⟨aO z.1.1,z.1.2⟩,?_⟩) ⟨⟨bf,sr1.fresh0 hp⟩,?_⟩
         ·have n1:x≠a:=λe=>by have w:=z.2;rw[e,c3] at w;cases w
          rw[af n1];exact sm _ _ z.2
         ·rw[af (IT nap),ah];rfl
        have srP:=srG.putO (bS gi1) trivial trivial i1 (.inl rfl) (aO c2.1) c2.2 nofun (b':=.dd (kvs++[(ks,[])])) (o':=.dT (us1++[(ks.map IU,.ref p)])) ⟨⟨aO c2.1,c2.2⟩,_,bs1++[p],ah,dp'.1,dp'.2,nd',pr'⟩
        refine cont _ (aJ hid p) p (us1++[(ks.map IU,.ref p)]) (bs1++[p]) [] ?_
        rw[esd];refine⟨srP.setNo j _,?_,by rw[mK (IT hij)];exact i1,ah,dp',nd',pr',by rw[IX (by omega),lb1];simp,by rw[IX (by omega)];simp⟩
        rw[bH (aO c2.1),mI hp];exact aD s1
       ·rw[f4] at hv;cases hv
     ·exact q.elim
    ·exact q.elim
   ·exact q.elim
  ·exact q.elim
 ·exact q.elim
end
end L2
namespace PySem
open Sem (wp)
open AutoSeq1 (wpAny_loadPart')
section
variable {prog:IP}{w:Jo}{A:Jc}{E:Ia->Ic->Prop}{s:Ic}
theorem nn {Q:List Ia->Ic->Prop}{r:Addr}{a b c:Int}{t u v:Tok}{n:Nat}(hh:A.handled=none)(hr:IsRange s.heap r a b c t u v)(hsmall:Ng a b c=true)
 (hn:Kr a b c=n) (hlen:n<=2^24)
 (hQ: ∀h' tk (acc:Array Ia),(∀b o,s.heap.get? b=some o->h'.get? b=some o)->Po (λi v=> ∃t,v=.int (a+i*c) t) acc n->Q acc.toList {s with heap:=h',toks:=tk}):
 II (model prog w) A (Qg (.ref r)) Q E s:=by
 unfold Qg;refine HZ (O8 (LJ MN ?_))
 rw[KL MO _];show II _ A.in1 (Ox []>>=λl=>OI (.builtin "list.__iadd__" ⟨[l,.ref r],[]⟩)) _ _ s
 refine HZ (Jw ?_)
 refine Ih ⟨PD Lf _,LJ NN ?_⟩
 rw[KL Lf _];have hS₁:(s.heap.push {cls:=.type "list",data:=.seq ([]:List Ia).toArray}).get? s.heap.objs.size=some {cls:=.type "list",data:=.seq #[]}:=Io _ rfl
 show II _ A.in1 (LV (.ref s.heap.objs.size) (.ref r) (.ref s.heap.objs.size)) _ _ _;have key:=wpAny_extend_range (prog:=prog) (w:=w) (A:=A) (s:={s with heap:=s.heap.push {cls:=.type "list",data:=.seq ([]:List Ia).toArray}})
  (R:=λ(q:Nm) (s':Ic)=> ∃(h':Heap) (tk:Nat) (acc':Array Ia) (c':Nat),q=.ok (.ret (.ref s.heap.objs.size))/\s'={s with heap:=h',toks:=tk}/\
    (∀b o,s.heap.get? b=some o->h'.get? b=some o)/\h'.get? s.heap.objs.size=some {cls:=.type "list",dict:=none,data:=.seq acc' c',slots:= #[]}/\Po (λi v=> ∃t,v=.int (a+i*c) t) acc' n)
  hh (Ib _ hr) hsmall hn hlen s.heap.objs.size (.ref s.heap.objs.size) 0 hS₁
  (λh' tk acc' c' hk hS' hacc=>⟨h',tk,acc',c',rfl,rfl,λb o e=>hk b o (IV (Ix e)) (Ib _ e),hS',hacc⟩)
 refine Ji key (λfin s' x=>?_) λe s' x=>?_
 ·cases fin with
  |done f=>
   obtain⟨h',tk,acc',c',e,rfl,hk,hS',hacc⟩:=x
   cases e
   show II _ A (load s.heap.objs.size>>=_) _ _ _;refine HZ (Oo hS' ?_)
   refine Ih ?_
   exact hQ h' tk acc' hk hacc
  |again c₁=>
   refine⟨x.1,L6 x.2 λq s₂ y=>?_⟩
   obtain⟨h',tk,acc',c',rfl,rfl,hk,hS',hacc⟩:=y
   show II _ A (load s.heap.objs.size>>=_) _ _ _;refine HZ (Oo hS' ?_)
   refine Ih ?_
   exact hQ h' tk acc' hk hacc
 ·obtain⟨_,_,_,_,e',_⟩:=x
  cases e'
end
theorem gR(r:Addr)(a b c:Int)(t u v:Tok)(n:Nat)(hsmall:Ng a b c=true)(hn:Kr a b c=n)(hlen:n<=2^20):
 Meets (NK.«tuple.__new__» ⟨[.type "tuple",.ref r],[]⟩)
  (λA R s=>A.handled=none/\IsRange s.heap r a b c t u v/\ ∀(s':Ic) (acc:Array Ia),(∀b o,s.heap.get? b=some o->s'.heap.get? b=some o)->s'.gens=s.gens->s'.drawn=s.drawn->s'.os=s.os->Po (λi v=> ∃t,v=.int (a+i*c) t) acc n->
    R (.ok (.ret (.ref s'.heap.objs.size))) {s' with heap:=s'.heap.push {cls:=.type "tuple",data:=.seq acc}}):=
 .of_wp λprog w A R s h=>by
  obtain⟨hh,hr,h⟩:=h
  have hsub:=sub_tuple_self
  have hinit:=init_tuple_lookup
  have hmh:=madeHere_tuple
  have hT:s.TypeIs (.ref r) "range":=⟨_,hr,rfl⟩
  have hh1:A.in1.handled=none:=hh
  wp_walk using Ot hT,nn hh1 hr hsmall hn (Jk hlen (by decide))
  intro h' tk acc hk hacc;show II _ _ (Kk acc.toList.toArray>>=λv=>ret v) _ _ _
  unfold Kk;refine HZ (Jw ?_ (show acc.toList.toArray.size<=Iy by simp only[Array.toArray_toList];rw[hacc.1,JY];omega))
  refine Ih ⟨_,rfl,?_⟩
  have e:acc.toList.toArray=acc:=by simp
  rw[e];exact h {s with heap:=h',toks:=tk} acc hk rfl rfl rfl hacc
section
variable {prog:IP}{w:Jo}{A:Jc}{E:Ia->Ic->Prop}{s:Ic}
theorem kK {Q:Ia->Ic->Prop}{r:Addr}{a b c:Int}{t u v:Tok}{n:Nat}(hh:A.handled=none)(hr:IsRange s.heap r a b c t u v)(hsmall:Ng a b c=true)(hn:Kr a b c=n)(hlen:n<=2^20)
 (h: ∀(h':Heap) (tk:Nat) (acc:Array Ia),(∀b o,s.heap.get? b=some o->h'.get? b=some o)->Po (λi v=> ∃t,v=.int (a+i*c) t) acc n->Q (.ref h'.objs.size) {s with heap:=h'.push {cls:=.type "tuple",data:=.seq acc},toks:=tk}):
 II (model prog w) A (call (.type "tuple") [.ref r]) Q E s:=by
 refine Qj F.called_tuple (by decide) (F.typeCall_tuple_1 _) (F.newCall_tuple_1 _) (λobj=>M4 obj _) F.entry_tuple_new
  (gR r a b c t u v n hsmall hn hlen) ⟨hh,hr,λs' acc hk hg hd hos hacc=>⟨⟨_,Io _ rfl,rfl⟩,?_⟩⟩
 obtain⟨h',g',d',tk',os'⟩:=s'
 have e1:g'=s.gens:=hg
 have e2:d'=s.drawn:=hd
 have e3:os'=s.os:=hos
 subst e1 e2 e3;exact h h' tk' acc hk hacc
end
end PySem
namespace L2
open PySem PySem.Spec PyProof.Rows
theorem zT {lo:Int}: ∀(l:List Ia) (k m:Nat),l.length=m->(∀(j:Nat) v,l[j]? =some v-> ∃t,v=.int (lo+((k+j:Nat):Int)*1) t)->Vals ((U9 k m).map λ(i:Nat)=>V.int (lo+i)) l:=by
 intro l
 induction l with
 |nil=>intro k m hm _;subst hm;exact .nil
 |cons x l ih=>
  intro k m hm hv;subst hm;rw[IK,QH];refine .cons ?_ (ih (k+1) l.length rfl λj v e=>?_)
  ·obtain⟨t,rfl⟩:=hv 0 x rfl
   exact⟨t,by simp⟩
  ·obtain⟨t,rfl⟩:=hv (j+1) v (by simpa using e)
   exact⟨t,by congr 3;omega⟩
section
variable {X:Cx}
theorem mf(hc:X.calm=true):eG X (.type "tuple") (λxs H Q=> ∃p lo hi,xs=[.ref p]/\H p=some (.rng lo hi)/\ -(2^30)<=lo/\lo<=2^30/\ -(2^30)<=hi/\hi-lo<=1000000/\hi<=2^31/\ ∀l,H l=none->Q (.ref l) (aI H l (.tup ((Iz (hi-lo).toNat).map λ(i:Nat)=>V.int (lo+i))))):=by
 intro aa s σ H xs us Q I r h;obtain⟨p,lo,hi,rfl,hp,b1,b2,b3,b4,b5,q⟩:=h
 obtain⟨u,rfl,rx⟩:=jc r
 cases rx
 obtain⟨t,u,v,hr⟩:=I.hok p _ hp
 have hsz:Kr lo hi 1=(hi-lo).toNat:=by
  unfold Kr;rw[if_pos (by decide)]
  split
  ·rw[SQ];omega
  ·omega
 refine kK (a:=lo) (b:=hi) (c:=1) (n:=(hi-lo).toNat) (I.ok.hd hc) hr (small_one (by omega) (by omega) (by omega) (by omega)) hsz (by omega) λh' tk acc kp hacc=>?_
 have hz:(hi-lo).toNat<=sizeLine:=by rw[JY];omega
 obtain⟨ha,hb⟩:=hacc
 have rv:=zT (lo:=lo) acc.toList 0 (hi-lo).toNat (by simpa using ha) λj v e=>by
  have:=hb j v (by simpa using e)
  simpa using this
 rw[<-Pi] at rv;have I1:Inv X aa σ H {s with heap:=h',toks:=tk}:=I.kept kp
 have eacc:acc.toList.toArray=acc:=by simp
 have I2:Inv X aa σ (aI H h'.objs.size (.tup ((Iz (hi-lo).toNat).map λ(i:Nat)=>V.int (lo+i)))) {s with heap:=h'.push {cls:=.type "tuple",data:=.seq acc},toks:=tk}:=by
  refine I1.laid (t':=tk) (h':=h'.push {cls:=.type "tuple",data:=.seq acc}) (λb o e=>Ib _ e) (Ie _) (show ObjOk X.prog X.w _ _ _ (.tup _) from⟨by simpa using hz,acc.toList,rv,?_,_,Io _ rfl,rfl⟩)
  rw[eacc];exact Qt _ _
 exact⟨.ref h'.objs.size,_,I2,rfl,q _ (I1.hok.fresh (Ie _))⟩
end
section
variable {X:Cx}{c:Ct}{e:Expr}{f:FE}{k:Kd}{p p2 p3 pos:Pos}
def Fu(f:FE):aA->Option (List Int):=λρ=>(f ρ).bind λd=>match d with
 | .int j=>if j.natAbs<=1000 then some ((Iz j.toNat).map λ(i:Nat)=>(i:Int)) else none
 |_=>none
theorem qM(hc:X.calm=true)(hml:X.mg "tuple"=none)(hmr:X.mg "range"=none)(he:DP X c k e f)(hgl:Gl X "tuple":=by rfl)(hgr:Gl X "range":=by rfl)(hvl:J5 "tuple"=some (.type "tuple"):=by kernel_rfl)(hvr:J5 "range"=some (.type "range"):=by kernel_rfl)
 (hs1:Iu [e] X.env=(false,eval e X.env)::Iu [] X.env:=by rfl) (hpl1:(Ko pos (Iu [] X.env)).any (·.1)=false:=by rfl) (hpl2:(Ko p2 (Iu [] X.env)).any (·.1)=false:=by rfl)
 (hs2:Iu [.Call (.Name "range" p3) [e] [] p2] X.env=(false,eval (.Call (.Name "range" p3) [e] [] p2) X.env)::Iu [] X.env:=by rfl):
 DK X c (.Call (.Name "tuple" p) [.Call (.Name "range" p3) [e] [] p2] [] pos) (Fu f):=λhid ρ=>
 PE.imp (fU (mf hc) hgl hml hvl (be (fU xh hgr hmr hvr (be (he hid ρ) cy hs1) (by decide) (by decide) hs1 hpl2) cy hs2) (by decide) (by decide) hs2 hpl1) λσ H Q hq_=>by
  obtain⟨sr,ns,hd,q⟩:=hq_
  obtain⟨d,e1,hd⟩:=Iq.mp hd
  cases d with
  |int j=>
   dsimp only at hd;split at hd
   ·rename_i hj
    cases hd
    refine⟨sr,_,e1,λv H1 s1 r1=>?_⟩
    have i1:=(RK.b k r1 λa n=>sr.fresh n).int
    subst i1;refine⟨j,rfl,λp hp=>⟨p,0,j,rfl,ah,by omega,by omega,by omega,by omega,by omega,λl hl=>?_⟩⟩
    have s2:=aF hp (.rng 0 j)
    have s3:=aF hl (.tup ((Iz (j-0).toNat).map λ(i:Nat)=>V.int (0+i)))
    refine q _ _ ((s1.trans s2).trans s3) ?_
    rw[ah,Int.sub_zero,Jl];congr 2
    refine JP λi _=>?_
    show V.int (0+(i:Int))=V.int i;rw[LH]
   ·cases hd
  |_=>cases hd
end
def CP(tk tv:TE):TE:=λσ H Q=> ∀p,H p=none->tk σ (aI H p (.dT [])) λx H1=>tv σ H1 λy H2=> ∃b ks,x=.ref b/\H2 b=some (.tup (ks.map kV))/\H2 p=some (.dT [])/\Q (.ref p) (aI H2 p (.dT [(ks,y)]))
theorem yL {X:Cx}{pos:Pos}{ek ev:Expr}{tk tv:TE}(hu:X.A.units+1<Ke)(hk:PE X ek tk)(hv:PE X ev tv):PE X (.Dict [some ek] [ev] pos) (CP tk tv):=by
 intro aa s σ H Q I q;have hn:=I.hok.fresh (Ie s.heap.objs.size)
 have I1:=I.laid (a:=s.heap.objs.size) (o:=.dT []) (h':=s.heap.push {cls:=.type "dict",data:=.dict #[]}) (t':=s.toks) (λ_ _ q=>Ib _ q) (Ie _) (ql s.heap I.big)
 refine wpAny_Dict_any rfl rfl (by simp) (by simp) (bm ((qo (pos:=pos) hk hv vV) aa _ σ _ (λps H2=>match ps with
  | [(x,y)]=> ∃b ks,x=.ref b/\H2 b=some (.tup (ks.map kV))/\H2 s.heap.objs.size=some (.dT [])/\Q (.ref s.heap.objs.size) (aI H2 s.heap.objs.size (.dT [(ks,y)]))
  |_=>False) I1 (q _ hn)) λws s2 ⟨ps,H2,I2,rel,hq⟩=>?_)
 cases rel with
 |nil=>exact hq.elim
 | @cons x w ps' ws' r rs=>
   cases rs with
   |cons r' rs'=>exact hq.elim
   |nil=>
    obtain⟨x,y⟩:=x
    obtain⟨b,ks,ex,eb,ed,q2⟩:=hq
    subst ex;obtain⟨wk,wv⟩:=w
    have ek:wk=JD b:=r.1
    subst ek;obtain⟨z,hd,xs,rl,dd⟩:=yr I2.hok ed
    cases rl
    unfold storeAll;rw[QZ];refine HZ (HZ (wpAny_dictSet_heap (hsz:=Jh _) (knd:=Mp (aZ X.prog X.w)) (show X.A.units<Ke by omega) (kq I2.hok eb) dd λh' dd' hs=>Ih ?_))
    dsimp only;rw[Rp];refine Ih ?_
    have rel':KTd H2 [(ks,y)] (Re [] ks b wv):=.cons ⟨rfl,eb,r.2⟩ .nil
    obtain⟨q',es,ep,hq',g2,g3,g4,_,g5⟩:=dd'
    refine⟨.ref s.heap.objs.size,_,jH (ob:=.dT [(ks,y)]) I2 (by rw[ed];exact True.intro) hs ⟨q',hq'⟩ (show ObjOk X.prog X.w (aI H2 s.heap.objs.size (.dT [(ks,y)])) h' s.heap.objs.size (.dT [(ks,y)]) from⟨(by show 1<=Iy;decide),hd,_,rel'.keeps λc ys ec=>?_,q',es,ep,hq',g2,g3,g4,g5⟩),rfl,q2⟩
    rw[af (ym ec ed (λz=>nomatch z))]
    exact ec
def Er(i:Nat):FS:=λρ=>.nx (ρ.set i (.ob (.dd [([],[(0,1)])])))
section
variable {X:Cx}{c:Ct}{k:Kd}{pos pos' p1 p2 p3 p4 p5:Pos}{x:Str}{x1 j1 j2:_}
theorem Do:PE X (.Dict [some (.Constant (.int 0) j1 p2)] [.Constant (.int 1) j2 p3] p4) (sF [(tC (.int 0),tC (.int 1))]):=Bd (X:=X) (keys:=[some (.Constant (.int 0) j1 p2)]) (values:=[.Constant (.int 1) j2 p3]) (qo (k:=.Constant (.int 0) j1 p2) (v:=.Constant (.int 1) j2 p3) ux ux vV) rfl rfl (by simp) (by simp)
structure QPE(X:Cx)(e:Expr)(t:TE):Prop where
 pe:PE X e t
theorem yw:QPE X (.Tuple [] x1 p1) (AE BD):=⟨tS (es:=[]) cy⟩
theorem BN:QPE X (.Dict [some (.Constant (.int 0) j1 p2)] [.Constant (.int 1) j2 p3] p4) (sF [(tC (.int 0),tC (.int 1))]):=⟨Do⟩
theorem C7(i:Nat){ek ev:Expr}(hn:X.N.Nodup)(hu:X.A.units+1<Ke)(hk:QPE X ek (AE BD))(hv:QPE X ev (sF [(tC (.int 0),tC (.int 1))]))(hi:X.N[i]? =some x:=by rfl)(hx:rO X.env.scope x:=by first|exact Jp rfl|exact IQ rfl)(hs:JU (.Dict [some ek] [ev] p5) (some (.Name x pos')) pos.line X.env=pure false:=by rfl)
 (hf:X.fn x=true\/X.env.scope.names.lookup x=some .local:=by first|exact .inl rfl|exact .inr rfl|assumption):DS X c k (.Assign [.Name x pos'] (.Dict [some ek] [ev] p5) pos) (Er i):=λρ=>by
 have h:=PS.post (fM (e:=.Dict [some ek] [ev] p5) (pos':=pos') (pos:=pos) hn hi hx (yL hu hk.pe hv.pe) hs hf)
 refine PS.imp h λD σ H hq_=>?_
 obtain⟨hid,sr,q⟩:=hq_
 intro a ha;refine⟨Jh _,λb hb p hp=>?_⟩
 have nba:b≠a:=λe=>by subst e;rw[ah] at hb;cases hb
 have npb:p≠b:=λe=>by subst e;rw[ah] at hp;cases hp
 have npa:p≠a:=λe=>by subst e;rw[af (IT nba),ah] at hp;cases hp
 rw[af npb,af npa] at hp;rw[af nba] at hb;refine⟨ah,[(IU 0,.int 1)],rfl,by decide,b,[],rfl,?_,?_,?_⟩
 ·rw[af (IT npb),af (IT npb),ah];rfl
 ·rw[af (IT npa),af (IT npa),af (IT nba),ah]
 ·intro aa s I
  have e0:kP [] [((IU 0:aM),V.int 1)]=jh [(0,1)]:=rfl
  rw[e0] at I;refine⟨_,I.nest (p:=a) (d:=p) (u:=.dK (jh [(0,1)])) (by rw[af npa,ah]) trivial,?_⟩
  have eH:aI (aI (aI (aI (aI (aI H a (.dT [])) b (.tup [])) p (.dK [])) p (.dK (jh [(0,1)]))) a (.dT [([],.ref p)])) p (.nst a (.dK (jh [(0,1)])))=aI (aI (aI H a (.dT [([],.ref p)])) b (.tup [])) p (.nst a (.dK (jh [(0,1)]))):=by
   rw[jW (a:=p),lM npa,jW (a:=p),lM nba,jW (a:=a)]
  show D.nx _ (aI (aI (aI (aI (aI (aI H a (.dT [])) b (.tup [])) p (.dK [])) p (.dK (jh [(0,1)]))) a (.dT [([],.ref p)])) p (.nst a (.dK (jh [(0,1)]))));rw[eH];have s1:=aF ha (.dT [([],.ref p)])
  have hb1:aI H a (.dT [([],.ref p)]) b=none:=by rw[af nba];exact hb
  have s2:=aF hb1 (.tup [])
  have hp1:aI (aI H a (.dT [([],.ref p)])) b (.tup []) p=none:=by rw[af npb,af npa];exact hp
  have s3:=aF hp1 (.nst a (.dK (jh [(0,1)])))
  have sr1:=sr.hide s1 ha ah
  have sr3:=(sr1.ext s2).hide s3 hp1 ah
  refine q _ _ (aJ (aJ hid a) p) (SR.setD (a:=a) (b:=.dd [([],[(0,1)])]) sr3 ⟨⟨aO bf,sr.fresh0 ha⟩,[([],.ref p)],[p],by rw[af (IT npa),af (IT nba),ah],rfl,rfl,by simp,.cons ⟨⟨bf,sr.fresh0 hp⟩,ah⟩ .nil⟩ (sr.notOw (sr.fresh ha)) i) λx o w=>?_
  obtain⟨w1,w2⟩:=vw_some.mp w
  refine vw_some.mpr ⟨?_,(s1.trans (s2.trans s3)) x o w2⟩
  unfold aJ;rw[w1];have n1:x≠a:=aQ w2 ha
  have n2:x≠p:=aQ w2 hp
  simp[n1,n2]
end
def oU(H:Hp):List (Addr×HO)->Hp
 | []=>H
 |p::r=>oU (aI H p.1 p.2) r
theorem jU {b:Addr}: ∀ {ps:List (Addr×HO)} {H:Hp},(∀p∈ps,b≠p.1)->oU H ps b=H b
 | [],H,_=>rfl
 |p::r,H,h=>by
  show oU (aI H p.1 p.2) r b=_;rw[jU λq hq=>h q (Ii _ hq),af (h p Is)]
theorem l6 {a:Addr}{o:HO}: ∀ {ps:List (Addr×HO)} {H:Hp},(ps.map (·.1)).Nodup->(a,o)∈ps->oU H ps a=some o
 | [],H,_,h=>absurd h Ks
 |p::r,H,n,h=>by
  rw[Ip,Jq] at n;show oU (aI H p.1 p.2) r a=_;rcases IC.mp h with e|h
  ·subst e
   rw[jU λq hq z=>n.1 (IE.mpr ⟨q,hq,z.symm⟩),ah]
  ·exact l6 n.2 h
section
variable {P:IP}{w:Jo}{h h':Heap}
theorem HOk.adopt {H:Hp}{a:Addr}{o:HO}(x:HOk P w H h)(hn:H a=none)(new: ∀G,ObjOk P w G h a o):HOk P w (aI H a o) h:=λb u e=>by
 by_cases eb:b=a
 ·subst eb;rw[ah] at e;cases e;exact new _
 ·rw[af eb] at e
  exact(x b u e).stay (λ_ _ _ z=>z) (λd z=>by rw[af (aQ z hn)];exact z) λd xs z=>by rw[af (aQ z hn)];exact z
theorem wm: ∀ {ps:List (Addr×HO)} {H:Hp},HOk P w H h->(ps.map (·.1)).Nodup->(∀p∈ps,H p.1=none)->(∀p∈ps,∀G,ObjOk P w G h p.1 p.2)->HOk P w (oU H ps) h
 | [],_,x,_,_,_=>x
 |p::r,H,x,n,hn,new=>by
  rw[Ip,Jq] at n;refine wm (ps:=r) (H:=aI H p.1 p.2) (x.adopt (hn p Is) (new p Is)) n.2 (λq hq=>?_) λq hq=>new q (Ii _ hq)
  rw[af λz=>n.1 (IE.mpr ⟨q,hq,z⟩)]
  exact hn q (Ii _ hq)
theorem CW {fs ex:List Addr}{H:Hp}{ps:List (Addr×HO)}(ok:HOk P w H h)(k: ∀b u,h.get? b=some u->h'.get? b=some u)(hp: ∀p∈ps,h.objs.size<=p.1):Un fs ex H (oU H ps) h h':=by
 have old: ∀b,b<h.objs.size->oU H ps b=H b:=λb hb=>jU λp hq z=>by rw[z] at hb;exact absurd hb (Lo.mpr (hp p hq))
 exact⟨λb o e _ _ _=>k b o e,λb o e _ _ _=>⟨o.slots,k b o e⟩,λb o e n _=>(old b (Ix e)).trans n,λb o e _=>⟨o,k b o e⟩,
  λb xs e=>(old b (ok.lt e)).trans e,λb o u e=>(old b (ok.lt e)).trans e,λb ps' e=>⟨#[],by rw[Array.append_empty];exact(old b (ok.lt e)).trans e⟩⟩
end
theorem jV: ∀as:List Addr,Vals (as.map V.ref) (as.map JD)
 | []=>.nil
 |_::as=>.cons rfl (jV as)
theorem yI: ∀ {kvs:List (aM×V)} {vs:List (aM×Ia)} {j:Nat} {y:aM×Ia},KV kvs vs->vs[j]? =some y-> ∃x,kvs[j]? =some x/\x.1=y.1/\RelV x.2 y.2
 |_,_,_,_,.nil,e=>by simp at e
 |_,_,0,_,.cons r _,e=>by simp at e;subst e;exact⟨_,rfl,r⟩
 |_,_,j+1,y,.cons _ t,e=>by
  obtain⟨x,h1,h2⟩:=yI (j:=j) (y:=y) t (by simpa using e)
  exact⟨x,by simpa using h1,h2⟩
theorem lJ {F:Addr->aM×V->Prop}: ∀ {as:List Addr} {kvs:List (aM×V)},as.length=kvs.length->(∀z∈as.zip kvs,F z.1 z.2)->Paired F as kvs
 | [],[],_,_=>.nil
 | [],_::_,h,_=>by cases h
 |_::_,[],h,_=>by cases h
 |a::as,k::kvs,h,f=>.cons (f (a,k) (by simp)) (lJ (by simpa using h) λz hz=>f z (by simp[hz]))
def C4(td:TE):TE:=λσ H Q=>td σ H λx H1=> ∃a kvs,x=.ref a/\Rd H1 a (.dK kvs)/\ ∀p,H1 p=none->Q (.ref p) (aI H1 p (.ext λh=>h.IsItemsView p a))
section
variable {X:Cx}{o:Expr}{apos cpos:Pos}{td:TE}
theorem yb(ho:PE X o td)(hbase:LK o "items" X.env (eval o X.env)=eval o X.env:=by rfl)(hline:(apos.endLine==cpos.line)=true:=by rfl):PE X (.Call (.Attribute o "items" apos) [] [] cpos) (C4 td):=by
 intro aa s σ H Q I h;refine wpAny_Call_method0_late hbase hline (bm (ho aa s σ H _ I h) λv s1 hq_=>?_)
 obtain⟨x,H1,I1,r1,a,kvs,ex,rd,q1⟩:=hq_
 subst ex;obtain rfl:v=JD a:=r1
 obtain⟨h1,h2,hd⟩:=tE I1 (.inl ⟨kvs,rd⟩)
 obtain⟨z,_,vs,rel,dd⟩:=mZ I1.hok rd
 refine⟨"dict","dict.items",Mu,Oj,PySem.F.type_dict_items,h1,h2,LA rfl (PySem.evalArgs_none (OC Oj h1 PySem.F.entry_dict_items (PySem.F.args_dict_items_1 _) (meets_dict_items (aZ X.prog X.w) a hd) ⟨⟨vs,dd⟩,?_⟩))⟩
 refine⟨.ref s1.heap.objs.size,_,I1.laid (t':=s1.toks) (o:=.ext λh=>h.IsItemsView s1.heap.objs.size a) (h':=s1.heap.push {cls:=.type "dict_items",data:=.fields #[.ref a]}) (λ_ _ e=>Ib _ e) (Ie _) ⟨⟨_,Io _ rfl,rfl,rfl⟩,⟨_,Io _ rfl⟩,λg1 g2 ⟨o,e,r⟩ k=>⟨o,k o e,r⟩⟩,rfl,q1 _ (I1.hok.fresh (Ie _))⟩
def C6:List V->Hp->VK->Prop:=λxs H Q=> ∃p a φ kvs,xs=[.ref p]/\H p=some (.ext φ)/\(∀h,φ h->h.IsItemsView p a)/\Rd H a (.dK kvs)/\
 ∀l H' (as:List Addr),H l=none->Same H H'->H' l=some (.lst (as.map V.ref))->Paired (λ(b:Addr) (q:aM×V)=>H b=none/\b≠l/\H' b=some (.tup [kV q.1,q.2])) as kvs->Q (.ref l) H'
theorem sZ(hc:X.calm=true):eG X (.type "list") C6:=by
 intro aa s σ H xs us Q I r h;obtain⟨p,a,φ,kvs,rfl,hp,hφ,rd,q⟩:=h
 obtain⟨u,rfl,rx⟩:=jc r
 cases rx
 obtain⟨f1,_⟩:=(show ObjOk X.prog X.w H s.heap p (.ext φ) from I.hok p _ hp)
 obtain⟨z,_,vs,rel,dd⟩:=mZ I.hok rd
 obtain⟨o,es,ep,d1,d2,d3,d4,d5,d6⟩:=dd
 have lv:vs.length=kvs.length:=(Ll rel).symm
 refine W.kdx_call (knd:=aZ X.prog X.w) (kvs:=vs) (ep:=ep) (I.ok.hd hc) (hφ _ f1) ⟨o,es,d1,d2,d3,d4,d5,d6⟩ (by rw[lv];exact z) λh' tk acc cc as kp hS hl hG hacc=>?_
 let ts:List (Addr×HO):=(as.zip kvs).map λz=>(z.1,HO.tup [kV z.2.1,z.2.2])
 let ps:List (Addr×HO):=(s.heap.objs.size,.lst (as.map V.ref))::ts
 have ta:ts.map (·.1)=as:=by
  show((as.zip kvs).map λz=>(z.1,HO.tup [kV z.2.1,z.2.2])).map (·.1)=as
  rw[Jl];show(as.zip kvs).map Prod.fst=as;rw[List.map_fst_zip];omega
 have ab: ∀b∈as,s.heap.objs.size<b:=hG.above
 have nd:(ps.map (·.1)).Nodup:=by
  show(s.heap.objs.size::ts.map (·.1)).Nodup
  rw[ta];exact Jq.mpr ⟨λw=>absurd (ab _ w) (Ku _),hG.rise.imp λw=>IV w⟩
 have big: ∀q∈ps,s.heap.objs.size<=q.1:=λq hq=>by
  rcases IC.mp hq with rfl|hq
  ·exact Ie _
  ·have:q.1∈as:=by rw[<-ta];exact IE.mpr ⟨q,hq,rfl⟩
   exact Le (ab _ this)
 have fr: ∀q∈ps,H q.1=none:=λq hq=>I.hok.fresh (big q hq)
 have new: ∀q∈ps,∀G,ObjOk X.prog X.w G h' q.1 q.2:=λq hq G=>by
  rcases IC.mp hq with rfl|hq
  ·refine⟨by rw[Ir,hl,lv];exact z,acc.toList,cc,by rw[hacc];exact jV as,by simpa using hS⟩
  ·obtain⟨w,hw,rfl⟩:=IE.mp hq
   obtain⟨j,hj⟩:=List.mem_iff_getElem?.mp hw
   rw[NC] at hj;obtain⟨key,k,x,g1,g2,g3⟩:=hG.pairs j w.1 hj.1
   obtain⟨y,g4,g5,g6⟩:=yI rel g1
   rw[hj.2] at g4;cases g4;have rk:RelV (kV w.2.1) key:=by
    rw[g5];rcases bg g2 with⟨i,t,e1,e2⟩|⟨x,t,e1,e2⟩
    ·rw[e1,e2];exact⟨t,rfl⟩
    ·rw[e1,e2];exact⟨t,rfl⟩
   exact⟨(by show 2<=Iy;decide),[key,x],.cons rk (.cons g6 .nil),⟨_,g3,rfl,_,rfl⟩,_,g3,rfl⟩
 have I2:Inv X aa σ (oU H ps) {s with heap:=h',toks:=tk}:=I.un (CW I.hok kp big) (wm (I.hok.kept kp) nd fr new)
 refine⟨.ref s.heap.objs.size,_,I2,rfl,q _ _ as (fr _ Is) (λb o e=>?_) (l6 nd Is) ?_⟩
 ·rw[jU λq hq z=>by have w:=fr q hq;rw[<-z,e] at w;cases w];exact e
 ·refine lJ (by rw[hl,lv]) λz hz=>?_
  have mz:(z.1,HO.tup [kV z.2.1,z.2.2])∈ps:=Ii _ (IE.mpr ⟨z,hz,rfl⟩)
  have ma:z.1∈as:=(M8 (show(z.1,z.2)∈as.zip kvs from hz)).1
  exact⟨fr _ mz,λe=>absurd (ab _ ma) (by rw[e];exact Ku _),l6 nd mz⟩
def Cm(i:Nat)(ρ:aA):Option mi:=match ρ[i]? with
 |some (.ob (.dR kvs))=>some kvs
 |some (.ob (.dK kvs))=>some kvs
 |_=>none
def DQ(i:Nat):FE:=λρ=>((Cm i ρ).bind kU).map λm=>.lst (m.map λq=>.tup [.int q.1,.int q.2])
theorem mV {K:Il}{H' W:Hp}: ∀ {as:List Addr} {m:List (Int×Int)},Paired (λ(b:Addr) (q:aM×V)=>W b=some (.tup [kV q.1,q.2])) as (jh m)->Reps K W (as.map V.ref) (m.map λq=>.tup [.int q.1,.int q.2])
 | [],[],_=>.nil
 | [],_::_,h=>by cases h
 |_::_,[],h=>by cases h
 |a::as,q::m,h=>by
  cases h with
  |cons r rs=>exact .cons (.tup (SqT.of r) (.cons .int (.cons .int .nil))) (mV (H':=H') rs)
theorem zB(i:Nat){c:Ct}{y:Str}{py p pos:Pos}(hc:X.calm=true)(hml:X.mg "list"=none)(hN:X.N[i]? =some y:=by rfl)(hv':jw X.env.scope y:=by first|exact Jp rfl|exact IQ (Jp rfl)|exact IQ (IQ rfl))(hd:(y==("__debug__":Str))=false:=by decide)(hcd:(y==("__classdict__":Str))=false:=by decide)
 (hbase:LK (.Name y py) "items" X.env (eval (.Name y py) X.env)=eval (.Name y py) X.env:=by rfl) (hline:(apos.endLine==cpos.line)=true:=by rfl) (hgl:Gl X "list":=by rfl) (hvl:J5 "list"=some (.type "list"):=by kernel_rfl)
 (hs:Iu [.Call (.Attribute (.Name y py) "items" apos) [] [] cpos] X.env=(false,eval (.Call (.Attribute (.Name y py) "items" apos) [] [] cpos) X.env)::Iu [] X.env:=by rfl) (hpl:(Ko pos (Iu [] X.env)).any (·.1)=false:=by rfl):
 DP X c .n (.Call (.Name "list" p) [.Call (.Attribute (.Name y py) "items" apos) [] [] cpos] [] pos) (DQ i):=λhid ρ=>
 PE.imp (fU (sZ hc) hgl hml hvl (be (yb (pv i hN hv' hd hcd) hbase hline) cy hs) (by decide) (by decide) hs hpl) λσ H Q hq_=>by
  obtain⟨sr,d,hd,q⟩:=hq_
  obtain⟨m,e1,rfl⟩:=Jr.mp hd
  obtain⟨kvs,e1,e2⟩:=Iq.mp e1
  have e3:=l8 e2
  subst e3;have rd: ∃a,σ[i]? =some (some (.ref a))/\Rd H a (.dK (jh m)):=by
   unfold Cm at e1;split at e1
   ·rename_i kvs e0
    cases e1
    obtain⟨a,a1,o,us,a2,a3,a4⟩:=sr.sl i _ e0
    have eu:=iD (K:=X.K) (W:=vw H hid) (us:=us) (m:=m) ⟨a3,a4⟩
    subst eu;exact⟨a,a1,.inr ⟨o,bF _ _ _ _ a2⟩⟩
   ·rename_i kvs e0
    cases e1
    obtain⟨a,a1,_,us,a2,a3,a4⟩:=sr.sl i _ e0
    have eu:=iD (K:=X.K) (W:=vw H hid) (us:=us) (m:=m) ⟨a3,a4⟩
    subst eu;exact⟨a,a1,.inl a2⟩
   ·cases e1
  obtain⟨a,a1,rd⟩:=rd
  refine⟨.ref a,a1,a,jh m,rfl,rd,λp hp=>⟨p,a,_,jh m,rfl,ah,λh w=>w,?_,λl H' as hl sm hL pr=>?_⟩⟩
  ·have na:a≠p:=λe=>by subst e;rcases rd with w|⟨o,w⟩<;>(rw[hp] at w;cases w)
   rcases rd with w|⟨o,w⟩
   ·exact .inl (by rw[af na];exact w)
   ·exact .inr ⟨o,by rw[af na];exact w⟩
  ·have s0:=aF hp (.ext λh=>h.IsItemsView p a)
   have fa: ∀b,aI H p (.ext λh=>h.IsItemsView p a) b=none->H b=none:=λb w=>by
    by_cases e:b=p
    ·subst e;exact hp
    ·rw[af e] at w;exact w
   refine q _ H' (s0.trans sm) ⟨l,_,_,rfl,rfl,fa l hl,hL,mV (H':=H') (Paired.mapP pr λb z w=>vw_some.mpr ⟨?_,w.2.2⟩)⟩
   unfold aJ;rw[sr.fresh (fa b w.1)];simp[w.2.1]
end
theorem wg {K:Il}{c:Ct}{hid:a7}{H:Hp}{a:Addr}: ∀ {bs:List Addr} {ms:List (List (Int×Int))},Paired (Cz c hid H a) bs ms->Paired (NOk K c hid H a) bs (ms.map λm=>NO.k (jD m))
 |_,_,.nil=>.nil
 |_,_,.cons r t=>.cons ⟨r.1,_,r.2,mH _,jL _⟩ (wg t)
theorem yU: ∀ms:List (List (Int×Int)),(ms.map λm=>NO.k (jD m)).mapM Hz=some (ms.map jD)
 | []=>rfl
 |m::ms=>by
  rw[Ip,RC,yU ms];rfl
theorem vh {K:Il}{W:Hp}: ∀ {bs:List Addr} {ms:List (List (Int×Int))},Paired (DRd K W) bs (ms.map jD)->Paired (GR W) bs ms
 | [],[],_=>.nil
 | [],_::_,h=>by cases h
 |_::_,[],h=>by cases h
 |b::bs,m::ms,h=>by
  cases h with
  |cons r t=>
   obtain⟨o,us,h1,h2,h3⟩:=r
   have:=iD (K:=K) (W:=W) (us:=us) (m:=m) ⟨h2,h3⟩
   subst this;exact .cons ⟨o,h1⟩ (vh t)
def opnD(i:Nat)(t:FS):FS:=λρ=>match eZ i ρ with
 |some kvs=>t (ρ.set i (.ob (.ddR kvs)))
 |none=>.no
section
variable {X:Cx}{c:Ct}{k:Kd}{st:Stmt}{sts:List Stmt}{t:FS}
theorem SR.opnD {aa:List (Addr×Obj)}{s:Ic}{hid:a7}{ρ:aA}{σ:St}{H:Hp}{i:Nat}{kvs:ca}(sr:SR X.K c hid ρ σ H)(e:eZ i ρ=some kvs)(I:Inv X aa σ H s):
 ∃H' hid',Inv X aa σ H' s/\SR X.K c hid' (ρ.set i (.ob (.ddR kvs))) σ H'/\Same (vw H hid) (vw H' hid'):=by
 obtain⟨a,us,bs,a1,a2,a3,a4,a5,a6⟩:=sr.ddk e
 have li:=(IA.mp (bS e)).1
 have sr0:SR X.K c hid (ρ.set i .no) σ H:=sr.forget (by simp) λj s' q=>by
  by_cases ej:j=i
  ·subst ej
   rw[ID li] at q;cases q;exact .inl rfl
  ·rw[Iv (IT ej)] at q;exact .inr q
 have nw: ∀(j:Nat) a',Ow (ρ.set i .no)[j]? ->σ[j]? =some (some (.ref a'))->a'≠a/\ ∃u,H a'=some u/\ ∀p v,u≠ .nst p v:=λj a' o q=>by
  have ej:j≠i:=λz=>by
   subst z;rw[ID li] at o;exact o
  rw[Iv (IT ej)] at o;refine⟨λz=>?_,?_⟩
  ·subst z;exact sr.ap j i a' ej o (by rw[bS e];trivial) q a1
  ·cases w:ρ[j]? with
   |none=>rw[w] at o;exact o.elim
   |some s'=>rw[w] at o;exact sr.kind w o q
 have hn: ∀b∈bs,∃o,H b=some (.nst a o):=λb hb=>let⟨_,r⟩:=L2.Paired.mem a6 hb;⟨_,r.2⟩
 obtain⟨H',hid',I',sr',sm',pr',k',b'⟩:=xg (BX (X:=X)) (wg (K:=X.K) a6) (yU _) a5 (λb hb j a' o q hat=>by
  obtain⟨n1,w,n2,n3⟩:=nw j a' o q
  obtain⟨ob,hob⟩:=hn b hb
  rcases hat with z|⟨w',hw'⟩
  ·subst z;rw[n2] at hob;exact n3 _ _ (Je hob)
  ·rw[hob] at hw';cases hw';exact n1 rfl) I sr0
 have na:a∉bs:=λhb=>by obtain⟨ob,hob⟩:=hn a hb;rw[a3] at hob;cases hob
 obtain⟨k1,k2⟩:=k' a na
 have e3:H' a=some (.dT us):=k1.trans a3
 have hh:hid' a=true:=k2.trans a2.1
 obtain⟨o,ho⟩:=(I'.hok a _ e3).there
 have I2:=I'.re (u':=.frz o (.dT us)) e3 trivial λ_ h=>⟨ho,h⟩
 have sr2:=sr'.reveal (u':=.frz o (.dT us)) hh a2.2 λj a' ow q hat=>by
  obtain⟨n1,_⟩:=nw j a' ow q
  rcases hat with z|⟨w',hw'⟩
  ·exact n1 z.symm
  ·rw[e3] at hw';cases hw'
 have sm2:Same (vw H' hid') (vw (aI H' a (.frz o (.dT us))) (fV hid' a)):=kO hh
 have sr3:=sr2.mark (i:=i) (s:=.ob (.ddR kvs)) ⟨a,a1,o,us,bs,Cr,a4.1,a4.2,vh (K:=X.K) (Paired.mapP pr' λb v r=>r.mono sm2)⟩ id
 rw[BK] at sr3;exact⟨_,_,I2,sr3,sm'.trans sm2⟩
theorem u8(i:Nat)(h:DS X c k st t):DS X c k st (opnD i t):=λρ aa s σ H D I hq_=>by
 obtain⟨hid,sr,q⟩:=hq_
 unfold opnD at q;split at q
 ·rename_i kvs e
  obtain⟨H',hid',I',sr',sm⟩:=sr.opnD e I
  exact h _ aa s σ H' D I' ⟨hid',sr',q.mono sm⟩
 ·exact q.elim
end
structure NewDD(H H':Hp)(a:Addr)(us:List (List aM×V))(bs:List Addr)(kvs:ca):Prop where
 na:H a=none
 ha:H' a=some (.dT us)
 dp:EM us bs kvs
 nd:bs.Nodup
 nb: ∀b∈bs,H b=none
 pr:Paired (λb m=>H' b=some (.nst a (.dK (jh m)))) bs (kvs.map (·.2))
def E4(K:Il)(M:ca->D->Option ca):Sp:=λvs H Q _=> ∃hid a v mins d,vs=[.ref a,v]/\Ap hid H/\DDd (vw H hid) a mins/\Rep K (vw H hid) v d/\ ∃kvs,M mins d=some kvs/\ ∀a' us bs H',Same H H'->NewDD H H' a' us bs kvs->Q (.ref a') H'
def xx(n:Nat)(mins:ca)(d:D):aA:=.ob (.ddR mins):: .v d::Im (n-2) .no
def Gk(n i:Nat)(t:FS)(mins:ca)(d:D):Option ca:=match t (xx n mins d) with
 | .nx ρ=>eZ i ρ
 |_=>none
def Ms(X:Cx)(c:Ct)(i:Nat)(st:List Stmt)(t:FS):Prop:= ∀ρ,PSs X st (λD σ H=> ∃hid,SR X.K c hid ρ σ H/\ ∃ρ' kvs,t ρ=.nx ρ'/\eZ i ρ'=some kvs/\
 ∀a us bs H',(∀b o,c.H₀ b=some o->c.mu b=false->H' b=some o)->NewDD c.H₀ H' a us bs kvs->D.rt (.ref a) H')
section
variable {X:Cx}{c:Ct}{i:Nat}{st:Stmt}{rest:List Stmt}{t u:FS}{pos px:Pos}{x:Str}
theorem vZ {k:Kd}(h1:DS X c k st t)(h2:Ms X c i rest u):Ms X c i (st::rest) (aS t u):=λρ=>
 PSs.imp (jF (h1 ρ) (yx λρ1=>h2 ρ1)) λD σ H hq_=>by
  obtain⟨hid,sr,ρ',p,e,e1,z⟩:=hq_
  refine⟨hid,sr,?_⟩
  unfold aS at e;cases e0:t ρ with
  |nx ρ1=>rw[e0] at e;exact λσ1 H1 hid1 sr1 v1=>⟨ρ1,hid1,sr1,ρ',p,e,e1,z⟩
  |rt d ρ1=>rw[e0] at e;cases e
  |bk ρ1=>rw[e0] at e;cases e
  |ct ρ1=>rw[e0] at e;cases e
  |no=>rw[e0] at e;cases e
theorem CZ(i:Nat)(hN:X.N[i]? =some x:=by rfl)(hv:jw X.env.scope x:=by first|exact Jp rfl|exact IQ (Jp rfl)|exact IQ (IQ rfl))(hd:(x==("__debug__":Str))=false:=by decide)(hcd:(x==("__classdict__":Str))=false:=by decide):
 Ms X c i [.Return (some (.Name x px)) pos] skip:=λρ=>
 PSs.imp (pj (zi (pv i hN hv hd hcd))) λD σ H hq_=>by
  obtain⟨hid,sr,ρ',kvs,e,e1,z⟩:=hq_
  cases e
  obtain⟨a,us,bs,a1,a2,a3,a4,a5,a6⟩:=sr.ddk e1
  exact⟨_,a1,z a us bs H sr.kp ⟨a2.2,a3,a4,a5,λb hb=>let⟨_,r⟩:=L2.Paired.mem a6 hb;r.1.2,Paired.mapP a6 λb m r=>r.2⟩⟩
end
theorem SR.beginsM {K:Il}{hid:a7}{H:Hp}{N:List Str}{a:Addr}{v:V}{mins:ca}{d:D}(tr:Ap hid H)(hq:DDd (vw H hid) a mins)(r:Rep K (vw H hid) v d)(hN:2<=N.length):
 SR K ⟨H,hid,λ_=>false⟩ hid (xx N.length mins d) (eC N [.ref a,v]) H:=by
 have es:eC N [.ref a,v]=some (V.ref a)::some v::Im (N.length-2) none:=rfl
 rw[es];unfold xx;have ow: ∀i:Nat,¬Ow ((Sl.ob (.ddR mins):: .v d::Im (N.length-2) Sl.no)[i]?):=λi o=>by
  match i,o with
  |0,o=>exact o
  |1,o=>exact o
  |i+2,o=>
   have o:Ow ((Im (N.length-2) Sl.no)[i]?):=o
   rw[Jj] at o;split at o<;>exact o
 refine⟨tr.1,tr.2,λ_ h=>h,λ_ _ h _=>h,λb o h=>⟨o,h⟩,tr.1,(λ_ h=>nomatch h),by simp,λi s e=>?_,λi j z n o1 o2 q1 q2=>ow i o1⟩
 match i,e with
 |0,e=>cases e;exact⟨a,rfl,hq⟩
 |1,e=>cases e;exact⟨v,rfl,r⟩
 |i+2,e=>
  have e:(Im (N.length-2) Sl.no)[i]? =some s:=e
  rw[Jj] at e;split at e
  ·cases e;trivial
  ·cases e
section
variable {P:IP}{w:Jo}{K:Il}{mg:Str->Option Ia}{base:Heap}{x:Str}{st:Stmt}{N ps:List Str}{k i:Nat}{t:FS}
theorem F6(F:Df K mg x st ps)(S:FnScope N ps (av st))(hn:ps.length=2)(hN:2<=N.length)
 (body: ∀(f:Addr) (cdv:Ia) (A:Jc) (outer:List Env) (s:Ic) (H:Hp) (hid:a7) (E:XK),Room k (A.deeper (Mw x (av st) s.heap.objs.size f cdv))->
   Ms (lq oA P w K mg base N x (av st) f cdv A outer s H E).nox ⟨H,hid,λ_=>false⟩ i (bV st) t):
 Cl P w K mg base (k+1) x ps (E4 K (Gk N.length i t)):=by
 obtain⟨f,fd,F,hm,hb⟩:=F.ex
 refine⟨f,fd,F.ok S (λvs H Q E h=>?_) (λcdv A outer s H vs Q E hr h=>?_),hm,F.kp,hb⟩
 ·obtain⟨hid,a,v,mins,d,rfl,_⟩:=h
  rw[hn];rfl
 ·obtain⟨hid,a,v,mins,d,rfl,tr,hq,r,kvs,hP,z⟩:=h
  unfold Gk at hP;cases e:t (xx N.length mins d) with
  |nx ρ=>
   rw[e] at hP;exact⟨_,body f cdv A outer s H hid E hr (xx N.length mins d),hid,SR.beginsM tr hq r hN,ρ,kvs,e,hP,λa us bs H' kp T=>z a us bs H' (λb o y=>kp b o y rfl) T⟩
  |rt d ρ=>rw[e] at hP;cases hP
  |bk ρ=>rw[e] at hP;cases hP
  |ct ρ=>rw[e] at hP;cases hP
  |no=>rw[e] at hP;cases hP
end
theorem nT {K:Il}{c:Ct}{ρ:aA}{σ:St}{H':Hp}: ∀(bs:List Addr) (hid:a7) (H:Hp),SR K c hid ρ σ H->Same H H'->bs.Nodup->(∀b∈bs,H b=none)->(∀b∈bs,∃o,H' b=some o/\ ∀xs,o≠ .tup xs)-> ∃hid':a7,SR K c hid' ρ σ H'/\Same (vw H hid) (vw H' hid')/\(∀b∈bs,hid' b=true)/\ ∀b,hid b=true->hid' b=true
 | [],hid,H,sr,sm,_,_,_=>⟨hid,sr.ext sm,aD sm,λb hb=>absurd hb Ks,λ_ h=>h⟩
 |b::bs,hid,H,sr,sm,nd,fr,ex=>by
  obtain⟨o,hb,ho⟩:=ex b Is
  have h0:=fr b Is
  obtain⟨nb,nd'⟩:=Jq.mp nd
  have sm1:Same (aI H b o) H':=λy o' q=>by
   by_cases e:y=b
   ·subst e;rw[ah] at q;rw[hb];exact q
   ·rw[af e] at q;exact sm y o' q
  obtain⟨hid',h1,h2,h3,h4⟩:=nT bs (aJ hid b) (aI H b o) (sr.hide (aF h0 _) h0 ah ho) sm1 nd' (λy hy=>by
   have:y≠b:=λe=>by subst e;exact nb hy
   rw[af this];exact fr y (Ii _ hy)) λy hy=>ex y (Ii _ hy)
  refine⟨hid',h1,(we (aF h0 _) h0).trans h2,λy hy=>?_,λy hy=>h4 y (aO hy)⟩
  rcases IC.mp hy with rfl|hy
  ·exact h4 y bf
  ·exact h3 y hy
section
variable {X:Cx}{c:Ct}{k:Kd}{e:Expr}{fe:FE}{p px pos pos' pc:Pos}{x y:Str}{ps:List Str}{l:Nat}
def DZ(i:Nat)(M:ca->D->Option ca)(fe:FE):FS:=λρ=>match j3 i ρ,fe ρ with
 |some mins,some d=>(match M mins d with
  |some kvs=>.nx (ρ.set i (.ob (.dd kvs)))
  |none=>.no)
 |_,_=>.no
theorem Ff(i:Nat){M:ca->D->Option ca}(hn:X.N.Nodup)(C:Cl X.prog X.w X.K X.mg X.base l y ps (E4 X.K M))(hr:Room l X.A)(he:DP X c .s e fe)
 (hi:X.N[i]? =some x:=by rfl) (hx:rO X.env.scope x:=by first|exact Jp rfl|exact IQ rfl) (hv:jw X.env.scope x:=by first|exact Jp rfl|exact IQ (Jp rfl)|exact IQ (IQ rfl)) (hd:(x==("__debug__":Str))=false:=by decide) (hcd:(x==("__classdict__":Str))=false:=by decide)
 (hf:X.fn x=true\/X.env.scope.names.lookup x=some .local:=by first|exact .inl rfl|exact .inr rfl|assumption) (hg:Gl X y:=by rfl) (hdb:(y==("__debug__":Str))=false:=by decide)
 (hs:JU (.Call (.Name y p) [.Name x px,e] [] pc) (some (.Name x pos')) pos.line X.env=pure false:=by rfl)
 (h1:Iu [.Name x px,e] X.env=(false,eval (.Name x px) X.env)::Iu [e] X.env:=by rfl) (h2:Iu [e] X.env=(false,eval e X.env)::Iu [] X.env:=by rfl) (hpl:(Ko pc (Iu [e] X.env)).any (·.1)=false:=by rfl):
 DS X c k (.Assign [.Name x pos'] (.Call (.Name y p) [.Name x px,e] [] pc) pos) (DZ i M fe):=λρ=>by
 obtain⟨f,fd,F,hm,hk,hb⟩:=C.ex
 refine PS.imp (fM hn hi hx (iX F hr hg hm hk hb .nil (nW (X:=X)) (be (pv i hi hv hd hcd) (be (iC λhid=>he hid ρ) cy h2) h1) hdb h1 hpl) hs hf) λD σ H hq_=>?_
 obtain⟨hid,sr,q⟩:=hq_
 unfold DZ at q;split at q
 ·rename_i mins d e1 e2
  split at q
  ·rename_i kvs e3
   obtain⟨a,a1,a2⟩:=sr.sl i _ (gp e1)
   refine⟨.ref a,a1,hid,sr,d,e2,λv H1 s1 r1=>?_⟩
   have sr1:=sr.ext s1
   show E4 X.K M ([V.ref a,v]++[]) H1 (λx H1=>qE i x σ H1 D.nx) E0
   rw[JF];refine⟨hid,a,v,mins,d,rfl,sr1.trk,DDd.mono a2 (aD s1),r1,kvs,e3,λa' us bs H' sm T=>?_⟩
   have nab:a'∉bs:=λw=>by
    obtain⟨m,r⟩:=L2.Paired.mem T.pr w
    rw[T.ha] at r;cases r
   obtain⟨hid',sr',sm',hh,hk'⟩:=nT (a'::bs) hid H1 sr1 sm (Jq.mpr ⟨nab,T.nd⟩) (λb hb=>by
    rcases IC.mp hb with rfl|hb
    ·exact T.na
    ·exact T.nb b hb) (λb hb=>by
    rcases IC.mp hb with rfl|hb
    ·exact⟨_,T.ha,nofun⟩
    ·obtain⟨m,r⟩:=L2.Paired.mem T.pr hb
     exact⟨_,r,nofun⟩)
   have no: ∀j:Nat,Ow ρ[j]? ->σ[j]? ≠some (some (.ref a')):=sr1.notOw (sr1.fresh T.na)
   refine q _ H' hid' (SR.setD (a:=a') (b:=.dd kvs) sr' ⟨⟨hh a' Is,sr1.fresh0 T.na⟩,us,bs,T.ha,T.dp.1,T.dp.2,T.nd,?_⟩ no i) ((aD s1).trans sm')
   have key: ∀ {bs':List Addr} {ms:List (List (Int×Int))},(∀b∈bs',b∈bs)->Paired (λb m=>H' b=some (.nst a' (.dK (jh m)))) bs' ms->Paired (Cz c hid' H' a') bs' ms:=by
    intro bs'
    induction bs' with
    |nil=>intro ms _ h;cases h;exact .nil
    |cons b bs' ih=>
     intro ms hb h;cases h with
     |cons r t=>exact .cons ⟨⟨hh b (Ii _ (hb b Is)),sr1.fresh0 (T.nb b (hb b Is))⟩,r⟩ (ih (λy hy=>hb y (Ii _ hy)) t)
   exact key (λb hb=>hb) T.pr
  ·exact q.elim
 ·exact q.elim
end
section
variable {X:Cx}{c:Ct}{k:Kd}{ek:Expr}{fk:aA->Option (List Int)}{p1 p2 p3 p4 p5 p6:Pos}{x y:Str}
def xA(i j:Nat)(fk:aA->Option (List Int)):FS:=λρ=>match j3 j ρ,fk ρ with
 |some kvs,some ks=>(match (pF kvs ks).bind λq=>kvs[q]? with
  |some z=>.nx (ρ.set i (.ob (.dR (jD z.2))))
  |none=>.nx (ρ.set i (.ob (.dK []))))
 |_,_=>.no
theorem C5(i j:Nat)(hn:X.N.Nodup)(hu:X.A.units+1<Ke)(hk:DK X c ek fk)(mm:M2 X (.Name y p3) "get" p4 ek (.Dict [] [] p5) p6)
 (hi:X.N[i]? =some x:=by rfl) (hj:X.N[j]? =some y:=by rfl) (hx:rO X.env.scope x:=by first|exact Jp rfl|exact IQ rfl) (hv:jw X.env.scope y:=by first|exact Jp rfl|exact IQ (Jp rfl)|exact IQ (IQ rfl)) (hd:(y==("__debug__":Str))=false:=by decide) (hcd:(y==("__classdict__":Str))=false:=by decide)
 (hf:X.fn x=true\/X.env.scope.names.lookup x=some .local:=by first|exact .inl rfl|exact .inr rfl|assumption)
 (hs:JU (.Call (.Attribute (.Name y p3) "get" p4) [ek,.Dict [] [] p5] [] p6) (some (.Name x p1)) p2.line X.env=pure false:=by rfl):
 DS X c k (.Assign [.Name x p1] (.Call (.Attribute (.Name y p3) "get" p4) [ek,.Dict [] [] p5] [] p6) p2) (xA i j fk):=λρ=>by
 refine PS.imp (fM hn hi hx (mG hu (pv j hj hv hd hcd) (iC λhid=>hk hid ρ) mE mm) hs hf) λD σ H hq_=>?_
 obtain⟨hid,sr,q⟩:=hq_
 unfold xA at q;split at q
 ·rename_i kvs ks e1 e2
  obtain⟨a,a1,o,us,bs,a2,a3,a4,a5⟩:=sr.sl j _ (gp e1)
  refine⟨.ref a,a1,a,rfl,.inr ⟨us,.inr ⟨o,bF _ _ _ _ a2⟩⟩,hid,sr,ks,e2,λb H1 s1 hb p hp=>?_⟩
  have nap:a≠p:=λe=>by have w:=s1 _ _ (bF _ _ _ _ a2);rw[e,hp] at w;cases w
  have nbp:b≠p:=λe=>by have w:=hb;rw[e,hp] at w;cases w
  have sm:=aF hp (.dK [])
  have rd:Rd (aI H1 p (.dK [])) a (.dT us):=.inr ⟨o,sm _ _ (s1 _ _ (bF _ _ _ _ a2))⟩
  refine⟨cR us (ks.map IU),.inr ⟨us,ks.map IU,b,rd,rfl,by rw[af nbp,Jl];exact hb,rfl⟩,?_⟩
  have sr1:=sr.ext s1
  rcases j5 ks (us:=us) (bs:=bs) (kvs:=kvs) ⟨a3,a4⟩ with⟨w1,w2⟩|⟨q0,b0,m0,w1,w2,w3,w4⟩
  ·rw[w1] at q
   rw[w2];refine q _ _ (aJ hid p) (SR.setD (a:=p) (b:=.dK []) (sr1.hide sm hp ah) ⟨⟨bf,sr1.fresh0 hp⟩,[],ah,rfl,.nil⟩ (sr1.notOw (sr1.fresh hp)) i) ((aD s1).trans (we sm hp))
  ·rw[w1] at q
   have q:EndOk X.K c k D (vw H hid) (match kvs[q0]? with
    |some z=>Out.nx (ρ.set i (.ob (.dR (jD z.2))))
    |none=>.nx (ρ.set i (.ob (.dK [])))):=q
   rw[w3] at q;rw[w4];obtain⟨b1,w5,w6⟩:=L2.Paired.get a5 (i:=q0) (y:=m0) (by rw[Jd,w3];rfl)
   rw[w2] at w5;cases w5;have s2:=s1.trans sm
   have dr:DRd X.K (vw (aI H1 p (.dK [])) hid) b0 (jD m0):=(Av (K:=X.K) w6).mono (aD s2)
   refine q _ _ hid (SR.setD (a:=b0) (b:=.dR (jD m0)) (sr1.ext sm) dr (sr1.ext sm |>.notOw ?_) i) (aD s2)
   obtain⟨o2,w6⟩:=w6
   exact(vw_some.mp w6).1
 ·exact q.elim
end
section
variable {X:Cx}{c:Ct}{k:Kd}{pos pos' p5:Pos}{x:Str}
theorem Dz(i:Nat){ek ev:Expr}(hn:X.N.Nodup)(hu:X.A.units+1<Ke)(hk:QPE X ek (AE BD))(hv:QPE X ev (sF [(tC (.int 0),tC (.int 1))]))(hi:X.N[i]? =some x:=by rfl)(hx:rO X.env.scope x:=by first|exact Jp rfl|exact IQ rfl)(hs:JU (.Dict [some ek] [ev] p5) (some (.Name x pos')) pos.line X.env=pure false:=by rfl)
 (hf:X.fn x=true\/X.env.scope.names.lookup x=some .local:=by first|exact .inl rfl|exact .inr rfl|assumption):QS X c k (.Assign [.Name x pos'] (.Dict [some ek] [ev] p5) pos) (Er i):=.of (C7 i hn hu hk hv hi hx hs hf)
end
def xw(i j:Nat):GE:=λρ=>match eI j ρ with
 |some zs=>(match eI i ρ with
  |some bs=>if bs.length+zs.length<=Iy then some (.non,eK i (bs++zs) ρ) else none
  |none=>none)
 |_=>none
theorem xb {i j:Nat}{ρ ρ':aA}{d:D}(h:xw i j ρ=some (d,ρ')): ∃zs bs,eI j ρ=some zs/\eI i ρ=some bs/\bs.length+zs.length<=Iy/\d=.non/\ρ'=eK i (bs++zs) ρ:=by
 unfold xw at h;split at h
 ·split at h
  ·split at h
   ·cases h;exact⟨_,_, ‹_›, ‹_›, ‹_›,rfl,rfl⟩
   ·cases h
  ·cases h
 ·cases h
section
variable {X:Cx}{c:Ct}{y z:Str}{py pz apos pos:Pos}
theorem AK(i j:Nat)
 (hN:X.N[i]? =some y:=by rfl) (hv:jw X.env.scope y:=by first|exact Jp rfl|exact IQ (Jp rfl)|exact IQ (IQ rfl)) (hd:(y==("__debug__":Str))=false:=by decide) (hcd:(y==("__classdict__":Str))=false:=by decide)
 (hNz:X.N[j]? =some z:=by rfl) (hvz:jw X.env.scope z:=by first|exact Jp rfl|exact IQ (Jp rfl)|exact IQ (IQ rfl)) (hdz:(z==("__debug__":Str))=false:=by decide) (hcdz:(z==("__classdict__":Str))=false:=by decide)
 (hbase:LK (.Name y py) "extend" X.env (eval (.Name y py) X.env)=eval (.Name y py) X.env:=by rfl)
 (hfew:((Ko pos (Iu [.Name z pz] X.env)).all (λx=> !x.1)&&(P8 pos (NJ [] X.env)).all (λx=>x.1.isSome)
   &&decide ([Expr.Name z pz].length+([]:List Nh).length+(if([]:List Nh).isEmpty then 0 else 1)<30))=true:=by rfl)
 (hline:(apos.endLine==pos.line)=true:=by rfl) (hs:Iu [.Name z pz] X.env=(false,eval (.Name z pz) X.env)::Iu [] X.env:=by rfl) (hplain:(Ko pos (Iu [] X.env)).any (·.1)=false:=by rfl):
 DE X c .s (.Call (.Attribute (.Name y py) "extend" apos) [.Name z pz] [] pos) (xw i j):=λhid ρ=>
 PE.imp (zE Mr NY NZ om (pv i hN hv hd hcd) (be (pv j hNz hvz hdz hcdz) cy hs) hbase hfew hline hs hplain) λσ H Q hq_=>by
  obtain⟨sr,d,ρ',hd',q⟩:=hq_
  obtain⟨zs,bs,e1,e2,e3,rfl,rfl⟩:=xb hd'
  obtain⟨a,xs0,a1,a2,a3,a4,a5⟩:=sr.held e2
  obtain⟨b,ws,b1,b2,b3,b4,b5⟩:=sr.held e1
  refine⟨.ref a,a1,.inl ⟨rfl,_,SqL.of a2⟩,.ref b,b1,?_⟩
  refine⟨a,b,xs0,ws,rfl,rfl,a2,b2,by rw[a4.length,b4.length];exact e3,?_⟩
  have vv:vw (aI H a (.lst (xs0++ws))) hid=vw H hid:=bH a3
  refine q .non _ ⟨λb o z hb=>?_,sr.put e2 a1 (λb o z hb=>by rw[af hb];exact z) ah (by rw[vv];exact a4.append b4),.non⟩
  rw[af (λe=>by subst e;rw[a3] at hb;cases hb)]
  exact z
end
def yg(i:Nat)(t:FS):FS:=λρ=>t (ρ.set i .no)
theorem AY {X:Cx}{c:Ct}{k:Kd}{st:Stmt}{t:FS}(i:Nat)(h:DS X c k st t):DS X c k st (yg i t):=λρ aa s σ H D I hq_=>by
 obtain⟨hid,sr,q⟩:=hq_
 refine h (ρ.set i .no) aa s σ H D I ⟨hid,sr.forget (by simp) λj s' q=>?_,q⟩
 rw[NQ] at q;split at q
 ·split at q
  ·cases q;exact .inl rfl
  ·cases q
 ·exact .inr q
end L2
namespace HT
open PySem PySem.Spec PyProof PyProof.Rows
section
variable {prog:IP}{w:Jo}{A:Jc}{E:Ia->Ic->Prop}{s:Ic}
theorem getItem_tuple_whole {t sl:Addr}{items:Array Ia}{vl vu:Ia}{lo hi:Option Int}{Q:Ia->Ic->Prop}(ht:Ug s.heap t items)(hs:s.heap.IsSliceOf sl vl vu .none)(pl:Os vl lo)(pu:Os vu hi)
 (hw:sIx items.size 0 lo=0/\sIx items.size items.size hi=items.size) (h:Q (.ref t) s):II (model prog w) A (MY (.ref t) (.ref sl)) Q E s:=by
 obtain⟨os,hos,hcs,hds⟩:=id hs
 have hTs:s.TypeIs (.ref sl) "slice":=⟨os,hos,hcs⟩
 unfold MY
 try with_reducible refine Kj ?_
 first|refine HZ (Ih ?_)|skip
 refine HZ (P5 ht.typeIs (by decide) ?_)
 refine HZ (JS (name:=Lz "__getitem__") ht.typeIs JM
  (JX JM ht.typeIs Pp ?_ (PP _ _)))
 show II _ _ (Nq (.ref t)>>=_) _ _ s;refine HZ (R5 ht ?_)
 refine HZ (Ot hTs ?_)
 rw[if_pos (by decide)]
 refine HZ (fW hs pl pu ?_)
 have hyes:(((sIx items.size 0 lo:Nat):Int)==0&&(1:Int)==1&&(sIx items.size items.size hi-sIx items.size 0 lo)==items.size)=true:=by
  rw[hw.1,hw.2];simp
 show II _ _ (if(((sIx items.size 0 lo:Nat):Int)==0&&(1:Int)==1&&(sIx items.size items.size hi-sIx items.size 0 lo)==items.size)=true then _ else _) _ _ s
 rw[if_pos hyes];refine HZ (m:=RF _) (HZ (Ot ht.typeIs (Ih ?_)))
 show II _ _ (if(PJ "tuple"==PJ "tuple")=true then _ else _) _ _ s
 rw[if_pos (by decide)]
 first
  |exact HZ (KH (Ih ⟨_,rfl,Ih h⟩))
  |exact HZ (KH (HZ (Ih (Ih ⟨_,rfl,Ih h⟩))))
end
end HT
namespace L2
open PySem PySem.Spec PyProof.Rows
section
variable {X:Cx}{c:Ct}{k:Kd}{e:Expr}{lo hi:Option Expr}{f:FE}{l u:FO}{p2 pos:Pos}
def Fv(K:Il):V->Option Int->Option Int->Hp->VK->Prop:=λx lo hi H Q=> ∃a xs,x=.ref a/\SqT K H a xs/\(HT.sIx xs.length 0 lo=0/\HT.sIx xs.length xs.length hi=xs.length)/\Q (.ref a) H
theorem BG:SlR X (Fv X.K):=by
 intro aa s σ H x v vl vu lo hi sl Q I rx hs pl pu h;obtain⟨a,xs,rfl,hx,hw,q⟩:=h
 cases rx
 obtain⟨its,r,ht,hz⟩:=I.tuple hx
 have hlen:its.toArray.size=xs.length:=by rw[IF];exact r.length.symm
 refine⟨"tuple",_,JM.lookup,ht.typeIs,?_⟩
 exact HT.getItem_tuple_whole ht hs pl pu (by rw[hlen];exact hw) ⟨.ref a,H,I,rfl,q⟩
def AD(f:FE)(l u:FO):FE:=λρ=>(f ρ).bind λd=>match d with
 | .tup ds=>(l ρ).bind λlo=>(u ρ).bind λhi=>some (.tup (gQ ds lo hi))
 |_=>none
theorem vc(he:DP X c .s e f)(hl:DO X c lo l)(hu:DO X c hi u):DP X c .s (.Subscript e (.Slice lo hi none p2) pos) (AD f l u):=λhid ρ=>
 PE.imp (qf (SlR.or Ek BG) (he hid ρ) (hl hid ρ) (hu hid ρ)) λσ H Q hq_=>by
  obtain⟨sr,d,hd,q⟩:=hq_
  unfold AD at hd;cases e1:f ρ with
  |none=>rw[e1] at hd;cases hd
  |some z=>
   rw[e1] at hd;cases z with
   |tup ds=>
    have hd:((l ρ).bind λlo=>(u ρ).bind λhi=>some (D.tup (gQ ds lo hi)))=some d:=hd
    cases e2:l ρ with
    |none=>rw[e2] at hd;cases hd
    |some o1=>
     rw[e2] at hd;cases e3:u ρ with
     |none=>rw[e3] at hd;cases hd
     |some o2=>
      rw[e3] at hd;have hd:some (D.tup (gQ ds o1 o2))=some d:=hd
      cases hd
      refine⟨sr,_,e1,λv H1 s1 r1=>⟨sr.ext s1,o1,e2,λH2 s2=>⟨(sr.ext s1).ext s2,o2,e3,λH3 s3=>?_⟩⟩⟩
      have r3:Rep X.K (vw H3 hid) v (.tup ds):=(show Rep X.K (vw H1 hid) v (.tup ds) from r1).mono (aD (s2.trans s3))
      obtain⟨a,xs,rfl,_,h1,h2⟩:=((RK.b .s r1 λa n=>sr.fresh n).ext (s2.trans s3)).tup
      by_cases hw:HT.sIx xs.length 0 o1=0/\HT.sIx xs.length xs.length o2=xs.length
      ·refine .inr ⟨a,xs,rfl,h1,hw,?_⟩
       have ec:gQ ds o1 o2=ds:=by
        unfold gQ;rw[<-h2.length,hw.1,hw.2,Nat.sub_zero,RG,h2.length,QI]
       rw[ec] at q;exact q _ _ (s1.trans (s2.trans s3)) r3
      ·exact .inl ⟨a,xs,rfl,h1,hw,λp hp=>q _ _ ((s1.trans (s2.trans s3)).trans (aF hp _)) (eU hp ((((sr.ext s1).ext s2).ext s3).fresh hp) (rP h2 o1 o2))⟩
   |_=>cases hd
end
def G1(K:Il)(hid:a7)(H H':Hp)(v:V)(d:D):Prop:= ∀g:a7,(∀t,hid t=true->g t=true)->(∀t,g t=true->hid t=false-> ∃xs,H t=some (.lst xs))->Rep K (vw H' g) v d
def FrE(K:Il)(hid:a7)(D0:Addr)(H H':Hp)(xs:List V)(ad:List D):Prop:= ∀g:a7,(∀t,aJ hid D0 t=true->g t=true)->(∀t,g t=true->aJ hid D0 t=false-> ∃ys,H t=some (.lst ys))->Reps K (vw H' g) xs ad
theorem FrE.self {K:Il}{hid:a7}{D0:Addr}{H H':Hp}{xs:List V}{ad:List D}(h:FrE K hid D0 H H' xs ad):Reps K (vw H' (aJ hid D0)) xs ad:=h _ (λ_ q=>q) λt q1 q2=>by rw[q1] at q2;cases q2
def DEF(X:Cx)(c:Ct)(e:Expr)(f:GE):Prop:= ∀hid ρ,PE X e (λσ H Q=>SR X.K c hid ρ σ H/\ ∃d ρ',f ρ=some (d,ρ')/\ ∀v H',PostE X.K c hid .s ρ' σ H H' v d->G1 X.K hid H H' v d->Q v H')
def GX(f:GE):GE:=λρ=>(f ρ).bind λz=>match z.1 with
 | .lst ds=>if tD ds=true then some z else none
 |_=>none
theorem DEF.of {X:Cx}{c:Ct}{e:Expr}{f:GE}(h:DE X c .n e f):DEF X c e (GX f):=λhid ρ=>PE.imp (h hid ρ) λσ H Q hq_=>by
 obtain⟨sr,d,ρ',hd,q⟩:=hq_
 obtain⟨⟨d0,ρ0⟩,e1,e2⟩:=Iq.mp (show(f ρ).bind _=_ from hd)
 dsimp only at e2;split at e2
 ·rename_i ds
  split at e2
  ·rename_i lf
   cases e2
   refine⟨sr,_,_,e1,λv H' p=>q v H' (p.toS sr.h0) λg g1 g2=>?_⟩
   obtain⟨kp,a,xs,ds',z,rfl,hn,h1,h2,h3,h4,h5,h6⟩:=p
   cases z
   have ga:g a=false:=by
    cases e:g a with
    |false=>rfl
    |true=>obtain⟨ys,w⟩:=g2 a e h3;rw[hn] at w;cases w
   refine .lst (vw_some.mpr ⟨ga,h1⟩) (dz (g':=hid) (λt q1 q2=>?_) (h5.mono (cL λb q=>aO q)) lf)
   obtain⟨ys,w⟩:=g2 t q2 q1
   rw[kp t _ w q1];rfl
  ·cases e2
 ·cases e2
def eF(g:FG)(p:FT)(f:GE):List D->aA->Option (List D×aA)
 | [],ρ=>some ([],ρ)
 |d::r,ρ=>(g d ρ).bind λρ1=>(p ρ1).bind λb=>if b=true then(f ρ1).bind λq=>(lh ρ q.2).bind λρ3=>(eF g p f r ρ3).map λz=>(q.1::z.1,z.2)
  else eF g p f r ρ
def fJ(m:Nat)(gi:GA)(g:FG)(p:FT)(f:GE):GE:=λρ=>(gi ρ).bind λz=>if z.1.length<=Iy then(eF g p f z.1 (z.2++Im m .no)).bind λy=>(lh z.2 y.2).map λρ'=>(.lst y.1,ρ') else none
theorem kT {m:Nat}{gi:GA}{g:FG}{p:FT}{f:GE}{ρ ρ':aA}{d:D}(h:fJ m gi g p f ρ=some (d,ρ')): ∃ds ρ0 ys ρF,gi ρ=some (ds,ρ0)/\ds.length<=Iy/\eF g p f ds (ρ0++Im m .no)=some (ys,ρF)/\lh ρ0 ρF=some ρ'/\d=.lst ys:=by
 obtain⟨⟨ds,ρ0⟩,h1,h2⟩:=Iq.mp (show(gi ρ).bind _=_ from h)
 split at h2
 ·obtain⟨⟨ys,ρF⟩,h3,h4⟩:=Iq.mp h2
  obtain⟨ρ1,h5,h6⟩:=Jr.mp h4
  cases h6
  exact⟨ds,ρ0,ys,ρF,h1, ‹_›,h3,h5,rfl⟩
 ·cases h2
section
variable {X:Cx}{c:Ct}{elt tg iter:Expr}{ifs:List Expr}{scope:KO}{pos spos py:Pos}{N':List Str}{m:Nat}{gi:GA}{g:FG}{p:FT}{f:GE}{y:Str}
structure CLD(Y:Cx)(K:Il)(c:Ct)(hid:a7)(ρF ρE:aA)(nN:Nat)(H:Hp)(D0:Addr)(fp:List Addr)(tn:Nat->Heap->Prop)(g:FG)(p:FT)(f:GE)(ds ys:List D)(σ3:St)(n i:Nat)(xs:List V)(ad:List D)(ρ:aA)(σ':St)(H':Hp)(s':Ic):Prop where
 e:n=ds.length-i
 hi:i<=ds.length
 I:Inv Y [] σ' H' s'
 st:tn i s'.heap
 fr: ∀b∈fp,H' b=none
 sr:SR K c (aJ hid D0) ρ σ' H'
 kp:Kept hid H H'
 ac:H' D0=some (.lst xs)
 rp:FrE K hid D0 H H' xs ad
 w:Same (vw H hid) (vw H' (aJ hid D0))
 hl:xs.length<=i
 na: ∀i:Nat,Ow ρ[i]? ->σ'[i]? ≠some (some (.ref D0))
 ok:OwK ρF ρ σ3 σ'
 no: ∀(j:Nat) (s:Sl),nN<=j->ρ[j]? =some s->s=.no
 go: ∃rest,eF g p f (ds.drop i) ρ=some (rest,ρE)/\ad++rest=ys
theorem t8(hcalm:X.calm=true)(hT:gD X.N.length g)
 (hg: ∀C s₀ H₀ ex,qi (aC X N' scope C s₀ H₀ ex) c tg g) (hp: ∀C s₀ H₀ ex,qc (aC X N' scope C s₀ H₀ ex) c ifs p) (he: ∀C s₀ H₀ ex,DEF (aC X N' scope C s₀ H₀ ex) c elt f)
 {σ3:St} {H H3:Hp} {s3 s4:Ic} {hid:a7} {ρF ρE:aA} {J:It} {it D0 C:Addr} {fp:List Addr} {tn:Nat->Heap->Prop} {ds ys:List D} {R:Nm->Ic->Prop}
 (hno: ∀(j:Nat) (s:Sl),X.N.length<=j->ρF[j]? =some s->s=.no)
 (I:Inv (aC X N' scope C s3 H3 fp) [] σ3 H3 s4) (sr:SR X.K c (aJ hid D0) ρF σ3 H3) (h0: ∀b,c.hid₀ b=true->hid b=true) (nh:hid D0=false) (h00:c.H₀ D0=none) (na: ∀i:Nat,Ow ρF[i]? ->σ3[i]? ≠some (some (.ref D0))) (hacc:H3 D0=some (.lst [])) (sm:Kept hid H H3) (nD:H D0=none) (wv:Same (vw H hid) (vw H3 (aJ hid D0))) (T:Turn X.prog X.w X.K tg J fp it tn) (st:tn 0 s4.heap) (hF: ∀b∈fp,H3 b=none)
 (io:ItOk X.K (vw H hid) J ds) (hz:ds.length<=Iy) (hc:eF g p f ds ρF=some (ys,ρE))
 (hR: ∀(s':Ic) (σ':St) (H':Hp) (xs:List V),Inv (aC X N' scope C s3 H3 fp) [] σ' H' s'->SR X.K c (aJ hid D0) ρE σ' H'->OwK ρF ρE σ3 σ'->Kept hid H H'->H' D0=some (.lst xs)->FrE X.K hid D0 H H' xs ys->Same (vw H hid) (vw H' (aJ hid D0))->R (.ok .next) s'):
 KZ (model X.prog X.w) X.A (.compLoop (.ListComp elt [⟨tg,iter,ifs,0⟩] scope pos) 0 (.ref it) (.ref D0) (N6 scope (kF X.env.cells scope C) C X.env)) R s4:=by
 have stat: ∀ {aa:List (Addr×Obj)} {H':Hp},(∀q∈aa,q.1∉fp)->(∀b∈fp,H' b=none)-> ∀b∈fp,fN (aC X N' scope C s3 H3 fp) aa H' b:=λ{aa H'} hpn hn b hb=>
  ⟨hn b hb,(I.ok.exf b hb).1,I.ok.exfs b hb,.inl hb,(I.ok.exf b hb).2,λq hq e=>hpn q (by have hq':q∈([]:List (Addr×Obj))++aa:=hq;simpa using hq') (by rw[e];exact hb)⟩
 have no: ∀q∈([]:List (Addr×Obj)),q.1∉fp:=λq hq=>nomatch hq
 refine c7 (λn s'=> ∃(i:Nat) (xs:List V) (ad:List D) (ρ:aA) (σ':St) (H':Hp),CLD (aC X N' scope C s3 H3 fp) X.K c hid ρF ρE X.N.length H D0 fp tn g p f ds ys σ3 n i xs ad ρ σ' H' s') ?_ ds.length
  ⟨0,[],[],ρF,σ3,H3,by simp,Jh _,I,st,hF,sr,sm,hacc,(λ_ _ _=>.nil),wv,Jh _,na,λi o=>⟨o,rfl⟩,hno,ys,by simpa using hc,rfl⟩
 rintro n s5 ⟨i,xs,ad,ρ,σ5,H5,rfl,hi,I5,st5,f5,sr5,sm5,ac5,rp5,w5,hl5,na5,ok5,hno5,rest,hc5,hy5⟩
 have wH:Same (vw H hid) H5:=w5.trans (bF _ _)
 by_cases hlt:i<ds.length
 ·have hd:ds[i]? =some ds[i]:=Ig hlt
  have e2:ds.drop i=ds[i]::ds.drop (i+1):=Kf hlt
  rw[e2] at hc5;unfold eF at hc5;obtain⟨go,yl⟩:=io.1 i ds[i] H5 hd wH
  refine bm (T.item (aC X N' scope C s3 H3 fp) rfl rfl rfl hcalm i [] s5 σ5 H5 (λ_ _=>False) I5 (stat no f5) st5 go) λr s6 hq_=>?_
  obtain⟨u,hr,h6⟩:=hq_
  subst hr;refine bm h6 λ_ s7 hq_=>?_
  obtain⟨x,H7,I7,r7,y7,st7,f7⟩:=hq_
  obtain⟨s7',rp⟩:=yl x H7 y7
  have rx:=rp (aJ hid D0) sr5.tr w5
  have I7':=I7.pinned (stat no f7) (T.obj _ _ st7)
  obtain⟨ρ1,e3,hc5⟩:=Iq.mp hc5
  obtain⟨b,e4,hc5⟩:=Iq.mp hc5
  obtain⟨tl1,tl2⟩:=hT _ _ _ e3
  have fg: ∀ {σ':St} {H':Hp},SR X.K c (aJ hid D0) ρ1 σ' H'->SR X.K c (aJ hid D0) ρ σ' H':=λ{σ' H'} z=>z.forget tl1 λj s e=>by
   by_cases hj:j<X.N.length
   ·exact .inr ((tl2 j hj).trans e)
   ·exact .inl (hno5 j s (by omega) e)
  have owl: ∀j:Nat,Ow ρ[j]? ->Ow ρ1[j]? :=λj o=>by
   by_cases hj:j<X.N.length
   ·rw[tl2 j hj];exact o
   ·exfalso
    cases z:ρ[j]? with
    |none=>rw[z] at o;exact o
    |some s=>rw[z] at o;rw[hno5 j s (by omega) z] at o;exact o
  have keepT: ∀ {σ':St} {H':Hp} {s':Ic},Inv (aC X N' scope C s3 H3 fp) ([]++jn fp s7.heap) σ' H' s'->tn (i+1) s'.heap/\ ∀b∈fp,H' b=none:=λ{σ' H' s'} J'=>by
   refine⟨T.keep _ _ _ st7 λb hb o e=>(J'.pin (b,o) (Iw _ (Iw _ (cg hb e)))).1,λb hb=>?_⟩
   obtain⟨o,e,_⟩:=T.obj _ _ st7 b hb
   exact(J'.pin (b,o) (Iw _ (Iw _ (cg hb e)))).2.1
  refine bm (hg C s3 H3 fp (aJ hid D0) ρ ds[i] _ s7 σ5 H7 x u (λσ' H'=>H'=H7/\SR X.K c (aJ hid D0) ρ1 σ' H7/\OwK ρ ρ1 σ5 σ') I7' r7 ⟨sr5.ext s7',rx,ρ1,e3,λσ' z o=>⟨rfl,z,o⟩⟩) λ_ s8 hq_=>?_
  obtain⟨σ8,H8,I8,e8,q8,o8⟩:=hq_
  subst e8;have na8: ∀i:Nat,Ow ρ1[i]? ->σ8[i]? ≠some (some (.ref D0)):=λj o=>by
   rw[(o8 j o).2];exact na5 j (o8 j o).1
  refine bm (hp C s3 H3 fp (aJ hid D0) ρ1 _ s8 σ8 H8 (λb' H'=>b'=b/\Same H8 H') I8 ⟨q8,b,e4,λH' s'=>⟨rfl,s'⟩⟩) λok s9 hq_=>?_
  obtain⟨H9,I9,e9,sm9⟩:=hq_
  subst e9;have w9:Same (vw H5 (aJ hid D0)) (vw H9 (aJ hid D0)):=aD (s7'.trans sm9)
  have k9:Kept hid H H9:=sm5.trans (.of (s7'.trans sm9))
  have a9:H9 D0=some (.lst xs):=sm9 _ _ (s7' _ _ ac5)
  have ok8:OwK ρF ρ σ3 σ8:=λj o=>⟨(ok5 j o).1,by rw[(o8 j (owl j o)).2];exact(ok5 j o).2⟩
  cases ok with
  |false=>
   rw[if_neg (by decide)] at hc5
   obtain⟨k1,k2⟩:=keepT I9
   exact⟨ds.length- (i+1),by omega,i+1,xs,ad,ρ,σ8,H9,rfl,hlt,I9.unpinned,k1,k2,fg (q8.ext sm9),k9,a9,(λg g1 g2=>(rp5 g g1 g2).mono (aD (s7'.trans sm9))),w5.trans w9,by omega,λj o=>na8 j (owl j o),ok8,hno5,rest,hc5,hy5⟩
  |true=>
   rw[if_pos rfl] at hc5;obtain⟨⟨yv,ρ2⟩,e5,hc5⟩:=Iq.mp hc5
   obtain⟨ρ3,e6,hc5⟩:=Iq.mp hc5
   obtain⟨⟨rest',ρx⟩,e7,hc5⟩:=Jr.mp hc5
   cases hc5
   show II (model X.prog X.w) X.A (eval elt _) _ _ s9;have srs:SR X.K c hid ρ1 σ8 H9:=(q8.ext sm9).show h0 na8 a9
   refine bm (he C s3 H3 fp hid ρ1 _ s9 σ8 H9 (λv H'=>PostE X.K c hid .s ρ2 σ8 H9 H' v yv/\G1 X.K hid H9 H' v yv) I9 ⟨srs,yv,ρ2,e5,λv H' z z'=>⟨z,z'⟩⟩) λv s10 hq_=>?_
   obtain⟨z,H10,I10,rz,⟨kp10,sr10,rp10⟩,el10⟩:=hq_
   have a10:H10 D0=some (.lst xs):=kp10 _ _ a9 nh
   refine bm (fR (X:=aC X N' scope C s3 H3 fp) _ s10 σ8 H10 (.ref D0) [z] (.ref D0) [v] (λ_ H'=>H'=aI H10 D0 (.lst (xs++[z]))) I10 rfl (.cons rz .nil) ⟨D0,xs,z,rfl,rfl,a10,by omega,rfl⟩) λ_ s11 ⟨_,H11,I11,_,e11⟩=>?_
   subst e11;obtain⟨k1,k2⟩:=keepT I11
   have lo: ∀t,hid t=false->aJ hid D0 t=true->m8 (H10 t)=true:=λt h1 h2=>by
    unfold aJ at h2;rw[h1] at h2;have:t=D0:=by simpa using h2
    subst this;rw[a10];rfl
   have kD:Kept (aJ hid D0) H9 H10:=λb o q hb=>kp10 b o q (uG hb).1
   have w10:Same (vw H5 (aJ hid D0)) (vw H10 (aJ hid D0)):=w9.trans kD.vw
   have vv:vw (aI H10 D0 (.lst (xs++[z]))) (aJ hid D0)=vw H10 (aJ hid D0):=bH bf
   have q10:SR X.K c (aJ hid D0) ρ3 σ8 H10:=(fg (q8.ext sm9)).mix kD.vw sr10 ⟨λb hb=>by
    by_cases e:b=D0
    ·subst e;exact⟨_,a10⟩
    ·unfold aJ at hb
     exact sr10.tr b (by simpa [e] using hb),λb xs hb q=>by
    by_cases e:b=D0
    ·subst e;rw[a10] at q;cases q
    ·unfold aJ at hb
     exact sr10.ht b xs (by simpa [e] using hb) q⟩ (λb q=>aO (h0 b q)) (λb q=>aO q) lo e6 λ_ _ _=>rfl
   have na10: ∀i:Nat,Ow ρ3[i]? ->σ8[i]? ≠some (some (.ref D0)):=λj o=>sr10.notOw nh j (kN e6 o).2
   refine⟨ds.length- (i+1),by omega,i+1,xs++[z],ad++[yv],ρ3,σ8,_,rfl,hlt,I11.unpinned,k1,k2,?_,λb o e hb=>?_,ah,?_,?_,by simp;omega,na10,λj o=>ok8 j (kN e6 o).1,λj s hj e=>?_,rest',e7,by rw[<-hy5];simp⟩
   ·exact q10.write bf h00 na10 a10
   ·rw[af (aQ e nD)];exact kp10 _ _ (k9 _ _ e hb) hb
   ·intro g g1 g2
    have gh: ∀t,hid t=true->g t=true:=λt q=>g1 t (aO q)
    have kg:Kept g H9 H10:=λb o q hb=>kp10 b o q (by
     cases e:hid b with
     |false=>rfl
     |true=>rw[gh b e] at hb;cases hb)
    rw[bH (g1 D0 bf)];refine((rp5 g g1 g2).mono ((aD (s7'.trans sm9)).trans kg.vw)).append (.cons (el10 g gh λt q1 q2=>?_) .nil)
    by_cases e:t=D0
    ·subst e;exact⟨_,a9⟩
    ·obtain⟨ys,hy⟩:=g2 t q1 (by unfold aJ;simp[e,q2])
     exact⟨ys,k9 t _ hy q2⟩
   ·rw[vv];exact w5.trans w10
   ·obtain⟨s',z1,z2⟩:=lB e6 e
    have:=hno5 j s' hj z1
    subst this;rcases z2 with⟨rfl,_⟩|⟨s2,_,_,⟨a,b,z,_⟩|⟨a,b,z,_⟩⟩
    ·rfl
    ·cases z
    ·cases z
 ·have e:i=ds.length:=by omega
  subst e;rw[Kx (Ie _)] at hc5;cases hc5
  rw[JF] at hy5;subst hy5;refine bm (T.done (aC X N' scope C s3 H3 fp) rfl rfl rfl hcalm ds.length [] s5 σ5 H5 (λ_ _=>False) I5 (stat no f5) st5 (io.2 H5 wH)) λr s6 hq_=>?_
  obtain⟨hr,I6⟩:=hq_
  subst hr;exact hR s6 σ5 H5 xs I6 sr5 ok5 sm5 ac5 rp5 w5
theorem kW(hcalm:X.calm=true)(hk:scope.kind=.function)(hs:tq scope X.env.scope=true)(hn:tJ X.N N' scope=true)(hm:N'.length-X.N.length=m)(hT:gD X.N.length g)
 (hg: ∀C s₀ H₀ ex,qi (aC X N' scope C s₀ H₀ ex) c tg g) (hp: ∀C s₀ H₀ ex,qc (aC X N' scope C s₀ H₀ ex) c ifs p) (he: ∀C s₀ H₀ ex,DEF (aC X N' scope C s₀ H₀ ex) c elt f)
 {E:Ia->Ic->Prop} {aa:List (Addr×Obj)} {σ:St} {H:Hp} {s:Ic} {hid:a7} {ρ ρE:aA} {J:It} {it:Addr} {fp:List Addr} {tn:Nat->Heap->Prop} {ds ys:List D} {RR:Ia->Addr->Nm->Ic->Prop}
 (I:Inv X aa σ H s) (sr:SR X.K c hid ρ σ H) (T:Turn X.prog X.w X.K tg J fp it tn) (st:tn 0 s.heap) (hF: ∀b∈fp,fN X aa H b) (io:ItOk X.K (vw H hid) J ds) (hz:ds.length<=Iy) (hc:eF g p f ds (ρ++Im m .no)=some (ys,ρE))
 (hR: ∀(D C:Addr) (s':Ic) (σ':St) (H':Hp) (xs:List V),s.heap.objs.size<=D->s.heap.objs.size<=C->D≠C->H D=none->Kept hid H H'->H' D=some (.lst xs)->FrE X.K hid D H H' xs ys->SR X.K c (aJ hid D) ρE σ' H'->OwK (ρ++Im m .no) ρE (σ++Im m none) σ'->Same (vw H hid) (vw H' (aJ hid D))->(∃m,s'.heap.Ns C m)->H' C=none->s'.os=s.os->Mv s'.gens->HOk X.prog X.w H' s'.heap->Un (frs X.stack) fp H H' s.heap s'.heap->RR (.ref D) C (.ok .next) s'):
 II (model X.prog X.w) X.A (Ox []) (λacc s₃=>II (model X.prog X.w) X.A (Mz scope X.env.globals (o4 X.env.cells scope.names []) [] X.env.qual none .none (some X.env)) (λcenv s₄=>
  KZ (model X.prog X.w) X.A (.compStart (.ListComp elt [⟨tg,iter,ifs,0⟩] scope pos) 0 (.ref it) acc {cenv with scope:=My scope X.env}) (RR acc cenv.locals) s₄) E s₃) E s:=by
 refine Jw (o7 λh₁ hns₁ kp1 oc₁=>?_)
 dsimp only at hns₁ kp1 oc₁⊢
 generalize hH2:s.heap.push {cls:=.type "list",dict:=none,data:=.seq ([]:List Ia).toArray}=H2 at hns₁ kp1 oc₁⊢
 have hC:H2.objs.size=s.heap.objs.size+1:=by rw[<-hH2,J8]
 have hD:H s.heap.objs.size=none:=I.hok.fresh (Ie _)
 have I2:Inv X aa σ (aI H s.heap.objs.size (.lst [])) {s with heap:=H2}:=by
  rw[<-hH2];exact I.laid (t':=s.toks) (λb o e=>Ib _ e) (Ie _) ⟨Jh _,[],0,.nil,Io _ rfl⟩
 have fpLt: ∀b∈fp,b<s.heap.objs.size:=λb hb=>let⟨o,e,_⟩:=T.obj 0 s.heap st b hb;Ix e
 have hF2: ∀b∈fp,fN X aa (aI H s.heap.objs.size (.lst [])) b:=λb hb=>⟨by rw[af (IV (fpLt b hb))];exact(hF b hb).1,(hF b hb).2⟩
 have kp0: ∀b o,s.heap.get? b=some o->H2.get? b=some o:=λb o e=>by rw[<-hH2];exact Ib _ e
 have IY:=lY (tk:=s.toks) (N':=N') (fp:=fp) I2 hF2 (λb hb=>let⟨o,e,_⟩:=T.obj 0 s.heap st b hb;⟨o,kp0 b o e⟩) hk hs hn hns₁ kp1 oc₁
 rw[hm] at IY;dsimp only at IY;have sr0:SR X.K c (aJ hid s.heap.objs.size) (ρ++Im m .no) (σ++Im m none) (aI H s.heap.objs.size (.lst [])):=(sr.hide (aF hD _) hD ah).more m
 have hρ:ρ.length=X.N.length:=by rw[<-sr.len];exact I.len
 have nf:hid s.heap.objs.size=false:=sr.fresh hD
 have st1:tn 0 h₁:=T.keep _ _ _ st λb hb o e=>kp1 b o (kp0 b o e)
 have na0: ∀i:Nat,Ow (ρ++Im m Sl.no)[i]? ->(σ++Im m none)[i]? ≠some (some (V.ref s.heap.objs.size)):=(sr.more m).notOw nf
 have wv:Same (vw H hid) (vw (aI H s.heap.objs.size (.lst [])) (aJ hid s.heap.objs.size)):=by rw[mI hD];exact Same.refl _
 have loop: ∀s4:Ic,s4={s with heap:=h₁,toks:=s.toks}->
  KZ (model X.prog X.w) X.A (.compLoop (.ListComp elt [⟨tg,iter,ifs,0⟩] scope pos) 0 (.ref it) (.ref s.heap.objs.size) (N6 scope (kF X.env.cells scope H2.objs.size) H2.objs.size X.env)) (RR (.ref s.heap.objs.size) H2.objs.size) s4:=by
  rintro s4 rfl
  refine t8 (H:=H) (hid:=hid) hcalm hT hg hp he (λj s' hj e=>?_) IY sr0 sr.h0 nf (sr.fresh0 hD) na0 ah (.of (aF hD _)) hD wv T st1 (λb hb=>(hF2 b hb).1) io hz hc ?_
  ·rw[IX (by omega),Jj] at e
   split at e
   ·cases e;rfl
   ·cases e
  intro s' σ' H' xs I' srE owk sm' hx' rp' w';have un1:Un (frs X.stack) fp H (aI H s.heap.objs.size (.lst [])) s.heap H2:=Un.laid (λb o e=>kp0 b o e) (Ie _) hD
  exact hR s.heap.objs.size H2.objs.size s' σ' H' xs (Ie _) (by rw[hC];exact LZ _) (by rw[hC];exact IV (JT _)) hD sm' hx' rp' srE owk w' (let⟨m,hm,_⟩:=I'.loc;⟨m,hm⟩) I'.free I'.os I'.bare I'.hok (un1.trans I'.base)
 exact MA (loop _ rfl) (T.self X.A 0 _ _ _ st1 (loop _ rfl))
theorem z9(i:Nat)(hcalm:X.calm=true)(hN:X.N.Nodup)(hT:gD X.N.length g)(hi:DI X c tg iter gi)
 (hg: ∀C s₀ H₀ ex,qi (aC X N' scope C s₀ H₀ ex) c tg g) (hp: ∀C s₀ H₀ ex,qc (aC X N' scope C s₀ H₀ ex) c ifs p) (he: ∀C s₀ H₀ ex,DEF (aC X N' scope C s₀ H₀ ex) c elt f)
 (hsw:JU (.ListComp elt [⟨tg,iter,ifs,0⟩] scope pos) (some (.Name y py)) spos.line X.env=pure true) (hyi:X.N[i]? =some y) (hy:X.env.scope.names.lookup y=some .local)
 (hk:scope.kind=.function) (hs:tq scope X.env.scope=true) (hn:tJ X.N N' scope=true) (hm:N'.length-X.N.length=m) (hset: ∀x,JE iter X.env x=pure x) (ρ:aA):
 PS X (.Assign [.Name y py] (.ListComp elt [⟨tg,iter,ifs,0⟩] scope pos) spos) (Bi (λσ H Q=> ∃hid,FI X.K c hid .n (fJ m gi g p f) ρ σ H Q) (qE i)):=by
 intro aa s σ H E I hq;obtain⟨hid,sr,d,ρ',hd,q⟩:=hq
 obtain⟨ds,ρ0,ys,ρF,e1,hz,hc,hx,rfl⟩:=kT hd
 rw[OQ _ _ _ _ hsw];refine HZ (K2 (HZ ?_))
 show II _ X.A (do let _ <-Sc (.ListComp elt [⟨tg,iter,ifs,0⟩] scope pos) scope X.env _ (Ox []) false (eval iter X.env) (some (LN (.Name y py) X.env))) _ _ s
 refine HZ (Ji (KI (use:=some (LN (.Name y py) X.env)) (Q:=λ_ s'=>SP X aa E .next s') rfl hset (ci λx hx=>I.ok.has x (eQ hs x hx)) hk (f9 hs) ?_) (λ_ s' hq=>Ih (Ih hq)) λ_ _ e=>e)
 refine bm (hi hid ρ aa s σ H (λJ H'=>Kept hid H H'/\SR X.K c hid ρ0 σ H'/\ItOk X.K (vw H' hid) J ds) I ⟨sr,ds,ρ0,e1,λJ H' k1 s1 io=>⟨k1,s1,io⟩⟩) λv s1 h1=>bm h1 λitv s2 h2=>?_
 obtain⟨it,fp,tn,J,H2,rfl,I2,T,st2,f2,kp,sr2,io⟩:=h2
 refine kW (RR:=λacc C=>Qd (model X.prog X.w) X.A X.xe (some (LN (.Name y py) X.env)) (λ_ s'=>SP X aa E .next s') acc C) hcalm hk hs hn hm hT hg hp he I2 sr2 T st2 f2 io hz hc ?_
 intro D C s' σ' H' xs hDge hCge hDC hD sm' hx' fe srE owk w' ⟨mm,hns⟩ hC' hos hbare hok hun;have rp:=fe.self
 have I3:Inv X aa σ H' s':=I2.call' (ch:=fp) hos hun hok hbare λb hb=>⟨(f2 b hb).2.2.2.1,(f2 b hb).2.1,(f2 b hb).2.2.2.2.1,(f2 b hb).2.2.2.2.2⟩
 have nf:hid D=false:=sr2.fresh hD
 have hD0:H D=none:=by
  cases z:H D with
  |none=>rfl
  |some o=>rw[kp D o z nf] at hD;cases hD
 have srO:SR X.K c (aJ hid D) ρ' σ H':=sr2.mix w' srE srE.trk (λb q=>aO (sr2.h0 b q)) (λb q=>q) (λt h1 h2=>by rw[h1] at h2;cases h2) hx λj o1 o2=>by
  have lt:j<ρ0.length:=by
   by_cases lt:j<ρ0.length
   ·exact lt
   ·rw[Ju (by omega)] at o1;exact o1.elim
  rw[(owk j o2).2,Jg (by rw[sr2.len];exact lt)]
 have fin:=q (.ref D) H' ⟨kp.trans sm',D,xs,ys,rfl,rfl,hD0,hx',sr2.fresh0 hD,nf,srO,rp,λj o=>sr2.notOw nf j (kN hx o).1⟩
 have ltC: ∀b o,s2.heap.get? b=some o->b≠C:=λb o e z=>by subst z;exact absurd (Ix e) (Lo.mpr hCge)
 have hLC:C≠X.env.locals:=λz=>by
  have:=I2.lt
  rw[<-z] at this;exact absurd this (Lo.mpr hCge)
 show II _ X.A (LN (.Name y py) X.env (.ref D)) _ _ s';refine NF (kC (v:=.ref D) I3 hN hyi (.inl hy) rfl (λs'' I4 hb=>?_) (.inr hy))
 obtain⟨a,hsb,ha⟩:=hb
 have hCa:C≠a:=by
  rcases ha with rfl|ha
  ·exact hLC
  ·obtain⟨w',o,ho,_⟩:=I2.cell y a ha
   exact λz=>ltC a o ho z.symm
 refine⟨mm,hns.sameBut hsb hCa,λh3 hs3=>⟨_,H',?_,fin⟩⟩
 refine I4.turned (t':=s''.toks) (it:=C) (λb o nb e=>(hs3.2 b nb).trans e) hC' hLC (.inr (Jk I2.sz hCge)) (λx c' e z=>?_) (λq hq z=>?_)
 ·obtain⟨w',o,ho,_⟩:=I2.cell x c' e
  exact ltC c' o ho z
 ·exact ltC q.1 q.2 (I2.pin q hq).1 z
theorem zP(i:Nat){k:Kd}(hcalm:X.calm=true)(hN:X.N.Nodup)(hT:gD X.N.length g)(hi:DI X c tg iter gi)
 (hg: ∀C s₀ H₀ ex,qi (aC X N' scope C s₀ H₀ ex) c tg g) (hp: ∀C s₀ H₀ ex,qc (aC X N' scope C s₀ H₀ ex) c ifs p) (he: ∀C s₀ H₀ ex,DEF (aC X N' scope C s₀ H₀ ex) c elt f)
 (hsw:JU (.ListComp elt [⟨tg,iter,ifs,0⟩] scope pos) (some (.Name y py)) spos.line X.env=pure true:=by rfl) (hyi:X.N[i]? =some y:=by rfl) (hy:X.env.scope.names.lookup y=some .local:=by rfl)
 (hk:scope.kind=.function:=by rfl) (hs:tq scope X.env.scope=true:=by kernel_rfl) (hn:tJ X.N N' scope=true:=by kernel_rfl) (hm:N'.length-X.N.length=m:=by rfl) (hset: ∀x,JE iter X.env x=pure x:=by intro _;rfl):
 DS X c k (.Assign [.Name y py] (.ListComp elt [⟨tg,iter,ifs,0⟩] scope pos) spos) (xl i (fJ m gi g p f)):=λρ=>PS.imp (z9 i hcalm hN hT hi hg hp he hsw hyi hy hk hs hn hm hset ρ) λD σ H hq_=>by
 obtain⟨hid,sr,q⟩:=hq_
 unfold xl at q;cases e1:fJ m gi g p f ρ with
 |none=>rw[e1] at q;exact q.elim
 |some z=>
  rw[e1] at q;exact⟨hid,sr,z.1,z.2,e1,λv H' pe=>F1 pe q⟩
theorem Au(hcalm:X.calm=true)(hT:gD X.N.length g)(hi:DI X c tg iter gi)
 (hg: ∀C s₀ H₀ ex,qi (aC X N' scope C s₀ H₀ ex) c tg g) (hp: ∀C s₀ H₀ ex,qc (aC X N' scope C s₀ H₀ ex) c ifs p) (he: ∀C s₀ H₀ ex,DEF (aC X N' scope C s₀ H₀ ex) c elt f)
 (hk:scope.kind=.function:=by rfl) (hs:tq scope X.env.scope=true:=by kernel_rfl) (hn:tJ X.N N' scope=true:=by kernel_rfl) (hm:N'.length-X.N.length=m:=by rfl) (hset: ∀x,JE iter X.env x=pure x:=by intro _;rfl):
 DEF X c (.ListComp elt [⟨tg,iter,ifs,0⟩] scope pos) (fJ m gi g p f):=by
 intro hid ρ aa s σ H Q I hq;obtain⟨sr,d,ρ',hd,q⟩:=hq
 obtain⟨ds,ρ0,ys,ρF,e1,hz,hc,hx,rfl⟩:=kT hd
 rw[PB];refine KI (use:=none) rfl hset (ci λx hx=>I.ok.has x (eQ hs x hx)) hk (f9 hs) ?_
 refine bm (hi hid ρ aa s σ H (λJ H'=>Kept hid H H'/\SR X.K c hid ρ0 σ H'/\ItOk X.K (vw H' hid) J ds) I ⟨sr,ds,ρ0,e1,λJ H' k1 s1 io=>⟨k1,s1,io⟩⟩) λv s1 h1=>bm h1 λitv s2 h2=>?_
 obtain⟨it,fp,tn,J,H2,rfl,I2,T,st2,f2,kp,sr2,io⟩:=h2
 refine kW (RR:=λacc C=>Qd (model X.prog X.w) X.A X.xe none (EP X aa σ Q) acc C) hcalm hk hs hn hm hT hg hp he I2 sr2 T st2 f2 io hz hc ?_
 intro D C s' σ' H' xs hDge hCge hDC hD sm' hx' fe srE owk w' ⟨mm,hns⟩ hC' hos hbare hok hun;have rp:=fe.self
 have nf:hid D=false:=sr2.fresh hD
 have hD0:H D=none:=by
  cases z:H D with
  |none=>rfl
  |some o=>rw[kp D o z nf] at hD;cases hD
 have srO:SR X.K c (aJ hid D) ρ' σ H':=sr2.mix w' srE srE.trk (λb q=>aO (sr2.h0 b q)) (λb q=>q) (λt h1 h2=>by rw[h1] at h2;cases h2) hx λj o1 o2=>by
  have lt:j<ρ0.length:=by
   by_cases lt:j<ρ0.length
   ·exact lt
   ·rw[Ju (by omega)] at o1;exact o1.elim
  rw[(owk j o2).2,Jg (by rw[sr2.len];exact lt)]
 have pst:PostE X.K c hid .n ρ' σ H H' (.ref D) (.lst ys):=⟨kp.trans sm',D,xs,ys,rfl,rfl,hD0,hx',sr2.fresh0 hD,nf,srO,rp,λj o=>sr2.notOw nf j (kN hx o).1⟩
 have elf:G1 X.K hid H H' (.ref D) (.lst ys):=λg0 g1 g2=>by
  have ga:g0 D=false:=by
   cases e:g0 D with
   |false=>rfl
   |true=>obtain⟨zs,w⟩:=g2 D e nf;rw[hD0] at w;cases w
  refine .lst (vw_some.mpr ⟨ga,hx'⟩) ((fe (aJ g0 D) (λt q=>?_) λt q1 q2=>?_).mono (cL λb q=>aO q))
  ·by_cases e:t=D
   ·subst e;exact bf
   ·unfold aJ at q⊢
    simp[e] at q;simp[g1 t q]
  ·by_cases e:t=D
   ·subst e;rw[bf] at q2;cases q2
   ·unfold aJ at q1 q2
    simp[e] at q1 q2;obtain⟨zs,w⟩:=g2 t q1 q2
    exact⟨zs,kp t _ w q2⟩
 have fin:=q (.ref D) H' (pst.toS sr.h0) elf
 refine⟨mm,hns,λh' hsb=>⟨.ref D,H',?_,rfl,fin⟩⟩
 have neC: ∀b o,s2.heap.get? b=some o->b≠C:=λb o e z=>by subst z;exact absurd (Ix e) (Lo.mpr hCge)
 have hun':Un (frs X.stack) fp H2 H' s2.heap h':=⟨λb o e n h1 h2=>(hsb.2 b (neC b o e)).trans (hun.keep b o e n h1 h2),λb o e n h1 h2=>let⟨sl,z⟩:=hun.slot b o e n h1 h2;⟨sl,(hsb.2 b (neC b o e)).trans z⟩,hun.free,λb o e h2=>let⟨o',z⟩:=hun.there b o e h2;⟨o',(hsb.2 b (neC b o e)).trans z⟩,hun.tups,hun.frzs,hun.tbls⟩
 have hok':HOk X.prog X.w H' h':=λb o e=>by
  have nb: ∀b' o',H' b'=some o'->b'≠C:=λb' o' e' z=>by subst z;rw[hC'] at e';cases e'
  refine(hok b o e).stay (λc' u hc' z=>(hsb.2 c' ?_).trans z) (λ_ z=>z) λ_ _ z=>z
  rcases hc' with z'|z'
  ·rw[z'];exact nb b o e
  ·exact nb c' _ z'
 exact I2.call' (s':={s' with heap:=h'}) (ch:=fp) hos hun' hok' hbare λb hb=>⟨(f2 b hb).2.2.2.1,(f2 b hb).2.1,(f2 b hb).2.2.2.2.1,(f2 b hb).2.2.2.2.2⟩
end
set_option maxHeartbeats 4000000
def ni(i:Nat):Stmt:=NR.main.body.getD i (.Pass ⟨0,0,0,0⟩)
structure Bt(mg:Str->Option Ia):Prop where
 b_abs:mg "abs"=none
 b_all:mg "all"=none
 b_bool:mg "bool"=none
 b_enumerate:mg "enumerate"=none
 b_int:mg "int"=none
 b_isinstance:mg "isinstance"=none
 b_len:mg "len"=none
 b_list:mg "list"=none
 b_min:mg "min"=none
 b_range:mg "range"=none
 b_sorted:mg "sorted"=none
 b_tuple:mg "tuple"=none
 b_zip:mg "zip"=none
theorem GH:(["tuples","found","?power","many","power"]:List Str).Nodup:=by decide+kernel
theorem A2:(["one","other","power","many","raised","often"]:List Str).Nodup:=by decide+kernel
theorem Gw:(["columns","column","further","chosen"]:List Str).Nodup:=by decide+kernel
theorem He:(["_law_found","?_law_one","_law_one"]:List Str).Nodup:=by decide+kernel
theorem E8:(["_law_found","?_law_one","_law_one","_law_two"]:List Str).Nodup:=by decide+kernel
theorem GV:(["_law_tuples","_law_many","?_law_power","_law_number","_law_power"]:List Str).Nodup:=by decide+kernel
theorem EX:(["_law_one","_law_other","_law_found","_law_power","_law_number","_law_more","_law_often"]:List Str).Nodup:=by decide+kernel
theorem G0:(["_law_bag_here","_law_found","_law_k","_law_one"]:List Str).Nodup:=by decide+kernel
theorem GB:(["_law_n","_law_found","_law_k","_law_longer","_law_order","_law_sign","_law_at"]:List Str).Nodup:=by decide+kernel
theorem Gx:(["_law_rows","_law_row"]:List Str).Nodup:=by decide+kernel
theorem EZ:(["_law_rows","_law_row","_law_one"]:List Str).Nodup:=by decide+kernel
theorem CG:(["_law_rows","_law_due","_law_handed","_law_turn","_law_found","_law_power","_law_many"]:List Str).Nodup:=by decide+kernel
theorem FC:(["_law_script","_law_k","_law_bag_here","_law_way","_law_n","_law_rows","_law_i"]:List Str).Nodup:=by decide+kernel
theorem ER:(["_law_script","_law_k","_law_bag_here","_law_way","_law_n","_law_rows","_law_i","_law_j"]:List Str).Nodup:=by decide+kernel
section
variable {P:IP}{w:Jo}{K:Il}{mg:Str->Option Ia}{base:Heap}
abbrev uh:Stmt:=ni 1
abbrev ph:Stmt:=ni 2
abbrev fO:Stmt:=ni 3
abbrev iu:Stmt:=ni 4
abbrev dM:Stmt:=ni 5
abbrev fI:Stmt:=ni 6
abbrev jf:Stmt:=ni 8
abbrev kf:Stmt:=ni 9
abbrev jg:Stmt:=ni 10
abbrev hJ:Stmt:=ni 11
abbrev gu:Stmt:=ni 12
abbrev gm:Stmt:=ni 13
abbrev fD:Stmt:=ni 14
abbrev gU:Stmt:=ni 15
abbrev gy:Stmt:=ni 16
abbrev gY:Stmt:=ni 17
abbrev jl:Stmt:=ni 18
abbrev ij:Stmt:=ni 19
abbrev jz:Stmt:=ni 20
theorem sc_tidy:FnScope ["tuples","found","power","many"] ["tuples"] (av uh):=⟨rfl,rfl,rfl,by decide+kernel,rfl,by decide+kernel,by decide+kernel⟩
def sY:FS:=
 aS (vP 1)
 (aS (cD (b9 (bR (ao 0))) (gT 2 (cx (gN 2) (cx (gN 3) (gb)))) (lW 1 (ao 2) (aB bt (lT 1 (ao 2) (ax (.int 0))) (ao 3))))
 (bo (bJ 1 (bR (sf 1)) (gN 4) (cs (aB nl (sI 1 (ao 4)) (ax (.int 0)))) (bB (ae (ao 4) (ae (sI 1 (ao 4)) (ag)))))))
def iH:List D->Option D:=j7 .n 4 sY
theorem De(B:Bt mg)(F:Df K mg "tidy" uh ["tuples"]):Cl P w K mg base 1 "tidy" ["tuples"] (fj K .n 1 iH):=by
 refine b8 (k:=0) F sc_tidy (by decide) rfl λ_ cdv A outer s H hid E hr=>?_
 exact(ay (uW 1 sc_tidy.nd)
  (ay (cq Jz rfl (DIp.e (bv (aj 0))) (cw (n:=2) rfl (aN (aw 2 sc_tidy.nd) (aN (aw 3 sc_tidy.nd) cu))) (aE (wd 1 (eW hr) (aj 2) (cN (uQ 1 (eW hr) (aj 2) ak ⟨rfl,rfl,rfl,rfl⟩) (aj 3)))))
  (aE (bn (dP (N':=["tuples","found","?power","many","power"]) rfl (bP (IL rfl)) (DIp.b (bv (DP.toS (rL 1 rfl B.b_sorted)))) (λ_ _ _ _=>(aw 4 GH)) (λ_ _ _ _=>(lD (cz (ju hr.units) mQ (pZ 1 (eW hr) (aj 4) (λ_ _=>rfl)) ak (bU _)))) (λ_ _ _ _=>(cA (ai (aj 4) (ai (pZ 1 (eW hr) (aj 4) (λ_ _=>rfl)) az)))))))))
theorem yM:FnScope ["one","other"] ["one","other"] (av ph):=⟨rfl,rfl,rfl,by decide+kernel,rfl,by decide+kernel,by decide+kernel⟩
def o6:FS:=
 bo (aq (nF 1 iH) (ae (xB 4 (bR (ao 0)) (gT 2 (cx (gN 2) (cx (gN 3) (gb)))) (cB) (bR (ao 1)) (gT 2 (cx (gN 4) (cx (gN 5) (gb)))) (cB) (bB (ae (aB bt (ao 2) (ao 4)) (ae (aB bz (ao 3) (ao 5)) (ag))))) (ag)))
def gl:List D->Option D:=j7 .n 2 o6
theorem A9(B:Bt mg)(F:Df K mg "times" ph ["one","other"])(ka:Cl P w K mg base 1 "tidy" ["tuples"] (fj K .n 1 iH)):Cl P w K mg base 2 "times" ["one","other"] (fj K .n 2 gl):=by
 refine b8 (k:=1) F yM (by decide) rfl λ_ cdv A outer s H hid E hr=>?_
 exact(aE (bn (dq ka (hr.mono (by decide)) (ai (DP.toS (Ag (N':=["one","other","power","many","raised","often"]) rfl 4 (l9 (bK (bP (IL rfl)) (bK (bP (IL rfl)) fX))) (Gq (sP (Fo (IL rfl)) (sP (Fo (IL rfl)) AN))) (l9 (bK (bP (IL rfl)) (bK (bP (IL rfl)) fX))) (DIp.b (bv (aj 0))) (λ_ _ _ _=>(cw (n:=2) rfl (aN (aw 2 A2) (aN (aw 3 A2) cu)))) (λ_ _ _ _=>cW) (λ_ _ _ _=>(bv (aj 1))) (λ_ _ _ _=>(cw (n:=2) rfl (aN (aw 4 A2) (aN (aw 5 A2) cu)))) (λ_ _ _ _=>cW) (λ_ _ _ _=>(cA (ai (cN (aj 2) (aj 4)) (ai (eR (aj 3) (aj 5)) az)))))) az))))
theorem sc_put_product:FnScope ["into","one","other","sign","power","many","raised"] ["into","one","other","sign"] (av fO):=⟨rfl,rfl,rfl,by decide+kernel,rfl,by decide+kernel,by decide+kernel⟩
def jb:FS:=
 cD (b9 (bR (ao 1))) (gT 2 (cx (gN 4) (cx (gN 5) (gb)))) (cD (b9 (uT 2)) (gN 6) (oo 0 (aB bt (ao 4) (ao 6)) (aB bt (oj 0 (aB bt (ao 4) (ao 6)) (ax (.int 0))) (aB bz (aB bz (ao 3) (ao 5)) (yX 2 (ao 6))))))
def bA:mi->mi->D->D->Option mi:=Bz 7 jb
theorem nK(B:Bt mg)(F:Df K mg "put_product" fO ["into","one","other","sign"]):Cl P w K mg base 1 "put_product" ["into","one","other","sign"] (wV K bA):=by
 refine E7 (k:=0) F sc_put_product rfl (by decide) λ_ cdv A outer s H hid a E H0 hr=>?_
 exact(aE (cq Jz rfl (DIp.e (bv (aj 1))) (cw (n:=2) rfl (aN (aw 4 sc_put_product.nd) (aN (aw 5 sc_put_product.nd) cu))) (aE (cq Jz rfl (DIp.e (AF 2)) (aw 6 sc_put_product.nd) (aE (yt 0 (eW hr) (cN (aj 4) (aj 6)) (cN (x9 0 (eW hr) (cN (aj 4) (aj 6)) ak ⟨rfl,rfl,rfl,rfl⟩) (eR (eR (aj 3) (aj 5)) (Bm 2 (eW hr) (aj 6) (λ_ _=>rfl))))))))))
theorem sc_sign_past:FnScope ["columns","column","further"] ["columns","column"] (av iu):=⟨rfl,rfl,rfl,by decide+kernel,rfl,by decide+kernel,by decide+kernel⟩
def iI:FS:=
 aS (cS 2 (bJ 1 (bR (ao 0)) (gN 3) (cs (aB EL (ao 3) (ao 1))) (ao 3)))
 (bo (CN (cs (aB xF (aB bY (aq dB (ae (ao 2) (ag))) (ax (.int 2))) (ax (.int 1)))) (fG (ax (.int 1))) (ax (.int 1))))
def eD:List D->Option D:=j7 .s 3 iI
theorem qg(B:Bt mg)(F:Df K mg "sign_past" iu ["columns","column"]):Cl P w K mg base 1 "sign_past" ["columns","column"] (fj K .s 2 eD):=by
 refine b8 (k:=0) F sc_sign_past (by decide) rfl λ_ cdv A outer s H hid E hr=>?_
 exact(ay (AW 2 (N':=["columns","column","further","chosen"]) rfl sc_sign_past.nd (bP (IL rfl)) (DIp.b (bv (aj 0))) (λ_ _ _ _=>(aw 3 Gw)) (λ_ _ _ _=>(lD (cz CC lX (aj 3) (aj 1) (bU _)))) (λ_ _ _ _=>(aj 3)))
  (aE (bn (E3 (by decide) (cz (ml hr.units) qA (fK (bN bW jq B.b_len (bw (aj 2) ce) (hv:=by kernel_rfl)) ak) ak (bU _)) (gG ak) ak))))
theorem sc_minors_further:FnScope ["minors","row","found","columns","column","entry","more","into"] ["minors","row"] (av dM):=⟨rfl,rfl,rfl,by decide+kernel,rfl,by decide+kernel,by decide+kernel⟩
def dD:FS:=
 aS (Fs 2)
 (aS (cD (b9 (F2 0)) (gN 3) (cD (b9 (x8 (ao 1))) (gT 2 (cx (gN 4) (cx (gN 5) (gb)))) (gO (i6 (fB (ao 5)) (cs (aB (CT true) (ao 4) (ao 3)))) (nR 2 7 6 0 3 (um (aq iQ (ae (aB jK (ao 3) (bB (ae (ao 4) (ag)))) (ag)))) bA (ao 5) (aq (nF 2 eD) (ae (ao 3) (ae (ao 4) (ag))))) (skip))))
 (skip))
def bb:ca->D->Option ca:=Gk 8 2 dD
theorem km(B:Bt mg)(F:Df K mg "minors_further" dM ["minors","row"])(fH:Cl P w K mg base 1 "put_product" ["into","one","other","sign"] (wV K bA))(h8:Cl P w K mg base 1 "sign_past" ["columns","column"] (fj K .s 2 eD)):Cl P w K mg base 2 "minors_further" ["minors","row"] (E4 K bb):=by
 refine F6 (k:=1) F sc_minors_further rfl (by decide) λ_ cdv A outer s H hid E hr=>?_
 exact(vZ (k:=.s) (Eg 2 sc_minors_further.nd)
  (vZ (k:=.s) (cq Jz rfl (DIp.e (Ba 0)) (aw 3 sc_minors_further.nd) (aE (cq Jz rfl (DIp.e (xc (aj 1) B.b_enumerate)) (cw (n:=2) rfl (aN (aw 4 sc_minors_further.nd) (aN (aw 5 sc_minors_further.nd) cu))) (aE (gX (DW.dt (Aj (jv (aj 5)) (uV (cz (xr hr.units) (F9 true) (aj 4) (aj 3) (by with_unfolding_all rfl))))) (xT 2 7 6 0 3 (by decide) (by decide) (by decide) sc_minors_further.nd (eW hr) (xW (bN si wF B.b_sorted (bw (qa (aj 3) (cA (ai (aj 4) az))) ce) (hv:=by kernel_rfl)) B.b_tuple) fH (hr.mono (by decide)) (aj 5) (dq h8 (hr.mono (by decide)) (ai (aj 3) (ai (aj 4) az))) ⟨rfl,rfl,rfl,rfl⟩) di)))))
  (CZ 2)))
theorem sc_determinant:FnScope ["table","minors","row","whole"] ["table"] (av fI):=⟨rfl,rfl,rfl,by decide+kernel,rfl,by decide+kernel,by decide+kernel⟩
def fP:FS:=
 aS (Er 1)
 (aS (cD (b9 (bR (ao 0))) (gN 2) (opnD 1 (DZ 1 bb (ao 2))))
 (aS (opnD 1 (xA 3 1 (Fu (aq dB (ae (ao 0) (ag))))))
 (bo (aq (nF 1 iH) (ae (DQ 3) (ag))))))
def aL:List D->Option D:=j7 .n 4 fP
theorem nL(B:Bt mg)(F:Df K mg "determinant" fI ["table"])(ka:Cl P w K mg base 1 "tidy" ["tuples"] (fj K .n 1 iH))(dI:Cl P w K mg base 2 "minors_further" ["minors","row"] (E4 K bb)):Cl P w K mg base 3 "determinant" ["table"] (fj K .n 1 aL):=by
 refine b8 (k:=2) F sc_determinant (by decide) rfl λ_ cdv A outer s H hid E hr=>?_
 exact(by refine ay ?_ ?_;(exact(by refine QS.ds ?_;refine Dz 1 sc_determinant.nd (eW hr) yw BN (hs:= ?_);kernel_rfl));exact
  (ay (cq Jz rfl (DIp.e (bv (aj 0))) (aw 2 sc_determinant.nd) (aE (u8 1 (Ff 1 sc_determinant.nd dI (hr.mono (by decide)) (aj 2)))))
  (ay (u8 1 (C5 3 1 sc_determinant.nd (eW hr) (qM rfl B.b_tuple B.b_range (bN bW jq B.b_len (bw (aj 0) ce) (hv:=by kernel_rfl))) ⟨rfl,rfl,rfl,rfl⟩))
  (aE (bn (dq ka (hr.mono (by decide)) (ai (DP.toS (zB 3 rfl B.b_list)) az)))))))
theorem qP:FnScope ["_law_script","_law_k"] ["_law_script","_law_k"] (av jf):=⟨rfl,rfl,rfl,by decide+kernel,rfl,by decide+kernel,by decide+kernel⟩
def uD:FS:=
 aS (gO (cs (aB Ax (ao 1) (aq dB (ae (ao 0) (ag))))) (bo (aB en (ao 0) (ao 1))) (skip))
 (bo (ax (.int 0)))
def jt:List D->Option D:=j7 .s 2 uD
theorem tI(B:Bt mg)(F:Df K mg "_law_cell" jf ["_law_script","_law_k"]):Cl P w K mg base 1 "_law_cell" ["_law_script","_law_k"] (fj K .s 2 jt):=by
 refine b8 (k:=0) F qP (by decide) rfl λ_ cdv A outer s H hid E hr=>?_
 exact(ay (gX (cz vO lX (aj 1) (bN bW jq B.b_len (bw (aj 0) ce) (hv:=by kernel_rfl)) (bU _)) (aE (bn (du bO cP (aj 0) (aj 1) (λ_ _=>rfl)))) di)
  (aE (bn ak)))
theorem sc_law_bag:FnScope ["_law_script","_law_at","_law_cell_here","_law_mix","_law_k"] ["_law_script","_law_at"] (av kf):=⟨rfl,rfl,rfl,by decide+kernel,rfl,by decide+kernel,by decide+kernel⟩
def xp:FS:=
 aS (cS 2 (aB bY (aq nC (ae (aq (nF 2 jt) (ae (ao 0) (ae (ao 1) (ag)))) (ag))) (aB bz (aB bz (aB df (ax (.int 10)) (ax (.int 60))) (aB df (ax (.int 10)) (ax (.int 60)))) (aB df (ax (.int 10)) (ax (.int 60))))))
 (aS (gO (cs (aB Gn (ao 2) (aB df (ax (.int 10)) (ax (.int 18))))) (bo (cn (ae (ao 2) (ae (ax (.int 0)) (ag))))) (skip))
 (aS (cS 3 (aB bY (aB bt (aB bt (ao 2) (aB bz (ax (.int 7919)) (ao 1))) (ax (.int 17))) (ax (.int 2147483647))))
 (aS (cD (b9 (cY (ae (aq my (ae (aq dB (ae (ao 0) (ag))) (ae (ax (.int 9)) (ag)))) (ag)))) (gN 4) (cS 3 (aB bY (aB bt (aB bt (aB df (ao 3) (ax (.int 5))) (aB bY (aB en (ao 0) (ao 4)) (ax (.int 2147483629)))) (aB bz (ax (.int 31)) (ao 4))) (ax (.int 2147483647)))))
 (bo (cn (ae (ao 3) (ae (ax (.int 1)) (ag))))))))
def iV:List D->Option D:=j7 .n 5 xp
theorem xy(B:Bt mg)(F:Df K mg "_law_bag" kf ["_law_script","_law_at"])(jr:Cl P w K mg base 1 "_law_cell" ["_law_script","_law_k"] (fj K .s 2 jt)):Cl P w K mg base 2 "_law_bag" ["_law_script","_law_at"] (fj K .n 2 iV):=by
 refine b8 (k:=1) F sc_law_bag (by decide) rfl λ_ cdv A outer s H hid E hr=>?_
 exact(ay (fw 2 sc_law_bag.nd (fK (bN rS zO B.b_abs (bw (dq jr (hr.mono (by decide)) (ai (aj 0) (ai (aj 1) az))) ce) (hv:=by kernel_rfl)) (eR (eR (kh ak ak) (kh ak ak)) (kh ak ak))))
  (ay (gX (cz ET lX (aj 2) (kh ak ak) (bU _)) (aE (bn (cT (ai (aj 2) (ai ak az))))) di)
  (ay (fw 3 sc_law_bag.nd (fK (cN (cN (aj 2) (eR ak (aj 1))) ak) ak))
  (ay (cq Jz rfl (DIp.e (cM B.b_range (ai (bN (wQ rfl) B7 B.b_min (bw (bN bW jq B.b_len (bw (aj 0) ce) (hv:=by kernel_rfl)) (bw ak ce)) (hv:=by kernel_rfl)) az))) (aw 4 sc_law_bag.nd) (aE (fw 3 sc_law_bag.nd (fK (cN (cN (kh (aj 3) ak) (fK (du bO cP (aj 0) (aj 4) (λ_ _=>rfl)) ak)) (eR ak (aj 4))) ak))))
  (aE (bn (cT (ai (aj 3) (ai ak az)))))))))
theorem sc_law_take:FnScope ["_law_bag_here","_law_many","_law_digit"] ["_law_bag_here","_law_many"] (av jg):=⟨rfl,rfl,rfl,by decide+kernel,rfl,by decide+kernel,by decide+kernel⟩
def uw:FS:=
 aS (gO (cs (aB xF (aB en (iL 0) (ax (.int 1))) (ax (.int 0)))) (aS (cS 2 (aB bY (aB en (iL 0) (ax (.int 0))) (ao 1)))
 (aS (jX (eS 0 (ax (.int 0))) (pu (aB jG (aB en (iL 0) (ax (.int 0))) (ao 1))))
 (bo (ao 2)))) (skip))
 (aS (jX (eS 0 (ax (.int 0))) (pu (aB bY (aB bt (aB bt (aB df (aB en (iL 0) (ax (.int 0))) (ax (.int 5))) (aB bz (ax (.int 48271)) (aB en (iL 0) (ax (.int 1))))) (ax (.int 11))) (ax (.int 2147483647)))))
 (aS (jX (eS 0 (ax (.int 1))) (pu (aB bt (aB en (iL 0) (ax (.int 1))) (ax (.int 1)))))
 (bo (aB bY (aB jG (aB bY (aB bz (aB en (iL 0) (ax (.int 0))) (ax (.int 69621))) (ax (.int 2147483629))) (ax (.int 8))) (ao 1)))))
def aP:List D->List D->Option (D×List D):=AA .s 3 uw
theorem ur(B:Bt mg)(F:Df K mg "_law_take" jg ["_law_bag_here","_law_many"]):Cl P w K mg base 1 "_law_take" ["_law_bag_here","_law_many"] (Ay K .s 1 aP):=by
 refine Af (k:=0) F sc_law_take (by decide) rfl λ_ cdv A outer s H hid a E hr=>?_
 exact(ay (gX (cz (ml hr.units) qA (du bO cP (gM 0) ak (λ_ _=>rfl)) ak (bU _)) (ay (fw 2 sc_law_take.nd (fK (du bO cP (gM 0) ak (λ_ _=>rfl)) (aj 1)))
  (ay (oS (DP.ef (uU (du bO cP (gM 0) ak (λ_ _=>rfl)) (aj 1))) (ly 0 ak))
  (aE (bn (aj 2))))) di)
  (ay (oS (DP.ef (fK (cN (cN (kh (du bO cP (gM 0) ak (λ_ _=>rfl)) ak) (eR ak (du bO cP (gM 0) ak (λ_ _=>rfl)))) ak) ak)) (ly 0 ak))
  (ay (oS (DP.ef (cN (du bO cP (gM 0) ak (λ_ _=>rfl)) ak)) (ly 0 ak))
  (aE (bn (fK (uU (fK (eR (du bO cP (gM 0) ak (λ_ _=>rfl)) ak) ak) ak) (aj 1)))))))
theorem oR:FnScope ["_law_thing"] ["_law_thing"] (av hJ):=⟨rfl,rfl,rfl,by decide+kernel,rfl,by decide+kernel,by decide+kernel⟩
def qQ:FS:=
 bo (xM (i6 (cs (nz "int" (ao 0))) (cs (xM (fF (cs (nz "bool" (ao 0))))))))
def fh:List D->Option D:=j7 .s 1 qQ
theorem qw(B:Bt mg)(F:Df K mg "_law_whole" hJ ["_law_thing"]):Cl P w K mg base 1 "_law_whole" ["_law_thing"] (fj K .s 1 fh):=by
 refine b8 (k:=0) F oR (by decide) rfl λ_ cdv A outer s H hid E hr=>?_
 exact(aE (bn (Ak (pY "int" C0 (aj 0) B.b_isinstance B.b_int) (yW (DV (pY "bool" BB (aj 0) B.b_isinstance B.b_bool))))))
theorem sc_law_is_sum:FnScope ["_law_found","_law_one"] ["_law_found"] (av gu):=⟨rfl,rfl,rfl,by decide+kernel,rfl,by decide+kernel,by decide+kernel⟩
def pk:FS:=
 aS (gO (fF (fB (nz "list" (ao 0)))) (bo (ax (.bl false))) (skip))
 (aS (cD (b9 (bR (ao 0))) (gN 1) (gO (pS (fF (fB (nz "tuple" (ao 1)))) (pS (cs (aB nl (aq dB (ae (ao 1) (ag))) (ax (.int 2)))) (pS (fF (fB (aq (nF 1 fh) (ae (aB en (ao 1) (ax (.int 0))) (ag))))) (fF (fB (aq (nF 1 fh) (ae (aB en (ao 1) (ax (.int 1))) (ag)))))))) (bo (ax (.bl false))) (skip)))
 (bo (xM (i6 (cs (aq uJ (ae (bJ 1 (bR (ao 0)) (gN 2) (cB) (aB nl (aB en (ao 2) (ax (.int 1))) (ax (.int 0)))) (ag)))) (cs (aq uJ (ae (bJ 2 (ud (ao 0) (gJ (ao 0) (nM (ax (.int 1))) vU)) (gT 2 (cx (gN 2) (cx (gN 3) (gb)))) (cB) (aB Ax (aB en (ao 2) (ax (.int 0))) (aB en (ao 3) (ax (.int 0))))) (ag))))))))
def bQ:List D->Option D:=j7 .s 2 pk
theorem oZ(B:Bt mg)(F:Df K mg "_law_is_sum" gu ["_law_found"])(fu:Cl P w K mg base 1 "_law_whole" ["_law_thing"] (fj K .s 1 fh)):Cl P w K mg base 2 "_law_is_sum" ["_law_found"] (fj K .s 1 bQ):=by
 refine b8 (k:=1) F sc_law_is_sum (by decide) rfl λ_ cdv A outer s H hid E hr=>?_
 exact(ay (gX (ku (jv (pY "list" BL (aj 0) B.b_isinstance B.b_list))) (aE (bn oJ)) di)
  (ay (cq Jz rfl (DIp.e (bv (aj 0))) (aw 1 sc_law_is_sum.nd) (aE (gX (DW.dt (qS (ku (jv (pY "tuple" yy (aj 1) B.b_isinstance B.b_tuple))) (qS (cz (ju hr.units) mQ (bN bW jq B.b_len (bw (aj 1) ce) (hv:=by kernel_rfl)) ak (bU _)) (qS (ku (jv (dq fu (hr.mono (by decide)) (ai (du bO cP (aj 1) ak (λ_ _=>rfl)) az)))) (yQ (ku (jv (dq fu (hr.mono (by decide)) (ai (du bO cP (aj 1) ak (λ_ _=>rfl)) az))))))))) (aE (bn oJ)) di)))
  (aE (bn (Ak (bN (qy rfl) zK B.b_all (bw (dP (N':=["_law_found","?_law_one","_law_one"]) rfl (bP (IL rfl)) (DIp.b (bv (aj 0))) (λ_ _ _ _=>(aw 2 He)) (λ_ _ _ _=>cW) (λ_ _ _ _=>(pE (ju hr.units) mQ (du bO cP (aj 2) ak (λ_ _=>rfl)) ak (bU _)))) ce) (hv:=by kernel_rfl)) (yW (bN (qy rfl) zK B.b_all (bw (dP (N':=["_law_found","?_law_one","_law_one","_law_two"]) rfl (l9 (bK (bP (IL rfl)) (bK (bP (IL rfl)) fX))) (DIp.b (AI (aj 0) (DP.toS (oP (aj 0) (gg ak) jA)) B.b_zip)) (λ_ _ _ _=>(cw (n:=2) rfl (aN (aw 2 E8) (aN (aw 3 E8) cu)))) (λ_ _ _ _=>cW) (λ_ _ _ _=>(pE vO lX (du bO cP (aj 2) ak (λ_ _=>rfl)) (du bO cP (aj 3) ak (λ_ _=>rfl)) (bU _)))) ce) (hv:=by kernel_rfl))))))))
theorem sc_law_summed:FnScope ["_law_tuples","_law_many","_law_power","_law_number"] ["_law_tuples"] (av gm):=⟨rfl,rfl,rfl,by decide+kernel,rfl,by decide+kernel,by decide+kernel⟩
def pV:FS:=
 aS (vP 1)
 (aS (cD (b9 (bR (ao 0))) (gT 2 (cx (gN 2) (cx (gN 3) (gb)))) (lW 1 (ao 2) (aB bt (lT 1 (ao 2) (ax (.int 0))) (ao 3))))
 (bo (bJ 1 (bR (sf 1)) (gN 4) (cs (aB nl (sI 1 (ao 4)) (ax (.int 0)))) (bB (ae (ao 4) (ae (sI 1 (ao 4)) (ag)))))))
def bh:List D->Option D:=j7 .n 4 pV
theorem oM(B:Bt mg)(F:Df K mg "_law_summed" gm ["_law_tuples"]):Cl P w K mg base 1 "_law_summed" ["_law_tuples"] (fj K .n 1 bh):=by
 refine b8 (k:=0) F sc_law_summed (by decide) rfl λ_ cdv A outer s H hid E hr=>?_
 exact(ay (uW 1 sc_law_summed.nd)
  (ay (cq Jz rfl (DIp.e (bv (aj 0))) (cw (n:=2) rfl (aN (aw 2 sc_law_summed.nd) (aN (aw 3 sc_law_summed.nd) cu))) (aE (wd 1 (eW hr) (aj 2) (cN (uQ 1 (eW hr) (aj 2) ak ⟨rfl,rfl,rfl,rfl⟩) (aj 3)))))
  (aE (bn (dP (N':=["_law_tuples","_law_many","?_law_power","_law_number","_law_power"]) rfl (bP (IL rfl)) (DIp.b (bv (DP.toS (rL 1 rfl B.b_sorted)))) (λ_ _ _ _=>(aw 4 GV)) (λ_ _ _ _=>(lD (cz (ju hr.units) mQ (pZ 1 (eW hr) (aj 4) (λ_ _=>rfl)) ak (bU _)))) (λ_ _ _ _=>(cA (ai (aj 4) (ai (pZ 1 (eW hr) (aj 4) (λ_ _=>rfl)) az)))))))))
theorem sc_law_product:FnScope ["_law_one","_law_other","_law_found","_law_power","_law_number"] ["_law_one","_law_other"] (av fD):=⟨rfl,rfl,rfl,by decide+kernel,rfl,by decide+kernel,by decide+kernel⟩
def fC:FS:=
 aS (fL 2 (cn (ag)))
 (aS (cD (b9 (bR (ao 0))) (gT 2 (cx (gN 3) (cx (gN 4) (gb)))) (dY (qz 2 (bJ 2 (bR (ao 1)) (gT 2 (cx (gN 5) (cx (gN 6) (gb)))) (cB) (bB (ae (aB bt (ao 3) (ao 5)) (ae (aB bz (ao 4) (ao 6)) (ag))))))))
 ((λρ=>(bo (aq (nF 1 bh) (ae (ao 2) (ag)))) (nE 2 ρ))))
def ba:List D->Option D:=j7 .n 5 fC
theorem nJ(B:Bt mg)(F:Df K mg "_law_product" fD ["_law_one","_law_other"])(bx:Cl P w K mg base 1 "_law_summed" ["_law_tuples"] (fj K .n 1 bh)):Cl P w K mg base 2 "_law_product" ["_law_one","_law_other"] (fj K .n 2 ba):=by
 refine b8 (k:=1) F sc_law_product (by decide) rfl λ_ cdv A outer s H hid E hr=>?_
 exact(ay (fx 2 sc_law_product.nd (cT az))
  (ay (cq Jz rfl (DIp.e (bv (aj 0))) (cw (n:=2) rfl (aN (aw 3 sc_law_product.nd) (aN (aw 4 sc_law_product.nd) cu))) (aE (jI (wx 2 (dP (N':=["_law_one","_law_other","_law_found","_law_power","_law_number","_law_more","_law_often"]) rfl (l9 (bK (bP (IL rfl)) (bK (bP (IL rfl)) fX))) (DIp.b (bv (aj 1))) (λ_ _ _ _=>(cw (n:=2) rfl (aN (aw 5 EX) (aN (aw 6 EX) cu)))) (λ_ _ _ _=>cW) (λ_ _ _ _=>(cA (ai (cN (aj 3) (aj 5)) (ai (eR (aj 4) (aj 6)) az)))))))))
  (aE (m7 2 (bn (dq bx (hr.mono (by decide)) (ai (aj 2) az)))))))
theorem sc_law_small:FnScope ["_law_bag_here","_law_found","_law_k"] ["_law_bag_here"] (av gU):=⟨rfl,rfl,rfl,by decide+kernel,rfl,by decide+kernel,by decide+kernel⟩
def ik:FS:=
 aS (fL 1 (cn (ag)))
 (aS (cD (zt (eX (bu 0 1 aP (b9 (ae (ax (.int 4)) (ag)))) (b9 (ag)))) (gN 2) (dY (bu 1 1 pG (eX (qJ (eX (fA lc (bu 0 1 aP (b9 (ae (ax (.int 13)) (ag)))) (pu (ax (.int 6)))) (eX (fA bz (fA en (pu (cn (ae (ax (.int 1)) (ae (fG (ax (.int 1))) (ag))))) (bu 0 1 aP (b9 (ae (ax (.int 2)) (ag))))) (fA bt (pu (ax (.int 1))) (bu 0 1 aP (b9 (ae (ax (.int 9)) (ag)))))) (b9 (ag))))) (b9 (ag))))))
 ((λρ=>(bo (bJ 1 (bR (aq (nF 1 bh) (ae (ao 1) (ag)))) (gN 3) (cs (aB Ax (aq nC (ae (aB en (ao 3) (ax (.int 1))) (ag))) (ax (.int 10)))) (ao 3))) (nE 1 ρ))))
def cb:List D->List D->Option (D×List D):=AA .n 3 ik
theorem rT(B:Bt mg)(F:Df K mg "_law_small" gU ["_law_bag_here"])(bL:Cl P w K mg base 1 "_law_take" ["_law_bag_here","_law_many"] (Ay K .s 1 aP))(bx:Cl P w K mg base 1 "_law_summed" ["_law_tuples"] (fj K .n 1 bh)):Cl P w K mg base 2 "_law_small" ["_law_bag_here"] (Ay K .n 0 cb):=by
 refine Af (k:=1) F sc_law_small (by decide) rfl λ_ cdv A outer s H hid a E hr=>?_
 exact(ay (fx 1 sc_law_small.nd (cT az))
  (ay (cq Jz rfl (xa B.b_range (lF (lR 0 bL (hr.mono (by decide)) (DA.gf (ai ak az))) (DA.gf az))) (aw 2 sc_law_small.nd) (aE (jI (wj 1 oa fR N1 N2 (lF (DF (lF (Dp (lR 0 bL (hr.mono (by decide)) (DA.gf (ai ak az))) (DP.ef ak)) (lF (DC (Fd bO cP (DE.toS (DP.ef (cT (ai ak (ai (gG ak) az))))) (lR 0 bL (hr.mono (by decide)) (DA.gf (ai ak az))) (λ_ _=>rfl)) (C9 (DP.ef ak) (lR 0 bL (hr.mono (by decide)) (DA.gf (ai ak az))))) (DA.gf az)))) (DA.gf az))))))
  (aE (m7 1 (bn (dP (N':=["_law_bag_here","_law_found","_law_k","_law_one"]) rfl (bP (IL rfl)) (DIp.b (bv (DP.toS (dq bx (hr.mono (by decide)) (ai (aj 1) az))))) (λ_ _ _ _=>(aw 3 G0)) (λ_ _ _ _=>(lD (cz vO lX (bN rS zO B.b_abs (bw (du bO cP (aj 3) ak (λ_ _=>rfl)) ce) (hv:=by kernel_rfl)) ak (bU _)))) (λ_ _ _ _=>(aj 3))))))))
theorem sc_law_orders:FnScope ["_law_n","_law_found","_law_k","_law_longer","_law_order","_law_sign"] ["_law_n"] (av gy):=⟨rfl,rfl,rfl,by decide+kernel,rfl,by decide+kernel,by decide+kernel⟩
def pC:FS:=
 aS (cS 1 (cn (ae (bB (ae (bB (ag)) (ae (ax (.int 1)) (ag)))) (ag))))
 (aS (cD (b9 (cY (ae (ao 0) (ag)))) (gN 2) (aS (fL 3 (cn (ag)))
 (aS (cD (b9 (bR (ao 1))) (gT 2 (cx (gN 4) (cx (gN 5) (gb)))) (dY (qz 3 (bJ 1 (cY (ae (aB bt (ao 2) (ax (.int 1))) (ag))) (gN 6) (cB) (bB (ae (aB jK (aB jK (AD (ao 4) vU (nM (ao 6))) (bB (ae (ao 2) (ag)))) (AD (ao 4) (nM (ao 6)) vU)) (ae (aB bz (ao 5) (aB en (cn (ae (ax (.int 1)) (ae (fG (ax (.int 1))) (ag)))) (aB bY (aB lc (ao 2) (ao 6)) (ax (.int 2))))) (ag))))))))
 ((λρ=>(cS 1 (ao 3)) (nE 3 ρ))))))
 (bo (ao 1)))
def cU:List D->Option D:=j7 .s 6 pC
theorem pK(B:Bt mg)(F:Df K mg "_law_orders" gy ["_law_n"]):Cl P w K mg base 1 "_law_orders" ["_law_n"] (fj K .s 1 cU):=by
 refine b8 (k:=0) F sc_law_orders (by decide) rfl λ_ cdv A outer s H hid E hr=>?_
 exact(QSs.to (qX (AZ 1 sc_law_orders.nd (C3 (oV (Ad (oV (Ad uE) (oV (QP.of ak) uE) gK)) uE gK)))
  (qX (QS.of (cq Jz rfl (DIp.e (cM B.b_range (ai (aj 0) az))) (aw 2 sc_law_orders.nd) (ay (fx 3 sc_law_orders.nd (cT az))
  (ay (cq Jz rfl (DIp.e (bv (aj 1))) (cw (n:=2) rfl (aN (aw 4 sc_law_orders.nd) (aN (aw 5 sc_law_orders.nd) cu))) (aE (jI (wx 3 (dP (N':=["_law_n","_law_found","_law_k","_law_longer","_law_order","_law_sign","_law_at"]) rfl (bP (IL rfl)) (DIp.b (cM B.b_range (ai (cN (aj 2) ak) az))) (λ_ _ _ _=>(aw 6 GB)) (λ_ _ _ _=>cW) (λ_ _ _ _=>(cA (ai (qa (qa (vc (aj 4) jA (gg (aj 6))) (cA (ai (aj 2) az))) (vc (aj 4) (gg (aj 6)) jA)) (ai (eR (aj 5) (du bO cP (cT (ai ak (ai (gG ak) az))) (fK (uu (aj 2) (aj 6)) ak) (λ_ _=>rfl))) az)))))))))
  (aE (m7 3 (fw 1 sc_law_orders.nd (aj 3))))))))
  (BM (QS.of (bn (aj 1)))))))
theorem sc_law_plain:FnScope ["_law_rows","_law_tuples","_law_order","_law_sign","_law_one","_law_i","_law_j"] ["_law_rows"] (av gY):=⟨rfl,rfl,rfl,by decide+kernel,rfl,by decide+kernel,by decide+kernel⟩
def hV:FS:=
 aS (fL 1 (cn (ag)))
 (aS (cD (b9 (bR (aq (nF 1 cU) (ae (aq dB (ae (ao 0) (ag))) (ag))))) (gT 2 (cx (gN 2) (cx (gN 3) (gb)))) (aS (fL 4 (cn (ae (bB (ae (ax (.int 0)) (ae (ao 3) (ag)))) (ag))))
 (aS (cD (b9 (yd (ao 2))) (gT 2 (cx (gN 5) (cx (gN 6) (gb)))) ((λρ=>(fL 4 (aq (nF 2 ba) (ae (ao 4) (ae (aB en (aB en (ao 0) (ao 5)) (ao 6)) (ag))))) (nE 4 ρ))))
 (dY (xw 1 4)))))
 ((λρ=>(bo (aq (nF 1 bh) (ae (ao 1) (ag)))) (nE 1 ρ))))
def eg:List D->Option D:=j7 .n 7 hV
theorem sh(B:Bt mg)(F:Df K mg "_law_plain" gY ["_law_rows"])(gr:Cl P w K mg base 1 "_law_orders" ["_law_n"] (fj K .s 1 cU))(bx:Cl P w K mg base 1 "_law_summed" ["_law_tuples"] (fj K .n 1 bh))(bX:Cl P w K mg base 2 "_law_product" ["_law_one","_law_other"] (fj K .n 2 ba)):Cl P w K mg base 3 "_law_plain" ["_law_rows"] (fj K .n 1 eg):=by
 refine b8 (k:=2) F sc_law_plain (by decide) rfl λ_ cdv A outer s H hid E hr=>?_
 exact(ay (fx 1 sc_law_plain.nd (cT az))
  (ay (cq Jz rfl (DIp.e (bv (dq gr (hr.mono (by decide)) (ai (bN bW jq B.b_len (bw (aj 0) ce) (hv:=by kernel_rfl)) az)))) (cw (n:=2) rfl (aN (aw 2 sc_law_plain.nd) (aN (aw 3 sc_law_plain.nd) cu))) (ay (fx 4 sc_law_plain.nd (cT (ai (cA (ai ak (ai (aj 3) az))) az gK)))
  (ay (cq Jz rfl (DIp.e (zX (aj 2) B.b_enumerate)) (cw (n:=2) rfl (aN (aw 5 sc_law_plain.nd) (aN (aw 6 sc_law_plain.nd) cu))) (aE (m7 4 (fx 4 sc_law_plain.nd (dq bX (hr.mono (by decide)) (ai (aj 4) (ai (du bO cP (du bO cP (aj 0) (aj 5) (λ_ _=>rfl)) (aj 6) (λ_ _=>rfl)) az)))))))
  (aE (jI (AK 1 4))))))
  (aE (m7 1 (bn (dq bx (hr.mono (by decide)) (ai (aj 1) az)))))))
theorem rR:FnScope ["_law_rows"] ["_law_rows"] (av jl):=⟨rfl,rfl,rfl,by decide+kernel,rfl,by decide+kernel,by decide+kernel⟩
def ji:FS:=
 bo (bJ 1 (bR (ao 0)) (gN 1) (cB) (bJ 1 (bR (ao 1)) (gN 2) (cB) (aq zM (ae (ao 2) (ag)))))
def dN:List D->Option D:=j7 .n 1 ji
theorem tK(B:Bt mg)(F:Df K mg "_law_copy" jl ["_law_rows"]):Cl P w K mg base 1 "_law_copy" ["_law_rows"] (fj K .n 1 dN):=by
 refine b8 (k:=0) F rR (by decide) rfl λ_ cdv A outer s H hid E hr=>?_
 exact(aE (bn (dP (N':=["_law_rows","_law_row"]) rfl (bP (IL rfl)) (DIp.b (bv (aj 0))) (λ_ _ _ _=>(aw 1 Gx)) (λ_ _ _ _=>cW) (λ_ _ _ _=>(DP.toS (dP (N':=["_law_rows","_law_row","_law_one"]) rfl (bP (IL rfl)) (DIp.b (bv (aj 1))) (λ_ _ _ _=>(aw 2 EZ)) (λ_ _ _ _=>cW) (λ_ _ _ _=>(DP.toS (xo pW A5 B.b_list (bw (aj 2) ce) (hv:=by kernel_rfl))))))))))
theorem sc_law_right:FnScope ["_law_rows","_law_due","_law_handed","_law_turn","_law_found"] ["_law_rows"] (av ij):=⟨rfl,rfl,rfl,by decide+kernel,rfl,by decide+kernel,by decide+kernel⟩
def gW:FS:=
 aS (cS 1 (aq (nF 1 eg) (ae (ao 0) (ag))))
 (aS (cS 2 (aq (nF 1 dN) (ae (ao 0) (ag))))
 (aS (cD (b9 (cY (ae (ax (.int 2)) (ag)))) (gN 3) (aS (fL 4 (aq (nF 1 aL) (ae (ao 2) (ag))))
 (aS (gO (pS (cs (aB nl (ao 2) (ao 0))) (pS (fF (fB (A3 (aq (nF 1 bQ) (ae (iL 4) (ag)))))) (cs (aB nl (iL 4) (ao 1))))) (bo (ax (.bl false))) (skip))
 (aS (gO (cs (aB nl (EH (aq (nF 2 gl) (ae (iL 4) (ae (cn (ae (bB (ae (fG (ax (.int 3))) (ae (ax (.int 2)) (ag)))) (ae (bB (ae (ax (.int 40)) (ae (fG (ax (.int 1))) (ag)))) (ag)))) (ag))))) (aq (nF 2 ba) (ae (ao 1) (ae (cn (ae (bB (ae (fG (ax (.int 3))) (ae (ax (.int 2)) (ag)))) (ae (bB (ae (ax (.int 40)) (ae (fG (ax (.int 1))) (ag)))) (ag)))) (ag)))))) (bo (ax (.bl false))) (skip))
 (dY (bu 4 1 pG (b9 (ae (bB (ae (ax (.int 99)) (ae (ax (.int 1)) (ag)))) (ag)))))))))
 (aS (gO (cs (aB Ax (aq dB (ae (ao 0) (ag))) (ax (.int 2)))) (bo (ax (.bl true))) (skip))
 (bo (aB xF (aq (nF 1 aL) (ae (aq (nF 1 dN) (ae (aB mB (aB mB (gJ (ao 0) (nM (ax (.int 1))) (nM (ax (.int 2)))) (gJ (ao 0) vU (nM (ax (.int 1))))) (gJ (ao 0) (nM (ax (.int 2))) vU)) (ag))) (ag))) (bJ 2 (bR (ao 1)) (gT 2 (cx (gN 5) (cx (gN 6) (gb)))) (cB) (bB (ae (ao 5) (ae (aB lc (ax (.int 0)) (ao 6)) (ag))))))))))
def cQ:List D->Option D:=j7 .s 5 gW
theorem sJ(B:Bt mg)(F:Df K mg "_law_right" ij ["_law_rows"])(iF:Cl P w K mg base 3 "_law_plain" ["_law_rows"] (fj K .n 1 eg))(gF:Cl P w K mg base 1 "_law_copy" ["_law_rows"] (fj K .n 1 dN))(bM:Cl P w K mg base 3 "determinant" ["table"] (fj K .n 1 aL))(oX:Cl P w K mg base 2 "times" ["one","other"] (fj K .n 2 gl))(bX:Cl P w K mg base 2 "_law_product" ["_law_one","_law_other"] (fj K .n 2 ba))(gw:Cl P w K mg base 2 "_law_is_sum" ["_law_found"] (fj K .s 1 bQ)):Cl P w K mg base 4 "_law_right" ["_law_rows"] (fj K .s 1 cQ):=by
 refine b8 (k:=3) F sc_law_right (by decide) rfl λ_ cdv A outer s H hid E hr=>?_
 exact(ay (fw 1 sc_law_right.nd (DP.toS (dq iF (hr.mono (by decide)) (ai (aj 0) az))))
  (ay (fw 2 sc_law_right.nd (DP.toS (dq gF (hr.mono (by decide)) (ai (aj 0) az))))
  (ay (cq Jz rfl (DIp.e (cM B.b_range (ai ak az))) (aw 3 sc_law_right.nd) (ay (fx 4 sc_law_right.nd (dq bM (hr.mono (by decide)) (ai (aj 2) az)))
  (ay (gX (DW.dt (qS (cz (ju hr.units) mQ (aj 2) (aj 0) (bU _)) (qS (ku (jv (wc gw (hr.mono (by decide)) (bw (gM 4) ce)))) (yQ (cz (ju hr.units) mQ (gM 4) (aj 1) (bU _)))))) (aE (bn oJ)) di)
  (ay (gX (cz (ju hr.units) mQ (BT oX (hr.mono (by decide)) (bw (gM 4) (bw (cT (ai (cA (ai (gG ak) (ai ak az))) (ai (cA (ai ak (ai (gG ak) az))) az gK) gK)) ce))) (dq bX (hr.mono (by decide)) (ai (aj 1) (ai (DP.toS (cT (ai (cA (ai (gG ak) (ai ak az))) (ai (cA (ai ak (ai (gG ak) az))) az gK) gK))) az))) (bU _)) (aE (bn oJ)) di)
  (aE (jI (wj 4 oa fR N1 N2 (DA.gf (ai (cA (ai ak (ai ak az))) az gK)))))))))
  (ay (gX (cz vO lX (bN bW jq B.b_len (bw (aj 0) ce) (hv:=by kernel_rfl)) ak (bU _)) (aE (bn oJ)) di)
  (aE (bn (pE (ml hr.units) qA (dq bM (hr.mono (by decide)) (ai (DP.toS (dq gF (hr.mono (by decide)) (ai (DP.toS (vm (vm (oP (aj 0) (gg ak) (gg ak)) (oP (aj 0) jA (gg ak))) (oP (aj 0) (gg ak) jA))) az))) az)) (dP (N':=["_law_rows","_law_due","_law_handed","_law_turn","_law_found","_law_power","_law_many"]) rfl (l9 (bK (bP (IL rfl)) (bK (bP (IL rfl)) fX))) (DIp.b (bv (aj 1))) (λ_ _ _ _=>(cw (n:=2) rfl (aN (aw 5 CG) (aN (aw 6 CG) cu)))) (λ_ _ _ _=>cW) (λ_ _ _ _=>(cA (ai (aj 5) (ai (uu ak (aj 6)) az))))) (bU _))))))))
theorem sc_law:FnScope ["_law_script","_law_k","_law_bag_here","_law_way","_law_n","_law_rows"] ["_law_script"] (av jz):=⟨rfl,rfl,rfl,by decide+kernel,rfl,by decide+kernel,by decide+kernel⟩
def yk:FS:=
 aS (cD (b9 (cY (ae (ax (.int 2)) (ag)))) (gN 1) (aS (fL 2 (aq (nF 2 iV) (ae (ao 0) (ae (ao 1) (ag)))))
 (aS (sk 3 (bu 2 1 aP (b9 (ae (ax (.int 4)) (ag)))))
 (aS (sk 4 (bu 2 1 aP (b9 (ae (ax (.int 5)) (ag)))))
 (aS (yg 5 (xl 5 (fJ 1 (b9 (cY (ae (ao 4) (ag)))) (gN 6) (cB) (fJ 1 (b9 (cY (ae (ao 4) (ag)))) (gN 7) (cB) (GX (bu 2 0 cb (b9 (ag))))))))
 (aS (gO (i6 (cs (aB xF (ao 3) (ax (.int 1)))) (cs (aB EL (ao 4) (ax (.int 1))))) (jX (eS 5 (aB lc (ao 4) (ax (.int 1)))) (pu (aB en (iL 5) (ax (.int 0))))) (skip))
 (gO (fF (fB (A3 (aq (nF 1 cQ) (ae (iL 5) (ag)))))) (bo (ax (.bl false))) (skip))))))))
 (bo (aB xF (aq (nF 1 aL) (ae (cn (ag)) (ag))) (cn (ae (bB (ae (ax (.int 0)) (ae (ax (.int 1)) (ag)))) (ag)))))
def CB:List D->Option D:=j7 .s 6 yk
theorem D5 {f:Addr}{fd:K6}(B:Bt mg)(F:Fun K "law" "law" jz f fd)(kM:Cl P w K mg base 2 "_law_bag" ["_law_script","_law_at"] (fj K .n 2 iV))(bL:Cl P w K mg base 1 "_law_take" ["_law_bag_here","_law_many"] (Ay K .s 1 aP))(bM:Cl P w K mg base 3 "determinant" ["table"] (fj K .n 1 aL))(hZ:Cl P w K mg base 4 "_law_right" ["_law_rows"] (fj K .s 1 cQ))(iq:Cl P w K mg base 2 "_law_small" ["_law_bag_here"] (Ay K .n 0 cb)):FnOk P w K mg base oA 5 f fd ["_law_script"] (fj K .s 1 CB):=by
 refine wu (k:=4) F sc_law (by decide) λcdv A outer s H hid E hr=>?_
 exact(ay (cq Jz rfl (DIp.e (cM B.b_range (ai ak az))) (aw 1 sc_law.nd) (ay (fx 2 sc_law.nd (dq kM (hr.mono (by decide)) (ai (aj 0) (ai (aj 1) az))))
  (ay (vS 3 sc_law.nd (lR 2 bL (hr.mono (by decide)) (DA.gf (ai ak az))))
  (ay (vS 4 sc_law.nd (lR 2 bL (hr.mono (by decide)) (DA.gf (ai ak az))))
  (ay (AY 5 (zP 5 (N':=["_law_script","_law_k","_law_bag_here","_law_way","_law_n","_law_rows","_law_i"]) rfl sc_law.nd (bP (IL rfl)) (DIp.e (cM B.b_range (ai (aj 4) az))) (λ_ _ _ _=>(aw 6 FC)) (λ_ _ _ _=>cW) (λ_ _ _ _=>(Au (N':=["_law_script","_law_k","_law_bag_here","_law_way","_law_n","_law_rows","_law_i","_law_j"]) rfl (bP (IL rfl)) (DIp.e (cM B.b_range (ai (aj 4) az))) (λ_ _ _ _=>(aw 7 ER)) (λ_ _ _ _=>cW) (λ_ _ _ _=>(DEF.of (lR 2 iq (hr.mono (by decide)) (DA.gf az))))))))
  (ay (gX (DW.dt (Aj (cz (ml hr.units) qA (aj 3) ak (bU _)) (uV (cz CC lX (aj 4) ak (bU _))))) (aE (oS (DP.ef (du bO cP (gM 5) ak (λ_ _=>rfl))) (ly 5 (uu (aj 4) ak)))) di)
  (aE (gX (ku (jv (wc hZ (hr.mono (by decide)) (bw (gM 5) ce)))) (aE (bn oJ)) di))))))))
  (aE (bn (pE (ml hr.units) qA (dq bM (hr.mono (by decide)) (ai (DP.toS (cT az)) az)) (cT (ai (cA (ai ak (ai ak az))) az gK)) (bU _)))))
end
theorem iB {p:FT}{t:FS}{ρ:aA}(h:p ρ=some false):gO p t skip ρ=.nx ρ:=(E5 h).trans rfl
theorem uH {p q:FT}{ρ:aA}{a b:Bool}(h1:p ρ=some a)(h2:q ρ=some b):pS p q ρ=some (a||b):=by
 cases a with
 |true=>exact Ga h1
 |false=>exact tT h1 h2
theorem FQ {p:FT}{f g:FE}{ρ:aA}(h:p ρ=some true):CN p f g ρ=f ρ:=by unfold CN;rw[h];rfl
theorem FB {p:FT}{f g:FE}{ρ:aA}(h:p ρ=some false):CN p f g ρ=g ρ:=by unfold CN;rw[h];rfl
theorem DX {f:FE}{ρ:aA}{ds:List D}(h:f ρ=some (.tup ds)):bR f ρ=some ds:=by unfold bR;rw[h];rfl
theorem cO {f:FE}{ρ:aA}{ds:List D}(h:f ρ=some (.lst ds)):bR f ρ=some ds:=by unfold bR;rw[h];rfl
structure Gd(n:Nat)(r x:List Nat):Prop where
 R:Ord n r
 X:Ord n x
 lo:2<=n
 hi:n<=6
set_option maxHeartbeats 1000000
theorem Ey {kd:Kd}{n:Nat}{t:FS}{bs ds b':List D}{d:D}{ρ:aA}(h:t (o9 n bs ds)=.rt d ρ)(h2:nA ρ=some b'):AA kd n t bs ds=some (d,b'):=by unfold AA;rw[h];dsimp only;rw[h2];rfl
theorem qr {g:FG}{b:FS}{P:Nat->aA->Prop}: ∀(l:List D) (j:Nat),(∀d∈l,∀i ρ,i<j+l.length->P i ρ-> ∃ρ1 ρ2,g d ρ=some ρ1/\b ρ1=.nx ρ2/\P (i+1) ρ2)-> ∀ρ,P j ρ-> ∃ρ',dZ g b l ρ=.nx ρ'/\P (j+l.length) ρ'
 | [],j,_,ρ,p=>⟨ρ,rfl,p⟩
 |d::l,j,h,ρ,p=>by
  obtain⟨ρ1,ρ2,h1,h2,p2⟩:=h d (Is ..) j ρ (by rw[IK];omega) p
  obtain⟨ρ',e,p'⟩:=qr l (j+1) (λd' hd i ρ hi=>h d' (Ii _ hd) i ρ (by rw[IK];omega)) ρ2 p2
  exact⟨ρ',(bI h1 h2).trans e,by rw[IK,Tq l.length 1,<-Sj];exact p'⟩
set_option maxHeartbeats 4000000
def xS:FS:=
 bo (xM (i6 (cs (nz "int" (ao 0))) (cs (xM (fF (cs (nz "bool" (ao 0))))))))
def qT:List D->Option D:=j7 .s 1 xS
def kG:FS:=
 aS (gO (fF (fB (nz "list" (ao 0)))) (bo (ax (.bl false))) (skip))
 (aS (cD (b9 (bR (ao 0))) (gN 1) (gO (pS (fF (fB (nz "tuple" (ao 1)))) (pS (cs (aB nl (aq dB (ae (ao 1) (ag))) (ax (.int 2)))) (pS (fF (fB (aq (nF 1 qT) (ae (aB en (ao 1) (ax (.int 0))) (ag))))) (fF (fB (aq (nF 1 qT) (ae (aB en (ao 1) (ax (.int 1))) (ag)))))))) (bo (ax (.bl false))) (skip)))
 (bo (xM (i6 (cs (aq uJ (ae (bJ 1 (bR (ao 0)) (gN 2) (cB) (aB nl (aB en (ao 2) (ax (.int 1))) (ax (.int 0)))) (ag)))) (cs (aq uJ (ae (bJ 2 (ud (ao 0) (gJ (ao 0) (nM (ax (.int 1))) vU)) (gT 2 (cx (gN 2) (cx (gN 3) (gb)))) (cB) (aB Ax (aB en (ao 2) (ax (.int 0))) (aB en (ao 3) (ax (.int 0))))) (ag))))))))
def wW:List D->Option D:=j7 .s 2 kG
abbrev pD(p:Int×Int):D:=.tup [.int p.1,.int p.2]
def vI(kvs:List (Int×Int))(k:Int):Int:=((kvs.find? λq=>decide (q.1=k)).map (·.2)).getD 0
def jP(kvs:List (Int×Int))(k v:Int):List (Int×Int):=if(kvs.any λq=>decide (q.1=k))=true then kvs.map (λq=>if q.1=k then(q.1,v) else q) else kvs++[(k,v)]
def cE(kvs:List (Int×Int))(p:Int×Int):List (Int×Int):=jP kvs p.1 (vI kvs p.1+p.2)
def mX(L:List (Int×Int)):List (Int×Int):=L.foldl cE []
abbrev i5(kvs:List (Int×Int)):List (aM×D):=kvs.map λq=>(IU q.1,D.int q.2)
theorem uP(a b:Int):decide ((IU a:aM)=IU b)=decide (a=b):=by
 by_cases h:a=b
 ·subst h;simp
 ·rw[decide_eq_false h,decide_eq_false λe=>h (QL e)]
theorem iN(k:Int): ∀kvs:List (Int×Int),iw (i5 kvs) (.inl k)=(kvs.find? λq=>decide (q.1=k)).map λq=>D.int q.2
 | []=>rfl
 |q::r=>by
  have ih:=iN k r
  unfold iw at ih⊢;rw[show i5 (q::r)=(IU q.1,D.int q.2)::i5 r from rfl,JR,JR];dsimp only;rw[uP]
  by_cases h:q.1=k
  ·rw[decide_eq_true h];rfl
  ·rw[decide_eq_false h];exact ih
theorem Dx(k:Int)(kvs:List (Int×Int)):((i5 kvs).any λkv=>decide (kv.1=IU k))=kvs.any λq=>decide (q.1=k):=by
 rw[Ql];congr 1
 funext q;exact uP _ _
theorem vW(k v:Int)(kvs:List (Int×Int)):putD (i5 kvs) (.inl k) (.int v)=i5 (jP kvs k v):=by
 unfold putD jP;rw[Dx];split
 ·show Oa _ (Oa _ kvs)=Oa _ (Oa _ kvs)
  rw[Jl,Jl];refine JP λq _=>?_
  show(if(IU q.1:aM)=IU k then _ else _)=_
  by_cases h:q.1=k
  ·rw[if_pos (by rw[h])];show _=((λq=>(IU q.1,D.int q.2)) (if q.1=k then(q.1,v) else q):aM×D);rw[if_pos h]
  ·rw[if_neg λe=>h (QL e)];show _=((λq=>(IU q.1,D.int q.2)) (if q.1=k then(q.1,v) else q):aM×D);rw[if_neg h]
 ·show _=Oa _ (kvs++[(k,v)])
  rw[Jv];rfl
theorem wy: ∀kvs:List (Int×Int),gv (i5 kvs)=some (kvs.map (·.1))
 | []=>rfl
 |q::r=>by show(gv (i5 r)).map (q.1:: ·)=_;rw[wy r];rfl
theorem zf(kvs:List (Int×Int))(k v:Int):(jP kvs k v).length<=kvs.length+1:=by
 unfold jP;split
 ·rw[Ir];omega
 ·rw[Jf];simp
theorem qR: ∀(L kvs:List (Int×Int)),(L.foldl cE kvs).length<=kvs.length+L.length
 | [],kvs=>by simp
 |p::L,kvs=>by
  rw[JW];have h1:=qR L (cE kvs p)
  have h2:=zf kvs p.1 (vI kvs p.1+p.2)
  have h3:(cE kvs p).length<=kvs.length+1:=h2
  rw[IK];omega
theorem i4(kvs:List (Int×Int))(k v:Int):(jP kvs k v).map (·.1)=if k∈kvs.map (·.1) then kvs.map (·.1) else kvs.map (·.1)++[k]:=by
 have e:(kvs.any λq=>decide (q.1=k))=decide (k∈kvs.map (·.1)):=by
  rw[OM,Oi,decide_eq_true_eq,IE];constructor
  ·rintro⟨q,h1,h2⟩;exact⟨q,h1,by simpa using h2⟩
  ·rintro⟨q,h1,h2⟩;exact⟨q,h1,by simpa using h2⟩
 unfold jP;rw[e]
 by_cases h:k∈kvs.map (·.1)
 ·rw[if_pos (decide_eq_true h),if_pos h,Jl]
  refine JP λq _=>?_
  show(if q.1=k then(q.1,v) else q).1=q.1
  split<;>rfl
 ·rw[if_neg (by rw[decide_eq_false h];simp),if_neg h,Jv];rfl
theorem iS: ∀(L kvs:List (Int×Int)),(kvs.map (·.1)).Nodup->((L.foldl cE kvs).map (·.1)).Nodup
 | [],kvs,h=>h
 |p::L,kvs,h=>by
  rw[JW];refine iS L _ ?_
  show((jP kvs p.1 (vI kvs p.1+p.2)).map (·.1)).Nodup
  rw[i4];split
  ·exact h
  ·rename_i hn
   rw[Li];exact⟨h,by simp,λa ha b hb e=>by rw[IN.mp hb] at e;exact hn (e▸ha)⟩
theorem eY {k:Int}: ∀ {kvs:List (Int×Int)},k∈kvs.map (·.1)->(kvs.find? λq=>decide (q.1=k)).map (λq=>D.int q.2)=some (.int (vI kvs k))
 | [],h=>nomatch h
 |q::r,h=>by
  unfold vI;rw[JR]
  by_cases e:q.1=k
  ·rw[decide_eq_true e];rfl
  ·rw[decide_eq_false e]
   have:k∈r.map (·.1):=by
    rw[Ip] at h;rcases IC.mp h with h|h
    ·exact absurd h.symm e
    ·exact h
   exact eY this
def bd(L:List (Int×Int)):List (Int×Int):=((br fc ((mX L).map (·.1))).filter λp=> !decide (vI (mX L) p=0)).map λp=>(p,vI (mX L) p)
def SumI(S:List (Int×Int)):Prop:=(∀p∈S,p.2≠0)/\S.Pairwise λp q=>p.1<q.1
theorem sE {l:List Int}(nd:l.Nodup):(br fc l).Pairwise (·< ·):=by
 have h1:=kj Aa l
 have h2:(br fc l).Nodup:=(aY (lt:=fc) l).nodup_iff.mpr nd
 have:=List.pairwise_and_iff.mpr ⟨h1,h2⟩
 refine this.imp λ{a b} ⟨q1,q2⟩=>?_
 simp only[fc,decide_eq_false_iff_not] at q1;have q2:a≠b:=q2
 omega
theorem c8(L:List (Int×Int)):SumI (bd L):=by
 refine⟨λp hp=>?_,?_⟩
 ·obtain⟨k,hk,rfl⟩:=IE.mp hp
  have:=(JJ.mp hk).2
  simpa using this
 ·unfold bd
  rw[KQ];exact(sE (iS L [] KM)).filter _
theorem se(L:List (Int×Int)):(bd L).length<=L.length:=by
 unfold bd;rw[Ir];refine Jk (O0 _ _) ?_
 rw[(aY (lt:=fc) _).length_eq,Ir];have:=qR L []
 simpa [mX] using this
theorem Fe(ds:List D):gQ ds (some 1) none=ds.drop 1:=by
 unfold gQ;rw[HT.sIx_none,show(some (1:Int))=some ((1:Nat):Int) from rfl,HT.sIx_nat];cases ds with
 |nil=>rfl
 |cons x r=>
  rw[show min 1 (x::r).length=1 by simp,List.drop_succ_cons,RG]
  rw[OE (by simp)]
theorem As {S:List (Int×Int)}(h:SumI S)(hl:S.length<=900):wW [.lst (S.map pD)]=some (.bl true):=by
 apply iz (kd:=.s) (n:=2) (t:=kG)
 unfold kG;rw[aX (iB (kH (b:=true) (ko rfl)))];refine yf (λρ=> ∃s1,ρ=[.v (.lst (S.map pD)),s1]) (uO (ds:=S.map pD) (bG (cO rfl)) (lA _ (λd hd ρ hρ=>?_) _ ⟨_,rfl⟩)) λρ' hρ'=>?_
 ·obtain⟨p,hp,rfl⟩:=IE.mp hd
  obtain⟨s1,rfl⟩:=hρ
  refine⟨_,[.v (.lst (S.map pD)),.v (pD p)],rfl,iB (uH (a:=false) (b:=false) (kH (b:=true) (ko rfl)) (uH (a:=false) (b:=false) (dm ?_) (uH (a:=false) (b:=false) (kH (b:=true) (ko rfl)) (kH (b:=true) (ko rfl))))),⟨_,rfl⟩⟩
  exact(aW (x:=.int 2) (y:=.int 2) rfl rfl).trans (lC (by rw[eM];omega))
 ·obtain⟨s1,rfl⟩:=hρ'
  refine⟨_,dv (Db (AB (dm ?_) (dm ?_)))⟩
  ·refine(fQ (ds:=[.lst ((S.map λ_=>true).map D.bl)]) (aK (cV (ds:=S.map pD) (cO rfl) (by rw[Ir];omega) ?_) rfl)).trans ((vR _).trans (by simp))
   refine(dL (h:=pD) (o:=λ_=>.bl true) S λp hp=>⟨_,rfl,?_⟩).trans (by rw[Jl];rfl)
   refine(aW (x:=.int p.2) (y:=.int 0) rfl rfl).trans ?_
   rw[tF (by rw[eM];omega),gj,decide_eq_false (h.1 p hp)];rfl
  ·have z:ud (ao 0) (gJ (ao 0) (nM (ax (.int 1))) vU) [.v (.lst (S.map pD)),s1]=some ((Iz (S.length-1)).map λ(i:Nat)=>D.tup [pD (S.getD i (0,0)),pD (S.getD (i+1) (0,0))]):=by
    have cut:gJ (ao 0) (nM (ax (.int 1))) vU [.v (.lst (S.map pD)),s1]=some (.lst ((S.map pD).drop 1)):=by
     have:gJ (ao 0) (nM (ax (.int 1))) vU [.v (.lst (S.map pD)),s1]=some (.lst (gQ (S.map pD) (some 1) none)):=rfl
     rw[this,Fe]
    unfold ud;rw[cut];show some (sN (S.map pD) ((S.map pD).drop 1))=_;unfold sN;rw[N4,Ir,show min S.length (S.length-1)=S.length-1 by omega]
    congr 1
    refine JP λi hi=>?_
    rw[JB] at hi;have g: ∀j,j<S.length->(S.map pD)[j]? =some (pD (S.getD j (0,0))):=λj hj=>by rw[Jd,Ig hj,IZ,Ig hj];rfl
    congr 2
    ·rw[IZ,g i (by omega)];rfl
    ·congr 1
     rw[IZ,NB,Tq 1 i,g (i+1) (by omega)];rfl
   refine(fQ (ds:=[.lst (((Iz (S.length-1)).map λ_=>true).map D.bl)]) (aK (cV z (by rw[Ir,LX];omega) ?_) rfl)).trans ((vR _).trans (by simp))
   refine(dL (h:=λ(i:Nat)=>D.tup [pD (S.getD i (0,0)),pD (S.getD (i+1) (0,0))]) (o:=λ_=>.bl true) (Iz (S.length-1)) λi hi=>⟨_,rfl,?_⟩).trans (by rw[Jl];rfl)
   rw[JB] at hi;refine(aW (x:=.int (S.getD i (0,0)).1) (y:=.int (S.getD (i+1) (0,0)).1) rfl rfl).trans ?_
   have lt:(S.getD i (0,0)).1<(S.getD (i+1) (0,0)).1:=by
    have:=(JV.mp h.2) i (i+1) (by omega) (by omega) (by omega)
    rw[IZ,IZ,Ig (show i<S.length by omega),Ig (show i+1<S.length by omega)]
    exact this
   rw[jY,decide_eq_true lt]
theorem Bag.mono {N M:Nat}{a b:Int}(B:Bag N a b)(h:N<=M):Bag M a b:=⟨B.1,B.2,B.3,by have:=B.4;omega,B.5⟩
def sg(L:List (Int×Int))(p:Int):Int:=((L.filter λq=>decide (q.1=p)).map (·.2)).sum
theorem db(q:Int×Int)(L:List (Int×Int))(p:Int):sg (q::L) p=(if q.1=p then q.2 else 0)+sg L p:=by
 unfold sg;rw[QJ]
 by_cases h:q.1=p
 ·rw[if_pos (by simpa using h),if_pos h];simp
 ·rw[if_neg (by simpa using h),if_neg h];simp
theorem tz(p:Int):vI [] p=0:=rfl
theorem fq(q:Int×Int)(r:List (Int×Int))(p:Int):vI (q::r) p=if q.1=p then q.2 else vI r p:=by
 unfold vI;rw[JR]
 by_cases h:q.1=p
 ·rw[decide_eq_true h,if_pos h];rfl
 ·rw[decide_eq_false h,if_neg h]
theorem tU(k v p:Int): ∀kvs:List (Int×Int),(k∈kvs.map (·.1))->vI (kvs.map (λq=>if q.1=k then(q.1,v) else q)) p=if p=k then v else vI kvs p
 | [],h=>nomatch h
 |q::r,h=>by
  rw[Ip,fq,fq]
  by_cases h1:q.1=k
  ·rw[if_pos h1]
   by_cases h2:p=k
   ·rw[if_pos h2,if_pos (by show q.1=p;rw[h1,h2])]
   ·rw[if_neg h2,if_neg (by show¬q.1=p;rw[h1];exact λe=>h2 e.symm),if_neg (by rw[h1];exact λe=>h2 e.symm)]
    by_cases h3:k∈r.map (·.1)
    ·rw[tU k v p r h3,if_neg h2]
    ·have:r.map (λq=>if q.1=k then(q.1,v) else q)=r:=by
      conv=>rhs;rw[<-List.map_id r]
      refine JP λx hx=>?_
      rw[if_neg];rfl;exact λe=>h3 (IE.mpr ⟨x,hx,e⟩)
     rw[this]
  ·rw[if_neg h1]
   have h3:k∈r.map (·.1):=by
    rw[Ip] at h;rcases IC.mp h with h|h
    ·exact absurd h.symm h1
    ·exact h
   rw[tU k v p r h3]
   by_cases h2:q.1=p
   ·rw[if_pos h2,if_pos h2,if_neg]
    intro e;exact h1 (h2.trans e)
   ·rw[if_neg h2,if_neg h2]
theorem ww(k v p:Int): ∀kvs:List (Int×Int),(k∉kvs.map (·.1))->vI (kvs++[(k,v)]) p=if p=k then v else vI kvs p
 | [],_=>by
   rw[Nd,fq]
   by_cases h:p=k
   ·rw[if_pos h,if_pos h.symm]
   ·rw[if_neg h,if_neg λe=>h e.symm]
 |q::r,h=>by
  rw[Ip,IC,not_or] at h;rw[Qv,fq,fq,ww k v p r h.2]
  by_cases h2:q.1=p
  ·rw[if_pos h2,if_pos h2,if_neg]
   intro e;exact h.1 (e▸h2.symm)
  ·rw[if_neg h2,if_neg h2]
theorem C8(kvs:List (Int×Int))(k v p:Int):vI (jP kvs k v) p=if p=k then v else vI kvs p:=by
 have e:(kvs.any λq=>decide (q.1=k))=true↔k∈kvs.map (·.1):=by
  rw[Oi,IE];constructor
  ·rintro⟨q,h1,h2⟩;exact⟨q,h1,by simpa using h2⟩
  ·rintro⟨q,h1,h2⟩;exact⟨q,h1,by simpa using h2⟩
 unfold jP;split
 ·rename_i h;exact tU k v p kvs (e.mp h)
 ·rename_i h;exact ww k v p kvs λz=>h (e.mpr z)
theorem pL(p:Int): ∀(L kvs:List (Int×Int)),vI (L.foldl cE kvs) p=vI kvs p+sg L p
 | [],kvs=>by rw[List.foldl_nil];show _=_+0;rw[Lj]
 |q::L,kvs=>by
  rw[JW,pL p L,db];show vI (jP kvs q.1 (vI kvs q.1+q.2)) p+_=_;rw[C8]
  by_cases h:p=q.1
  ·rw[if_pos h,if_pos h.symm,h];omega
  ·rw[if_neg h,if_neg λe=>h e.symm];omega
theorem fZ(p:Int): ∀(L kvs:List (Int×Int)),p∈(L.foldl cE kvs).map (·.1)↔p∈kvs.map (·.1)\/p∈L.map (·.1)
 | [],kvs=>by simp
 |q::L,kvs=>by
  rw[JW,fZ p L];show p∈(jP kvs q.1 (vI kvs q.1+q.2)).map (·.1)\/_↔_
  rw[i4,Ip,IC];split
  ·rename_i h
   constructor
   ·rintro(h1|h1)
    ·exact .inl h1
    ·exact .inr (.inr h1)
   ·rintro(h1|h1|h1)
    ·exact .inl h1
    ·exact .inl (h1▸h)
    ·exact .inr h1
  ·rw[IM,IN]
   constructor
   ·rintro((h1|h1)|h1)
    ·exact .inl h1
    ·exact .inr (.inl h1)
    ·exact .inr (.inr h1)
   ·rintro(h1|h1|h1)
    ·exact .inl (.inl h1)
    ·exact .inl (.inr h1)
    ·exact .inr h1
theorem wz(L:List (Int×Int))(p:Int):vI (mX L) p=sg L p:=by unfold mX;rw[pL,tz,LH]
def zg(M:List Int)(s:Int->Int)(S:List (Int×Int)):Prop:=(S.Pairwise λp q=>p.1<q.1)/\ ∀x,x∈S↔x.1∈M/\s x.1≠0/\x.2=s x.1
theorem uo {M:List Int}{s:Int->Int}{S T:List (Int×Int)}(h:zg M s S)(h':zg M s T):S=T:=by
 have nd: ∀ {U:List (Int×Int)},(U.Pairwise λp q=>p.1<q.1)->U.Nodup:=λh=>h.imp λq e=>by subst e;omega
 refine NX (λa b _ _ h1 h2=>?_) h.1 h'.1 ((List.perm_ext_iff_of_nodup (nd h.1) (nd h'.1)).mpr λx=>by rw[h.2,h'.2])
 omega
theorem lP(L:List (Int×Int)):zg (L.map (·.1)) (sg L) (bd L):=by
 refine⟨(c8 L).2,λx=>?_⟩
 unfold bd;rw[IE];constructor
 ·rintro⟨p,hp,rfl⟩
  obtain⟨h1,h2⟩:=JJ.mp hp
  have h3:=(aY (lt:=fc) _).mem_iff.mp h1
  have h4:=(fZ p L []).mp h3
  rw[wz] at h2⊢;refine⟨?_,by simpa using h2,rfl⟩
  rcases h4 with h4|h4
  ·exact nomatch h4
  ·exact h4
 ·rintro⟨h1,h2,h3⟩
  refine⟨x.1,JJ.mpr ⟨(aY (lt:=fc) _).mem_iff.mpr ((fZ x.1 L []).mpr (.inr h1)),by rw[wz];simpa using h2⟩,?_⟩
  rw[wz,<-h3]
theorem zL: ∀M:List (Int×Int),b7 (M.map pD)<=1
 | []=>by rw[Mx];unfold b7;omega
 |p::M=>by
  rw[Ip];unfold b7;have ih:=zL M
  have:dh (pD p)=1:=by
   show dh (.tup [.int p.1,.int p.2])=1;unfold dh b7 b7 b7;rw[eM,eM];rfl
  omega
theorem vE(L:List (Int×Int)):dh (.lst (L.map pD))<=32:=by unfold dh;have:=zL L;omega
def gL(L M:List (Int×Int)):List (Int×Int):=L.flatMap λp=>M.map λq=>(p.1+q.1,p.2*q.2)
structure Bnd(R c N:Nat)(L:List (Int×Int)):Prop where
 len:L.length<=N
 pow: ∀q∈L, -(R:Int)<=q.1/\q.1<=R
 cf: ∀q∈L,q.2.natAbs<=c
theorem zv {l m:List Int}(h:l.Perm m):l.sum=m.sum:=by
 induction h with
 |nil=>rfl
 |cons x _ ih=>rw[LM,LM,ih]
 |swap x y l=>rw[LM,LM,LM,LM];omega
 |trans _ _ h1 h2=>exact h1.trans h2
theorem qV {b:Int}: ∀ {l:List Int} {a:Int},l.Pairwise (·< ·)->(∀x∈l,a<=x/\x<=b)->(l.length:Int)<=max 0 (b-a+1)
 | [],a,_,_=>by simp;omega
 |x::l,a,h,r=>by
  rw[LC] at h;have:=qV (a:=x+1) h.2 λy hy=>⟨h.1 y hy,(r y (Ii _ hy)).2⟩
  have:=r x Is
  rw[IK];omega
theorem jM {R:Nat}{l:List Int}(nd:l.Nodup)(r: ∀x∈l, -(R:Int)<=x/\x<=R):l.length<=2*R+1:=by
 have h:=qV (a:= -(R:Int)) (b:=R) (sE nd) λx hx=>r x ((aY (lt:=fc) _).mem_iff.mp hx)
 rw[(aY (lt:=fc) _).length_eq] at h;omega
theorem yp {c:Nat}: ∀ {L:List (Int×Int)},(∀q∈L,q.2.natAbs<=c)-> ∀p,(sg L p).natAbs<=L.length*c
 | [],_,p=>by simp[sg]
 |q::L,h,p=>by
  have:=yp (λx hx=>h x (Ii _ hx)) p
  have:=h q Is
  rw[db,IK,OG];split<;>omega
theorem Bnd.tidy {R c N:Nat}{L:List (Int×Int)}(h:Bnd R c N L):Bnd R (N*c) (2*R+1) (bd L):=by
 have T:=lP L
 have mem: ∀q∈bd L, -(R:Int)<=q.1/\q.1<=R:=λq hq=>by
  obtain⟨z,hz,e⟩:=IE.mp ((T.2 q).mp hq).1
  rw[<-e];exact h.pow z hz
 refine⟨?_,mem,λq hq=>?_⟩
 ·have:=jM (R:=R) (l:=(bd L).map (·.1)) (by
   show List.Pairwise (·≠ ·) _
   rw[KQ];exact(c8 L).2.imp λz e=>by omega) λx hx=>by
    obtain⟨q,hq,rfl⟩:=IE.mp hx
    exact mem q hq
  rw[Ir] at this;exact this
 ·rw[((T.2 q).mp hq).2.2]
  exact Jk (yp h.cf _) (Lk _ h.len)
theorem pw_len: ∀L M:List (Int×Int),(gL L M).length=L.length*M.length
 | [],M=>by simp[gL]
 |a::L,M=>by
  have ih:=pw_len L M
  unfold gL at ih⊢;rw[J6,Jf,Ir,ih,IK,OG];omega
theorem Bnd.pw {R c N R' c' N':Nat}{L M:List (Int×Int)}(h:Bnd R c N L)(h':Bnd R' c' N' M):Bnd (R+R') (c*c') (N*N') (gL L M):=by
 refine⟨by rw[pw_len];exact K8 h.len h'.len,λq hq=>?_,λq hq=>?_⟩
 ·obtain⟨p,hp,hq⟩:=Kc.mp hq
  obtain⟨r,hr,rfl⟩:=IE.mp hq
  have:=h.pow p hp;have:=h'.pow r hr
  dsimp only;omega
 ·obtain⟨p,hp,hq⟩:=Kc.mp hq
  obtain⟨r,hr,rfl⟩:=IE.mp hq
  dsimp only;rw[L4];exact K8 (h.cf p hp) (h'.cf r hr)
set_option maxHeartbeats 1000000
abbrev aT:=List (Int×Int)
theorem ug(p:Int):sg [] p=0:=rfl
theorem ut(L M:aT)(p:Int):sg (L++M) p=sg L p+sg M p:=by
 unfold sg;rw[List.filter_append,Jv,Ra]
theorem yZ(p:Int): ∀L:aT,sg (L.map λq=>(q.1, -q.2)) p= - sg L p
 | []=>rfl
 |q::L=>by
  rw[Ip,db,yZ p L,db];dsimp only;split<;>omega
theorem Ab(s c p:Int): ∀M:aT,sg (M.map λq=>(s+q.1,c*q.2)) p=c*sg M (p-s)
 | []=>by rw[Mx,ug,ug,K1]
 |q::M=>by
  rw[Ip,db,Ab s c p M,db,QU];congr 1
  dsimp only
  by_cases h:s+q.1=p
  ·rw[if_pos h,if_pos (by omega)]
  ·rw[if_neg h,if_neg (by omega),K1]
theorem CF(a:Int×Int)(L M:aT)(p:Int):sg (gL (a::L) M) p=a.2*sg M (p-a.1)+sg (gL L M) p:=by
 unfold gL;rw[J6,ut,Ab]
theorem D1(M:aT)(p:Int):sg (gL [] M) p=0:=rfl
theorem j9 {p:Int}: ∀ {L:aT},(∀q∈L,q.1≠p)->sg L p=0
 | [],_=>rfl
 |q::L,h=>by rw[db,if_neg (h q Is),j9 λr hr=>h r (Ii _ hr),LH]
theorem SumI.sg_mem {p v:Int}: ∀ {S:aT},SumI S->(p,v)∈S->sg S p=v
 | [],_,h=>absurd h Ks
 |q::S,hs,h=>by
  have pw:=LC.mp hs.2
  rw[db];rcases IC.mp h with rfl|h
  ·rw[if_pos rfl,j9 λr hr=>by have:=pw.1 r hr;dsimp only at this;omega,Lj]
  ·have:=pw.1 _ h
   dsimp only at this;rw[if_neg (by omega),LH]
   exact SumI.sg_mem ⟨λr hr=>hs.1 r (Ii _ hr),pw.2⟩ h
theorem SumI.mem_sg {p:Int}{S:aT}(hs:SumI S)(h:sg S p≠0):(p,sg S p)∈S:=by
 by_cases e: ∃q∈S,q.1=p
 ·obtain⟨⟨a,v⟩,hq,rfl⟩:=e
  rw[hs.sg_mem hq];exact hq
 ·exact absurd (j9 λq hq z=>e ⟨q,hq,z⟩) h
theorem SumI.mem_iff {S:aT}(hs:SumI S)(p v:Int):(p,v)∈S↔v≠0/\sg S p=v:=by
 constructor
 ·intro h;exact⟨hs.1 _ h,hs.sg_mem h⟩
 ·rintro⟨h0,rfl⟩;exact hs.mem_sg h0
theorem pf {S T:aT}(hs:SumI S)(ht:SumI T)(h: ∀p,sg S p=sg T p):S=T:=by
 refine uo (M:=S.map (·.1)++T.map (·.1)) (s:=sg S) ⟨hs.2,λx=>?_⟩ ⟨ht.2,λx=>?_⟩
 ·rw[show(x∈S)↔((x.1,x.2)∈S) from Iff.rfl,hs.mem_iff]
  constructor
  ·rintro⟨h1,h2⟩
   have:=(hs.mem_iff x.1 x.2).mpr ⟨h1,h2⟩
   exact⟨Ja _ (Py (f:=(·.1)) this),by rw[h2];exact h1,h2.symm⟩
  ·rintro⟨_,h1,h2⟩
   exact⟨by rw[h2];exact h1,h2.symm⟩
 ·rw[show(x∈T)↔((x.1,x.2)∈T) from Iff.rfl,ht.mem_iff]
  constructor
  ·rintro⟨h1,h2⟩
   have:=(ht.mem_iff x.1 x.2).mpr ⟨h1,h2⟩
   exact⟨Iw _ (Py (f:=(·.1)) this),by rw[h,h2];exact h1,by rw[h,h2]⟩
  ·rintro⟨_,h1,h2⟩
   exact⟨by rw[h2];exact h1,by rw[<-h];exact h2.symm⟩
theorem iY(L:aT)(p:Int):sg (bd L) p=sg L p:=by
 have T:=lP L
 by_cases h:sg L p=0
 ·rw[h]
  refine j9 λq hq z=>?_
  obtain⟨_,h2,_⟩:=(T.2 q).mp hq
  rw[z] at h2;exact h2 h
 ·refine(c8 L).sg_mem ((T.2 (p,sg L p)).mpr ⟨?_,h,rfl⟩)
  by_cases e: ∃q∈L,q.1=p
  ·obtain⟨q,hq,z⟩:=e
   exact IE.mpr ⟨q,hq,z⟩
  ·exact absurd (j9 λq hq z=>e ⟨q,hq,z⟩) h
theorem qe {L M:aT}(h: ∀p,sg L p=sg M p):bd L=bd M:=pf (c8 L) (c8 M) λp=>by rw[iY,iY,h]
theorem BO {S:aT}(h:SumI S):bd S=S:=pf (c8 S) h λp=>iY S p
def sm {α:Type}(l:List α)(f:α->Int):Int:=(l.map f).sum
section
variable {α β:Type}
theorem tM(f:α->Int):sm [] f=0:=rfl
theorem bq(a:α)(l:List α)(f:α->Int):sm (a::l) f=f a+sm l f:=by unfold sm;rw[Ip,LM]
theorem D8(l m:List α)(f:α->Int):sm (l++m) f=sm l f+sm m f:=by unfold sm;rw[Jv,Ra]
theorem aU {l:List α}{f g:α->Int}(h: ∀a∈l,f a=g a):sm l f=sm l g:=by unfold sm;rw[JP h]
theorem jT {l:List α}{f:α->Int}(h: ∀a∈l,f a=0):sm l f=0:=by
 induction l with
 |nil=>rfl
 |cons a l ih=>rw[bq,h a Is,ih λb hb=>h b (Ii _ hb)];rfl
theorem Dq(l:List α)(f g:α->Int):sm l (λa=>f a+g a)=sm l f+sm l g:=by
 induction l with
 |nil=>rfl
 |cons a l ih=>rw[bq,bq,bq,ih];omega
theorem jj(c:Int)(l:List α)(f:α->Int):c*sm l f=sm l λa=>c*f a:=by
 induction l with
 |nil=>exact K1 c
 |cons a l ih=>rw[bq,bq,QU,ih]
theorem jO(l:List α)(m:List β)(f:α->β->Int):sm l (λa=>sm m (f a))=sm m λb=>sm l λa=>f a b:=by
 induction l with
 |nil=>exact(jT λ_ _=>rfl).symm
 |cons a l ih=>
  rw[bq,ih,<-Dq];exact aU λb _=>(bq a l λa=>f a b).symm
theorem wA(l:List α)(g:α->List β)(f:β->Int):sm (l.flatMap g) f=sm l λa=>sm (g a) f:=by
 induction l with
 |nil=>rfl
 |cons a l ih=>rw[J6,D8,bq,ih]
theorem mD(l:List α)(g:α->β)(f:β->Int):sm (l.map g) f=sm l λa=>f (g a):=by unfold sm;rw[Jl];rfl
theorem nX(l:List α)(p:α->Bool)(f:α->Int):sm (l.filter p) f=sm l λa=>if p a=true then f a else 0:=by
 induction l with
 |nil=>rfl
 |cons a l ih=>
  rw[QJ,bq];split
  ·rw[bq,ih]
  ·rw[ih,LH]
end
theorem EQ(L:aT)(p:Int):sg L p=sm L λq=>if q.1=p then q.2 else 0:=by
 induction L with
 |nil=>rfl
 |cons q L ih=>rw[db,bq,ih]
theorem tH(L M:aT)(p:Int):sg (gL L M) p=sm L λq=>q.2*sg M (p-q.1):=by
 induction L with
 |nil=>rfl
 |cons q L ih=>rw[CF,bq,ih]
theorem Cw {S:aT}(h:(S.map (·.1)).Nodup)(p:Int):vI S p=sg S p:=by
 induction S with
 |nil=>rfl
 |cons q S ih=>
  rw[Ip,Jq] at h;rw[fq,db]
  by_cases e:q.1=p
  ·rw[if_pos e,if_pos e,j9 λz hz w=>h.1 (IE.mpr ⟨z,hz,by rw[w,e]⟩),Lj]
  ·rw[if_neg e,if_neg e,LH,ih h.2]
def eV(F:ca):List (List Int):=F.map (·.1)
def vD(F:ca)(C:List Int)(p:Int):Int:=((F.find? λz=>decide (z.1=C)).map λz=>vI z.2 p).getD 0
theorem eP {F:ca}(nd:(eV F).Nodup){C:List Int}{m:aT}(h:(C,m)∈F)(p:Int):vD F C p=vI m p:=by
 unfold vD
 induction F with
 |nil=>exact absurd h Ks
 |cons z F ih=>
  rw[show eV (z::F)=z.1::eV F from rfl,Jq] at nd;rw[JR];rcases IC.mp h with e|h
  ·subst e;simp
  ·have:z.1≠C:=λe=>nd.1 (e▸IE.mpr ⟨(C,m),h,rfl⟩)
   rw[decide_eq_false this];exact ih nd.2 h
theorem ii {F:ca}{C:List Int}(h:C∉eV F)(p:Int):vD F C p=0:=by
 unfold vD;rw[PX.mpr λz hz=>by
  intro w;exact h (IE.mpr ⟨z,hz,by simpa using w⟩)]
 rfl
def BW(F:ca)(k:List Int)(f:aT->aT):ca:=match (gS F k).1[(gS F k).2]? with
 |some z=>(gS F k).1.set (gS F k).2 (k,f z.2)
 |none=>(gS F k).1
theorem rD {F:ca}{k:List Int}(h:pF F k=none):k∉eV F:=λw=>by
 obtain⟨z,hz,e⟩:=IE.mp w
 unfold pF at h;rw[List.findIdx?_eq_none_iff] at h;have:=h z hz
 simp[e] at this
theorem jQ {F:ca}{k:List Int}{q:Nat}(h:pF F k=some q): ∃m,F[q]? =some (k,m):=by
 unfold pF at h;rw[List.findIdx?_eq_some_iff_getElem] at h;obtain⟨lt,e,_⟩:=h
 refine⟨F[q].2,?_⟩
 rw[Ig lt];have:F[q].1=k:=by simpa using e
 rw[<-this]
theorem uL(F:ca)(k:List Int)(f:aT->aT):(k∉eV F/\BW F k f=F++[(k,f [])])\/ ∃l1 m l2,F=l1++(k,m)::l2/\BW F k f=l1++(k,f m)::l2:=by
 unfold BW gS;cases e:pF F k with
 |none=>
  refine .inl ⟨rD e,?_⟩
  dsimp only;rw[IX (Ie _),OF];show(F++[(k,[])]).set F.length (k,f [])=_;rw[OZ _ _ (Ie _),OF];rfl
 |some q=>
  obtain⟨m,hm⟩:=jQ e
  obtain⟨lt,em⟩:=IA.mp hm
  refine .inr ⟨F.take q,m,F.drop (q+1),?_,?_⟩
  ·exact(by rw[show(k,m)::F.drop (q+1)=F.drop q from by rw[<-em];exact(Kf lt).symm,JO])
  ·dsimp only
   rw[hm];dsimp only;rw[List.set_eq_take_append_cons_drop,if_pos lt]
def Bq(P:aT->Prop)(F:ca):Prop:=(eV F).Nodup/\ ∀z∈F,P z.2
theorem pR(F:ca)(k:List Int)(f:aT->aT)(C:List Int):C∈eV (BW F k f)↔C∈eV F\/C=k:=by
 rcases uL F k f with⟨_,e⟩|⟨l1,m,l2,e1,e2⟩
 ·rw[e];unfold eV;simp
 ·rw[e2,e1];unfold eV;simp;grind
theorem oW {P Q:aT->Prop}{F:ca}(h:Bq P F)(pq: ∀m,P m->Q m)(k:List Int)(f:aT->aT)(h0:Q (f []))(h1: ∀m,P m->Q (f m)):Bq Q (BW F k f):=by
 obtain⟨nd,hp⟩:=h
 rcases uL F k f with⟨nk,e⟩|⟨l1,m,l2,e1,e2⟩
 ·rw[e]
  refine⟨?_,λz hz=>?_⟩
  ·unfold eV at*
   rw[Jv,Li];refine⟨nd,by simp,λa ha b hb=>?_⟩
   have:b=k:=by simpa using hb
   rw[this];exact λw=>nk (w▸ha)
  ·rcases IM.mp hz with w|w
   ·exact pq _ (hp z w)
   ·rw[IN.mp w];exact h0
 ·rw[e2]
  refine⟨?_,λz hz=>?_⟩
  ·rw[e1] at nd
   unfold eV at*;simpa using nd
  ·rcases IM.mp hz with w|w
   ·exact pq _ (hp z (by rw[e1];exact Ja _ w))
   ·rcases IC.mp w with rfl|w
    ·exact h1 m (hp (k,m) (by rw[e1];simp))
    ·exact pq _ (hp z (by rw[e1];exact Iw _ (Ii _ w)))
theorem FW {F:ca}(nd:(eV F).Nodup)(k:List Int)(f:aT->aT){g:Int->Int}(hf: ∀m,(m=[]\/ ∃C,(C,m)∈F)-> ∀p,vI (f m) p=vI m p+g p)(C:List Int)(p:Int):vD (BW F k f) C p=vD F C p+if C=k then g p else 0:=by
 have nd':(eV (BW F k f)).Nodup:=(oW (P:=λ_=>True) (Q:=λ_=>True) ⟨nd,λ_ _=>trivial⟩ (λ_ h=>h) k f trivial λ_ _=>trivial).1
 rcases uL F k f with⟨nk,e⟩|⟨l1,m,l2,e1,e2⟩
 ·by_cases ec:C=k
  ·subst ec
   rw[if_pos rfl,ii nk,eP nd' (m:=f []) (by rw[e];simp),hf [] (.inl rfl) p,tz]
  ·rw[if_neg ec,Lj]
   by_cases hc:C∈eV F
   ·obtain⟨z,hz,rfl⟩:=IE.mp hc
    rw[eP nd' (m:=z.2) (by rw[e];exact Ja _ hz),eP nd (m:=z.2) hz]
   ·rw[ii hc,ii λw=>?_]
    rcases(pR F k f C).mp w with w|w
    ·exact hc w
    ·exact ec w
 ·have mk:(k,m)∈F:=by rw[e1];simp
  by_cases ec:C=k
  ·subst ec
   rw[if_pos rfl,eP nd mk,eP nd' (m:=f m) (by rw[e2];simp),hf m (.inr ⟨_,mk⟩) p]
  ·rw[if_neg ec,Lj]
   by_cases hc:C∈eV F
   ·obtain⟨z,hz,rfl⟩:=IE.mp hc
    rw[eP nd (m:=z.2) hz,eP nd' (m:=z.2) ?_]
    rw[e1] at hz;rw[e2];rcases IM.mp hz with w|w
    ·exact Ja _ w
    ·rcases IC.mp w with w|w
     ·rw[w] at ec;exact absurd rfl ec
     ·exact Iw _ (Ii _ w)
   ·rw[ii hc,ii λw=>?_]
    rcases(pR F k f C).mp w with w|w
    ·exact hc w
    ·exact ec w
def EK(e m:aT)(s:Int):aT:=e.flatMap λz=>m.map λq=>(z.1+q.1,s*z.2*q.2)
theorem z6(m:aT)(s p:Int): ∀e:aT,sg (EK e m s) p=s*sg (gL e m) p
 | []=>(K1 s).symm
 |z::e=>by
  rw[CF,show EK (z::e) m s=(m.map λq=>(z.1+q.1,s*z.2*q.2))++EK e m s from rfl,ut,Ab,z6 m s p e,QU,Sn]
def BF(a e m:aT)(s:Int):aT:=(EK e m s).foldl cE a
theorem Fw(a e m:aT)(s p:Int):vI (BF a e m s) p=vI a p+s*sg (gL e m) p:=by
 unfold BF;rw[pL,z6]
structure Jb where
 k:List Int
 e:aT
 m:aT
 s:Int
def qL(F:ca)(j:Jb):ca:=BW F j.k λa=>BF a j.e j.m j.s
def gI(C:List Int)(c:Int):Int:=if(C.filter λx=>decide (c<x)).length % 2=1 then -1 else 1
def eo(C:List Int)(c:Nat):List Int:=br fc (C++[(c:Int)])
def EF(row:List aT)(z:List Int×aT):List Jb:=((Iz row.length).filter λc=>decide (row.getD c []≠[])&& !decide ((c:Int)∈z.1)).map λc=>⟨eo z.1 c,row.getD c [],z.2,gI z.1 c⟩
def Dr(F:ca)(row:List aT):ca:=(F.flatMap (EF row)).foldl qL []
def zY(m:aT):Prop:=(m.map (·.1)).Nodup
theorem ED {F:ca}(h:Bq zY F)(j:Jb):Bq zY (qL F j):=oW h (λ_ h=>h) _ _ (iS _ _ KM) λm hm=>iS _ _ hm
theorem Ao: ∀(J:List Jb) {F:ca},Bq zY F->Bq zY (J.foldl qL F)
 | [],_,h=>h
 |j::J,_,h=>Ao J (ED h j)
theorem uy(C:List Int): ∀(J:List Jb) (F:ca),C∈eV (J.foldl qL F)↔C∈eV F\/ ∃j∈J,j.k=C
 | [],F=>by simp
 |j::J,F=>by
  rw[JW,uy C J,qL,pR];simp only[IC];constructor
  ·rintro((h|h)|⟨z,h1,h2⟩)
   ·exact .inl h
   ·exact .inr ⟨j,.inl rfl,h.symm⟩
   ·exact .inr ⟨z,.inr h1,h2⟩
  ·rintro(h|⟨z,h|h,h2⟩)
   ·exact .inl (.inl h)
   ·subst h;exact .inl (.inr h2.symm)
   ·exact .inr ⟨z,h,h2⟩
theorem Cn(C:List Int)(p:Int): ∀(J:List Jb) {F:ca},(eV F).Nodup->vD (J.foldl qL F) C p=vD F C p+sm J λj=>if j.k=C then j.s*sg (gL j.e j.m) p else 0
 | [],F,_=>(Lj _).symm
 |j::J,F,nd=>by
  have nd':(eV (qL F j)).Nodup:=(oW (P:=λ_=>True) (Q:=λ_=>True) ⟨nd,λ_ _=>trivial⟩ (λ_ h=>h) _ _ trivial λ_ _=>trivial).1
  rw[JW,Cn C p J nd',bq,<-Int.add_assoc];congr 1
  unfold qL;rw[FW nd j.k _ (g:=λp=>j.s*sg (gL j.e j.m) p) (λm _ p=>Fw _ _ _ _ _) C p]
  congr 1
  by_cases h:C=j.k
  ·rw[if_pos h,if_pos h.symm]
  ·rw[if_neg h,if_neg (IT h)]
def jx(n:Nat):Nat->List (List Nat)
 |0=>[[]]
 |k+1=>(jx n k).flatMap λs=>((Iz n).filter λh=> !decide (h∈s)).map λh=>s++[h]
def kR:List Nat->List Int
 | []=>[]
 |c::t=>eo (kR t) c
def sR:List Nat->Int
 | []=>1
 |c::t=>sR t*gI (kR t) c
def j8(E:Nat->Nat->aT):List Nat->Int->Int
 | [],p=>if p=0 then 1 else 0
 |c::t,p=>sm (E t.length c) λz=>z.2*j8 E t (p-z.1)
theorem lu: ∀t:List Nat,(kR t).Perm (t.map λ(c:Nat)=>(c:Int))
 | []=>.nil
 |c::t=>(aY (lt:=fc) _).trans (((lu t).append_right _).trans (List.perm_append_singleton _ _))
theorem kR_mem {t:List Nat}{c:Nat}:(c:Int)∈kR t↔c∈t:=by
 rw[(lu t).mem_iff,IE];constructor
 ·rintro⟨d,h,e⟩;rwa [<-Int.ofNat.inj e]
 ·exact λh=>⟨c,h,rfl⟩
structure DInv(n:Nat)(E:Nat->Nat->aT)(i:Nat)(F:ca):Prop where
 gd:Bq zY F
 ky: ∀C∈eV F,∃q∈jx n i,kR q.reverse=C
 val: ∀C p,vD F C p=sm (jx n i) λq=>if kR q.reverse=C then sR q.reverse*j8 E q.reverse p else 0
 off: ∀q∈jx n i,kR q.reverse∉eV F-> ∀p,j8 E q.reverse p=0
theorem DInv.zero(n:Nat)(E:Nat->Nat->aT):DInv n E 0 [([],[(0,1)])]:=by
 refine⟨⟨by simp[eV],λz hz=>?_⟩,λC hC=>⟨[],by simp[jx],?_⟩,λC p=>?_,λq hq h=>?_⟩
 ·rw[IN.mp hz];simp[zY]
 ·rw[show C=[] from by simpa [eV] using hC];rfl
 ·show vD [([],[(0,1)])] C p=sm [[]] _
  rw[bq,tM,Lj];show vD [([],[(0,1)])] C p=if []=C then 1*(if p=0 then 1 else 0) else 0
  by_cases e:C=[]
  ·subst e
   rw[if_pos rfl,eP (m:=[(0,1)]) (by simp[eV]) (by simp),fq,Int.one_mul,tz]
   by_cases h:p=0
   ·subst h;rfl
   ·rw[if_neg (IT h),if_neg h]
  ·rw[if_neg (IT e),ii (by simpa [eV] using e)]
 ·rw[IN.mp (show q∈[[]] from hq)] at h
  exact absurd (show kR []∈eV [([],[(0,1)])] from by simp[eV,kR]) h
def wX(n:Nat)(R:Nat->aT)(C':List Int)(p:Int)(C:List Int)(f:Int->Int):Int:=sm (Iz n) λc=>if(c:Int)∉C/\eo C c=C' then gI C c*sm (R c) (λw=>w.2*f (p-w.1)) else 0
theorem sj {n:Nat}{R:Nat->aT}{C':List Int}{p:Int}{C:List Int}{f:Int->Int}(h: ∀p,f p=0):wX n R C' p C f=0:=by
 refine jT λc _=>?_
 rw[jT λw _=>by rw[h,K1],K1,ite_self]
theorem Ej {α:Type}{n:Nat}{R:Nat->aT}{C':List Int}{p:Int}{C:List Int}(L:List α)(g:α->Int->Int):wX n R C' p C (λp=>sm L λq=>g q p)=sm L λq=>wX n R C' p C (g q):=by
 unfold wX;rw[jO];refine aU λc _=>?_
 by_cases h:(c:Int)∉C/\eo C c=C'
 ·rw[if_pos h]
  rw[aU (g:=λq=>gI C c*sm (R c) λw=>w.2*g q (p-w.1)) λq _=>if_pos h,<-jj]
  congr 1
  rw[jO];exact aU λw _=>jj _ _ _
 ·rw[if_neg h]
  exact(jT λq _=>if_neg h).symm
theorem qU {α:Type} [DecidableEq α]{a:α}{v:Int}: ∀ {l:List α},l.Nodup->sm l (λb=>if a=b then v else 0)=if a∈l then v else 0
 | [],_=>by simp[tM]
 |b::l,nd=>by
  rw[Jq] at nd;rw[bq,qU nd.2]
  by_cases e:a=b
  ·subst e
   rw[if_pos rfl,if_neg nd.1,if_pos Is,Lj]
  ·rw[if_neg e,LH]
   by_cases h:a∈l
   ·rw[if_pos h,if_pos (Ii _ h)]
   ·rw[if_neg h,if_neg λq=>(IC.mp q).elim e h]
theorem ir(n:Nat): ∀k,∀s∈jx n k,s.length=k
 |0,s,h=>by rw[IN.mp h];rfl
 |k+1,s,h=>by
  obtain⟨t,ht,hs⟩:=Kc.mp h
  obtain⟨v,hv,rfl⟩:=IE.mp hs
  rw[Jf,ir n k t ht];rfl
theorem DInv.step {n:Nat}{E:Nat->Nat->aT}{i:Nat}{F:ca}(I:DInv n E i F){row:List aT}(hr:row=(Iz n).map (E i)):DInv n E (i+1) (Dr F row):=by
 have lr:row.length=n:=by rw[hr];simp
 have er: ∀c,c<n->row.getD c []=E i c:=λc hc=>by rw[hr];simp[JH,hc]
 have ndF:=I.gd.1
 have g0:Bq zY ([]:ca):=⟨KM,λz hz=>nomatch hz⟩
 refine⟨Ao _ g0,λC hC=>?_,λC' p=>?_,λq' hq' h p=>?_⟩
 ·rcases(uy C _ _).mp hC with h|⟨j,hj,e⟩
  ·exact absurd h (by simp[eV])
  ·obtain⟨z,hz,hj⟩:=Kc.mp hj
   obtain⟨c,hc,rfl⟩:=IE.mp hj
   obtain⟨h1,h2⟩:=JJ.mp hc
   obtain⟨q,hq,e1⟩:=I.ky z.1 (IE.mpr ⟨z,hz,rfl⟩)
   rw[lr,JB] at h1;have h2:(c:Int)∉z.1:=by simp at h2;exact h2.2
   refine⟨q++[c],Kc.mpr ⟨q,hq,IE.mpr ⟨c,JJ.mpr ⟨JB.mpr h1,?_⟩,rfl⟩⟩,?_⟩
   ·rw[<-e1,kR_mem,Lx] at h2
    simpa using h2
   ·rw[Kh]
    show eo (kR q.reverse) c=C;rw[e1];exact e
 ·unfold Dr
  rw[Cn C' p _ (F:=[]) KM,ii (by simp[eV]),LH,wA]
  have s1: ∀z∈F,sm (EF row z) (λj=>if j.k=C' then j.s*sg (gL j.e j.m) p else 0)=wX n (E i) C' p z.1 (vD F z.1):=λz hz=>by
   unfold EF wX;rw[mD,nX,lr];refine aU λc hc=>?_
   rw[JB] at hc;rw[er c hc];have ev:sg (gL (E i c) z.2) p=sm (E i c) λw=>w.2*vD F z.1 (p-w.1):=by
    rw[tH];refine aU λw _=>?_
    rw[eP ndF (m:=z.2) hz,Cw (I.gd.2 z hz)]
   rw[<-ev]
   by_cases h1:(c:Int)∈z.1
   ·rw[if_neg (by simp[h1]),if_neg λq=>q.1 h1]
   ·by_cases h2:E i c=[]
    ·rw[if_neg (by simp[h2]),h2]
     simp[D1]
    ·rw[if_pos (by simp[h1,h2])]
     by_cases h3:eo z.1 c=C'
     ·rw[if_pos h3,if_pos ⟨h1,h3⟩]
     ·rw[if_neg h3,if_neg λq=>h3 q.2]
  rw[aU s1];rw[show sm F (λz=>wX n (E i) C' p z.1 (vD F z.1))=sm (eV F) λC=>wX n (E i) C' p C (vD F C) from(mD F (·.1) (λC=>wX n (E i) C' p C (vD F C))).symm]
  have s2: ∀C∈eV F,wX n (E i) C' p C (vD F C)=sm (jx n i) λq=>if kR q.reverse=C then wX n (E i) C' p (kR q.reverse) (λp=>sR q.reverse*j8 E q.reverse p) else 0:=λC _=>by
   rw[show vD F C=λp=>sm (jx n i) λq=>if kR q.reverse=C then sR q.reverse*j8 E q.reverse p else 0 from funext λp=>I.val C p,Ej]
   refine aU λq _=>?_
   by_cases e:kR q.reverse=C
   ·subst e
    rw[if_pos rfl];congr 1
    funext p;exact if_pos rfl
   ·rw[if_neg e]
    exact sj λp=>if_neg e
  rw[aU s2,jO];show _=sm ((jx n i).flatMap _) _;rw[wA];refine aU λq hq=>?_
  rw[qU ndF];have s3:wX n (E i) C' p (kR q.reverse) (λp=>sR q.reverse*j8 E q.reverse p)=sm (((Iz n).filter λh=> !decide (h∈q)).map λh=>q++[h]) (λq=>if kR q.reverse=C' then sR q.reverse*j8 E q.reverse p else 0):=by
   unfold wX;rw[mD,nX];refine aU λc _=>?_
   rw[Kh];show _=if _ then(if eo (kR q.reverse) c=C' then(sR q.reverse*gI (kR q.reverse) c)*sm (E q.reverse.length c) (λz=>z.2*j8 E q.reverse (p-z.1)) else 0) else 0
   rw[Lu,ir n i q hq]
   by_cases h1:c∈q
   ·rw[if_neg (λw=>w.1 (kR_mem.mpr (Lx.mpr h1))),if_neg (by simp[h1])]
   ·by_cases h3:eo (kR q.reverse) c=C'
    ·rw[if_pos ⟨λw=>h1 (Lx.mp (kR_mem.mp w)),h3⟩,if_pos (by simp[h1]),if_pos h3]
     rw[Tr (sR q.reverse) _,Sn];congr 1
     rw[jj];exact aU λw _=>NS _ _ _
    ·rw[if_neg (λw=>h3 w.2),if_pos (by simp[h1]),if_neg h3]
  by_cases h:kR q.reverse∈eV F
  ·rw[if_pos h,s3]
  ·rw[if_neg h,<-s3]
   exact(sj λp=>by rw[I.off q hq h p,K1]).symm
 ·obtain⟨q,hq,hs⟩:=Kc.mp hq'
  obtain⟨c,hc,rfl⟩:=IE.mp hs
  obtain⟨h1,h2⟩:=JJ.mp hc
  have h2:c∉q:=by simpa using h2
  rw[JB] at h1;rw[Kh] at h⊢;show sm (E q.reverse.length c) (λz=>z.2*j8 E q.reverse (p-z.1))=0
  rw[Lu,ir n i q hq]
  by_cases e:E i c=[]
  ·rw[e];rfl
  ·by_cases hk:kR q.reverse∈eV F
   ·obtain⟨z,hz,e1⟩:=IE.mp hk
    refine absurd ((uy _ _ _).mpr (.inr ⟨⟨eo z.1 c,row.getD c [],z.2,gI z.1 c⟩,Kc.mpr ⟨z,hz,IE.mpr ⟨c,JJ.mpr ⟨by rw[lr];exact JB.mpr h1,?_⟩,rfl⟩⟩,?_⟩)) h
    ·rw[er c h1]
     have:(c:Int)∉z.1:=by rw[e1,kR_mem,Lx];exact h2
     simp[e,this]
    ·show eo z.1 c=kR (c::q.reverse)
     rw[e1];rfl
   ·exact jT λw _=>by rw[I.off q hq hk,K1]
set_option maxHeartbeats 4000000
set_option maxHeartbeats 1000000
set_option maxHeartbeats 4000000
theorem rK {p q:FT}{ρ:aA}{a b:Bool}(h1:p ρ=some a)(h2:q ρ=some b):i6 p q ρ=some (a&&b):=by
 unfold i6;rw[h1];cases a
 ·rfl
 ·exact h2
theorem HN(i j:Nat):Ax (nI i) (nI j)=some (.bl (decide (i<j))):=by rw[jY];congr 2;rw[decide_eq_decide];omega
theorem rC {α:Type}: ∀(l1 l2:List α),l1.Nodup->(∀x∈l1,x∈l2)->l2.length<=l1.length->l1.Perm l2
 | [],l2,_,_,h=>by
   have:l2=[]:=List.eq_nil_of_length_eq_zero (by simpa using h)
   rw[this]
 |a::l1,l2,nd,hs,hl=>by
  obtain⟨n1,n2⟩:=Jq.mp nd
  obtain⟨s,t,rfl⟩:=List.append_of_mem (hs a (Is ..))
  have ih:=rC l1 (s++t) n2 (λx hx=>by
   have:=hs x (Ii _ hx)
   rw[IM,IC] at this;rw[IM];rcases this with q|q|q
   ·exact .inl q
   ·rw[q] at hx;exact absurd hx n1
   ·exact .inr q) (by rw[Jf,IK,IK] at hl;rw[Jf];omega)
  exact(ih.cons a).trans List.perm_middle.symm
theorem ub(n:Nat): ∀k,∀s∈jx n k,s.length=k/\s.Nodup/\ ∀v∈s,v<n
 |0,s,h=>by
  rw[IN.mp h];exact⟨rfl,KM,λv hv=>nomatch hv⟩
 |k+1,s,h=>by
  obtain⟨t,ht,hs⟩:=Kc.mp h
  obtain⟨v,hv,rfl⟩:=IE.mp hs
  obtain⟨h1,h2⟩:=JJ.mp hv
  obtain⟨i1,i2,i3⟩:=ub n k t ht
  rw[JB] at h1;have h2:v∉t:=by simpa using h2
  refine⟨by rw[Jf,i1];rfl,?_,λw hw=>?_⟩
  ·rw[Li]
   exact⟨i2,by simp,λa ha b hb e=>by rw[IN.mp hb] at e;exact h2 (e▸ha)⟩
  ·rcases IM.mp hw with hw|hw
   ·exact i3 w hw
   ·rw[IN.mp hw];exact h1
theorem BA {n:Nat}{s:List Nat}(h:s∈jx n n):Ord n s:=by
 obtain⟨h1,h2,h3⟩:=ub n n s h
 exact⟨rC s (Iz n) h2 (λv hv=>JB.mpr (h3 v hv)) (by rw[LX,h1];exact Ie _)⟩
theorem vY: ∀n,n<=6-> ∀k,k<=n->(jx n k).length<=720:=by decide+kernel
theorem qt(p:Int): ∀(L kvs:List (Int×Int)),p∈(L.foldl cE kvs).map (·.1)->p∈kvs.map (·.1)\/p∈L.map (·.1)
 | [],kvs,h=>.inl h
 |q::L,kvs,h=>by
  rw[JW] at h;rcases qt p L _ h with h|h
  ·have h:p∈(jP kvs q.1 (vI kvs q.1+q.2)).map (·.1):=h
   rw[i4] at h;split at h
   ·exact .inl h
   ·rcases IM.mp h with h|h
    ·exact .inl h
    ·rw[IN.mp h];exact .inr Is
  ·exact .inr (Ii _ h)
set_option maxHeartbeats 1000000
def KyB(B:Nat)(kvs:aT):Prop:=(kvs.map (·.1)).Nodup/\ ∀k∈kvs.map (·.1), -(B:Int)<=k/\k<=B
theorem KyB.nil(B:Nat):KyB B []:=⟨KM,λ_ h=>nomatch h⟩
theorem KyB.len {B:Nat}{kvs:aT}(h:KyB B kvs):kvs.length<=2*B+1:=by
 have:=jM (R:=B) h.1 h.2
 rwa [Ir] at this
theorem KyB.put {B:Nat}{kvs:aT}(h:KyB B kvs){k v:Int}(hk: -(B:Int)<=k/\k<=B):KyB B (jP kvs k v):=by
 unfold KyB;rw[i4];split
 ·exact h
 ·rename_i hn
  refine⟨Li.mpr ⟨h.1,by simp,λa ha b hb=>?_⟩,λx hx=>?_⟩
  ·rw[IN.mp hb];intro z;subst z;exact hn ha
  ·rcases IM.mp hx with w|w
   ·exact h.2 x w
   ·rw[IN.mp w];exact hk
theorem KyB.fold {B:Nat}: ∀(L:aT) {kvs:aT},KyB B kvs->(∀q∈L, -(B:Int)<=q.1/\q.1<=B)->KyB B (L.foldl cE kvs)
 | [],_,h,_=>h
 |q::L,_,h,hL=>KyB.fold L (h.put (hL q Is)) λz hz=>hL z (Ii _ hz)
abbrev sD(e:aT):D:=.lst (e.map pD)
abbrev zR(a e m:aT)(s:Int)(s4 s5 s6:Sl):aA:=[.ob (.dA (i5 a)),.v (sD e),.ob (.dR (i5 m)),.v (.int s),s4,s5,s6]
abbrev AR:FS:=oo 0 (aB bt (ao 4) (ao 6)) (aB bt (oj 0 (aB bt (ao 4) (ao 6)) (ax (.int 0))) (aB bz (aB bz (ao 3) (ao 5)) (yX 2 (ao 6))))
theorem qj {m:aT}(nd:zY m){q:Int×Int}(h:q∈m):iw (i5 m) (.inl q.1)=some (.int q.2):=by
 rw[iN,eY (IE.mpr ⟨q,h,rfl⟩)];have:vI m q.1=q.2:=by
  unfold zY at nd
  induction m with
  |nil=>cases h
  |cons z m ih=>
   rw[Ip,Jq] at nd;rw[fq];rcases IC.mp h with e|h
   ·rw[e,if_pos rfl]
   ·rw[if_neg (λe:z.1=q.1=>nd.1 (e▸IE.mpr ⟨q,h,rfl⟩))]
    exact ih nd.2 h
 rw[this]
theorem vp {e m:aT}{s z1 z2:Int}{B:Nat}(hB:B<=480)(nd:zY m)(hs:s.natAbs<=1)(hz:z2.natAbs<10^100): ∀(L a:aT) (s6:Sl),(∀q∈L,q∈m)->KyB B a->(∀q∈L, -(B:Int)<=z1+q.1/\z1+q.1<=B)->(∀q∈L,q.2.natAbs<10^200)->
 ∃s6',dZ (gN 6) AR (L.map λq=>D.int q.1) (zR a e m s (.v (.int z1)) (.v (.int z2)) s6)=.nx (zR ((L.map λq=>(z1+q.1,s*z2*q.2)).foldl cE a) e m s (.v (.int z1)) (.v (.int z2)) s6')
 | [],a,s6,_,_,_,_=>⟨s6,rfl⟩
 |q::L,a,s6,hm,hk,hb,hc=>by
  have hk':KyB B (cE a (z1+q.1,s*z2*q.2)):=hk.put (hb q Is)
  obtain⟨s6',ih⟩:=vp (e:=e) hB nd hs hz L (cE a (z1+q.1,s*z2*q.2)) (.v (.int q.1)) (λz hz=>hm z (Ii _ hz)) hk' (λz hz=>hb z (Ii _ hz)) (λz hz=>hc z (Ii _ hz))
  refine⟨s6',?_⟩
  rw[Ip,Ip,JW]
  let ρ:aA:=zR a e m s (.v (.int z1)) (.v (.int z2)) (.v (.int q.1))
  have ek:aB bt (ao 4) (ao 6) ρ=some (.int (z1+q.1)):=(aW (x:=.int z1) (y:=.int q.1) rfl rfl).trans (dn _ _)
  have gt:oj 0 (aB bt (ao 4) (ao 6)) (ax (.int 0)) ρ=some (.int (vI a (z1+q.1))):=by
   unfold oj;rw[ek];show some ((iw (i5 a) (IU (z1+q.1))).getD (.int 0))=_;rw[iN];unfold vI;cases a.find? λz=>decide (z.1=z1+q.1)<;>rfl
  have gx:yX 2 (ao 6) ρ=some (.int q.2):=by
   show iw (i5 m) (IU q.1)=_;exact qj nd (hm q Is)
  have b1:s.natAbs<10^200:=JA hs (by decide)
  have b2:z2.natAbs<10^200:=IJ hz (M7 (by decide) (by decide))
  have b3:(s*z2).natAbs<10^200:=by
   rw[L4];refine JA (Lk _ hs) ?_
   rw[Pj];exact b2
  have m1:aB bz (ao 3) (ao 5) ρ=some (.int (s*z2)):=(aW (x:=.int s) (y:=.int z2) rfl rfl).trans (cj b1 b2)
  have ev:aB bt (oj 0 (aB bt (ao 4) (ao 6)) (ax (.int 0))) (aB bz (aB bz (ao 3) (ao 5)) (yX 2 (ao 6))) ρ=some (.int (vI a (z1+q.1)+s*z2*q.2)):=
   (aW gt ((aW m1 gx).trans (cj b3 (hc q Is)))).trans (dn _ _)
  have st:AR ρ=.nx (zR (cE a (z1+q.1,s*z2*q.2)) e m s (.v (.int z1)) (.v (.int z2)) (.v (.int q.1))):=by
   show oo 0 _ _ ρ=_;unfold oo;rw[ev,ek];show(if(i5 a).length<=1000 then Out.nx (ρ.set 0 (.ob (.dA (putD (i5 a) (IU (z1+q.1)) (.int (vI a (z1+q.1)+s*z2*q.2)))))) else .no)=_
   rw[if_pos (by rw[Ir];have:=hk.len;omega),vW];rfl
  exact(bI (ρ1:=ρ) rfl st).trans ih
theorem rn: ∀m:aT,mN (i5 m)=some (m.map λq=>D.int q.1)
 | []=>rfl
 |q::m=>by show(mN (i5 m)).map _=_;rw[rn m];rfl
theorem lU: ∀m:aT,kU (jD m)=some m
 | []=>rfl
 |q::m=>by show(kU (jD m)).map _=_;rw[lU m];rfl
structure GoP(B:Nat)(e m:aT)(s:Int):Prop where
 hB:B<=480
 nd:zY m
 hs:s.natAbs<=1
 he: ∀z∈e,z.2.natAbs<10^100
 hm: ∀q∈m,q.2.natAbs<10^200
 hk: ∀z∈e,∀q∈m, -(B:Int)<=z.1+q.1/\z.1+q.1<=B
theorem KyB.pp {B:Nat}{a e m:aT}{s:Int}(h:KyB B a)(hk: ∀z∈e,∀q∈m, -(B:Int)<=z.1+q.1/\z.1+q.1<=B):KyB B (BF a e m s):=KyB.fold _ h λq hq=>by
 obtain⟨z,hz,hq⟩:=Kc.mp hq
 obtain⟨w,hw,rfl⟩:=IE.mp hq
 exact hk z hz w hw
theorem vH {e m:aT}{s:Int}{B:Nat}(G:GoP B e m s): ∀(L a:aT) (s4 s5 s6:Sl),(∀z∈L,z∈e)->KyB B a->
 ∃s4' s5' s6',dZ (gT 2 (cx (gN 4) (cx (gN 5) (gb)))) (cD (b9 (uT 2)) (gN 6) AR) (L.map pD) (zR a e m s s4 s5 s6)=.nx (zR (BF a L m s) e m s s4' s5' s6')
 | [],a,s4,s5,s6,_,_=>⟨s4,s5,s6,rfl⟩
 |z::L,a,s4,s5,s6,hL,hk=>by
  have hz:=hL z Is
  obtain⟨t6,il⟩:=vp (e:=e) (z1:=z.1) (z2:=z.2) G.hB G.nd G.hs (G.he z hz) m a s6 (λ_ h=>h) hk (G.hk z hz) G.hm
  have hk':KyB B ((m.map λq=>(z.1+q.1,s*z.2*q.2)).foldl cE a):=KyB.fold _ hk λq hq=>by
   obtain⟨w,hw,rfl⟩:=IE.mp hq
   exact G.hk z hz w hw
  obtain⟨s4',s5',s6',ih⟩:=vH G L _ (.v (.int z.1)) (.v (.int z.2)) t6 (λy hy=>hL y (Ii _ hy)) hk'
  refine⟨s4',s5',s6',?_⟩
  have st:cD (b9 (uT 2)) (gN 6) AR (zR a e m s (.v (.int z.1)) (.v (.int z.2)) s6)=.nx (zR ((m.map λq=>(z.1+q.1,s*z.2*q.2)).foldl cE a) e m s (.v (.int z.1)) (.v (.int z.2)) t6):=
   (cK (ds:=m.map λq=>D.int q.1) (bG (show(yD 2 (zR a e m s (.v (.int z.1)) (.v (.int z.2)) s6)).bind mN=_ from rn m))).trans il
  rw[Ip];refine(bI (ρ1:=zR a e m s (.v (.int z.1)) (.v (.int z.2)) s6) rfl st).trans (ih.trans ?_)
  unfold BF;rw[show EK (z::L) m s=(m.map λq=>(z.1+q.1,s*z.2*q.2))++EK L m s from rfl,NT]
theorem FN {a e m:aT}{s:Int}{B:Nat}(G:GoP B e m s)(hk:KyB B a):bA (jD a) (jD m) (sD e) (.int s)=some (jD (BF a e m s)):=by
 obtain⟨s4,s5,s6,h⟩:=vH G e a .no .no .no (λ_ h=>h) hk
 have:jb (oe 7 (jD a) (jD m) (sD e) (.int s))=.nx (zR (BF a e m s) e m s s4 s5 s6):=(cK (ds:=e.map pD) (bG (cO rfl))).trans h
 unfold bA Bz;rw[this];rfl
theorem Dy {a e m:aT}{s:Int}{B:Nat}(G:GoP B e m s)(hk:KyB B a):G5 bA a m (sD e) (.int s)=some (BF a e m s):=by
 unfold G5;rw[FN G hk];exact lU _
theorem BJ {C:List Int}(hl:C.length<=100)(c:Nat):eD [eJ C,nI c]=some (.int (gI C c)):=by
 apply iz (kd:=.s) (n:=3) (t:=iI)
 unfold iI;have cp:bJ 1 (bR (ao 0)) (gN 3) (cs (aB EL (ao 3) (ao 1))) (ao 3) (i7 3 [eJ C,nI c])=some (.lst ((C.filter λx=>decide ((c:Int)<x)).map D.int)):=
  cV (ds:=C.map D.int) (DX rfl) (by rw[Ir];omega) (iW (h:=D.int) (o:=D.int) (q:=λx=>decide ((c:Int)<x)) C λx hx=>⟨[.v (eJ C),.v (nI c),.no,.v (.int x)],rfl,dm ((aW (x:=.int x) (y:=nI c) rfl rfl).trans rfl),λ_=>rfl⟩)
 rw[aX ((pg cp).trans rfl)];refine⟨_,dv ?_⟩
 have ln:aq dB (ae (ao 2) (ag)) [.v (eJ C),.v (nI c),.v (.lst ((C.filter λx=>decide ((c:Int)<x)).map D.int))]=some (nI (C.filter λx=>decide ((c:Int)<x)).length):=by
  show some (D.int _)=some (D.int _);rw[Ir]
 have md:aB bY (aq dB (ae (ao 2) (ag))) (ax (.int 2)) [.v (eJ C),.v (nI c),.v (.lst ((C.filter λx=>decide ((c:Int)<x)).map D.int))]=some (.int (((C.filter λx=>decide ((c:Int)<x)).length:Int) % 2)):=(aW ln rfl).trans (cZ (by decide))
 have eq:cs (aB xF (aB bY (aq dB (ae (ao 2) (ag))) (ax (.int 2))) (ax (.int 1))) [.v (eJ C),.v (nI c),.v (.lst ((C.filter λx=>decide ((c:Int)<x)).map D.int))]=some (decide ((C.filter λx=>decide ((c:Int)<x)).length % 2=1)):=by
  refine dm ((aW md rfl).trans ?_)
  rw[mU (by rw[eM];decide),gj]
  congr 2
  rw[decide_eq_decide];omega
 unfold gI
 by_cases h:(C.filter λx=>decide ((c:Int)<x)).length % 2=1
 ·rw[if_pos h]
  rw[decide_eq_true h] at eq;exact(FQ eq).trans rfl
 ·rw[if_neg h]
  rw[decide_eq_false h] at eq;exact(FB eq).trans rfl
abbrev D9:aA->Option (List Int):=um (aq iQ (ae (aB jK (ao 3) (bB (ae (ao 4) (ag)))) (ag)))
abbrev GM:FE:=aq (nF 2 eD) (ae (ao 3) (ae (ao 4) (ag)))
abbrev y0:FS:=gO (i6 (fB (ao 5)) (cs (aB (CT true) (ao 4) (ao 3)))) (nR 2 7 6 0 3 D9 bA (ao 5) GM) (skip)
abbrev jE(F:ca)(row:List aT)(found:ca)(s3 s4 s5 s6 s7:Sl):aA:=[.ob (.ddR F),.v (.lst (row.map sD)),.ob (.dd found),s3,s4,s5,s6,s7]
theorem Ft(L:List Int)(c:Int):(L.map D.int).any (λd=>dC d (.int c))=decide (c∈L):=by
 induction L with
 |nil=>simp
 |cons a L ih=>
  rw[Ip,Me,ih,gj,OM];simp only[QY,decide_eq_true_eq,IC];exact or_congr_left eq_comm
theorem EA(L:List Int)(c:Nat):CT true (nI c) (eJ L)=some (.bl (!decide ((c:Int)∈L))):=by
 unfold CT ye eJ;dsimp only;rw[yR,if_pos (by omega),Ft]
 rfl
theorem Ds {C:List Int}(hC:C.length<=50)(c:Nat){ρ:aA}(h3:ao 3 ρ=some (eJ C))(h4:ao 4 ρ=some (nI c)):D9 ρ=some (eo C c):=by
 have e1:aB jK (ao 3) (bB (ae (ao 4) (ag))) ρ=some (.tup ((C++[(c:Int)]).map D.int)):=by
  refine(aW (x:=eJ C) (y:=.tup [nI c]) h3 (dU (aK h4 rfl) (by simp))).trans ?_
  show(if _ then _ else _)=_
  rw[if_pos (Jk (show(C.map D.int).length+ [nI c].length<=900 by rw[Ir];simp;omega) (by decide)),Jv]
  rfl
 have e2:aq iQ (ae (aB jK (ao 3) (bB (ae (ao 4) (ag)))) (ag)) ρ=some (.lst ((eo C c).map D.int)):=by
  refine(fQ (aK e1 rfl)).trans ?_
  show(je _).map D.lst=_;unfold je;rw[if_pos (by rw[Ir,Jf];simp;omega),mC]
  rfl
 show(aq iQ _ ρ).bind _=_;rw[e2];exact mC _
theorem Ei {found:ca}{k:List Int}{P:aT->Prop}(h0:P [])(h: ∀z∈found,P z.2): ∃kA,(gS found k).1[(gS found k).2]? =some kA/\P kA.2:=by
 unfold gS;cases e:pF found k with
 |none=>exact⟨(k,[]),by dsimp only;rw[IX (Ie _),OF];rfl,h0⟩
 |some q=>
  obtain⟨m,hm⟩:=jQ e
  exact⟨(k,m),hm,h _ (KJ hm)⟩
theorem vB {F:ca}(nd:(eV F).Nodup){C:List Int}{m:aT}(h:(C,m)∈F):((pF F C).bind λq=>F[q]?)=some (C,m):=by
 cases e:pF F C with
 |none=>exact absurd (IE.mpr ⟨_,h,rfl⟩) (rD e)
 |some q=>
  obtain⟨m',hm⟩:=jQ e
  show F[q]? =_;rw[hm];have h':=KJ hm
  have:m'=m:=by
   clear e hm
   induction F with
   |nil=>cases h
   |cons z F ih=>
    rw[show eV (z::F)=z.1::eV F from rfl,Jq] at nd;rcases IC.mp h with a|a<;>rcases IC.mp h' with b|b
    ·rw[<-a] at b;exact congrArg Prod.snd b
    ·rw[<-a] at nd;exact absurd (IE.mpr ⟨_,b,rfl⟩) nd.1
    ·rw[<-b] at nd;exact absurd (IE.mpr ⟨_,a,rfl⟩) nd.1
    ·exact ih nd.2 a b
  rw[this]
theorem Bc {F found:ca}{row:List aT}{C:List Int}{m e:aT}{c B:Nat}{s6 s7:Sl}(nd:(eV F).Nodup)(hF:(C,m)∈F)(G:GoP B e m (gI C c))(gf: ∀z∈found,KyB B z.2)(hl:found.length<=1000)(hC:C.length<=50):
 nR 2 7 6 0 3 D9 bA (ao 5) GM (jE F row found (.v (eJ C)) (.v (nI c)) (.v (sD e)) s6 s7)=.nx (jE F row (qL found ⟨eo C c,e,m,gI C c⟩) (.v (eJ C)) (.v (nI c)) (.v (sD e)) .no .no):=by
 have e1:eZ 2 (jE F row found (.v (eJ C)) (.v (nI c)) (.v (sD e)) s6 s7)=some found:=rfl
 have e2:=Ds hC c (ρ:=jE F row found (.v (eJ C)) (.v (nI c)) (.v (sD e)) s6 s7) rfl rfl
 obtain⟨kA,g5,gk⟩:=Ei (found:=found) (k:=eo C c) (KyB.nil B) gf
 have er:yT 2 7 6 (gS found (eo C c)).1 (jE F row found (.v (eJ C)) (.v (nI c)) (.v (sD e)) s6 s7)=jE F row (gS found (eo C c)).1 (.v (eJ C)) (.v (nI c)) (.v (sD e)) .no .no:=rfl
 have g1:j3 0 (jE F row (gS found (eo C c)).1 (.v (eJ C)) (.v (nI c)) (.v (sD e)) .no .no)=some F:=rfl
 have g2:(ao 3 (jE F row (gS found (eo C c)).1 (.v (eJ C)) (.v (nI c)) (.v (sD e)) .no .no)).bind AM=some C:=mC C
 have g3:ao 5 (jE F row (gS found (eo C c)).1 (.v (eJ C)) (.v (nI c)) (.v (sD e)) .no .no)=some (sD e):=rfl
 have g4:GM (jE F row (gS found (eo C c)).1 (.v (eJ C)) (.v (nI c)) (.v (sD e)) .no .no)=some (.int (gI C c)):=(cX (ds:=[eJ C,nI c]) rfl rfl).trans (BJ (by omega) c)
 unfold nR;rw[e1,e2];dsimp only;rw[if_pos ⟨hl,by show 6<8;decide,by show 7<8;decide⟩,er,g1,g2,g3,g4,g5]
 dsimp only;rw[vB nd hF];dsimp only;rw[Dy G gk];show Out.nx (jE F row _ (.v (eJ C)) (.v (nI c)) (.v (sD e)) .no .no)=_;congr 2
 unfold qL BW;rw[g5]
structure GoM(B:Nat)(F:ca)(row:List aT)(KS:List (List Int)):Prop where
 nd:(eV F).Nodup
 kl:KS.length<=1000
 hl: ∀z∈F,z.1.length<=50
 rl:row.length<=100
 g: ∀z∈F,∀c,c<row.length->GoP B (row.getD c []) z.2 (gI z.1 c)
 ks: ∀z∈F,∀c,c<row.length->(c:Int)∉z.1->eo z.1 c∈KS
structure FdM(B:Nat)(KS:List (List Int))(found:ca):Prop where
 gd:Bq (KyB B) found
 ky: ∀C∈eV found,C∈KS
theorem oF {α:Type} [DecidableEq α]: ∀ {l m:List α},l.Nodup->(∀x∈l,x∈m)->l.length<=m.length
 | [],m,_,_=>Jh _
 |a::l,m,nd,h=>by
  rw[Jq] at nd;have ha:=h a Is
  have:=oF (l:=l) (m:=m.erase a) nd.2 λx hx=>(List.mem_erase_of_ne (λe:x=a=>nd.1 (e▸hx))).mpr (h x (Ii _ hx))
  rw[List.length_erase_of_mem ha] at this;have:0<m.length:=List.length_pos_of_mem ha
  rw[IK];omega
theorem FdM.len {B:Nat}{KS:List (List Int)}{found:ca}(h:FdM B KS found):found.length<=KS.length:=by
 have:=oF h.gd.1 h.ky
 unfold eV at this
 rwa [Ir] at this
theorem FdM.step {B:Nat}{KS:List (List Int)}{found:ca}(h:FdM B KS found){j:Jb}(hk:j.k∈KS)(hb: ∀z∈j.e,∀q∈j.m, -(B:Int)<=z.1+q.1/\z.1+q.1<=B):FdM B KS (qL found j):=
 ⟨oW h.gd (λ_ h=>h) _ _ ((KyB.nil B).pp hb) λm hm=>hm.pp hb,λC hC=>((pR _ _ _ C).mp hC).elim (h.ky C) λe=>e▸hk⟩
def AU(row:List aT)(C:List Int)(c:Nat):Bool:=decide (row.getD c []≠[])&& !decide ((c:Int)∈C)
theorem GC {B:Nat}{F:ca}{row:List aT}{KS:List (List Int)}(G:GoM B F row KS){z:List Int×aT}(hz:z∈F): ∀(l:List Nat) (found:ca) (s4 s5 s6 s7:Sl),(∀c∈l,c<row.length)->FdM B KS found->
 ∃s4' s5' s6' s7',dZ (gT 2 (cx (gN 4) (cx (gN 5) (gb)))) y0 (l.map λ(c:Nat)=>D.tup [nI c,sD (row.getD c [])]) (jE F row found (.v (eJ z.1)) s4 s5 s6 s7)=.nx (jE F row (((l.filter (AU row z.1)).map λc=>(⟨eo z.1 c,row.getD c [],z.2,gI z.1 c⟩:Jb)).foldl qL found) (.v (eJ z.1)) s4' s5' s6' s7')/\FdM B KS (((l.filter (AU row z.1)).map λc=>(⟨eo z.1 c,row.getD c [],z.2,gI z.1 c⟩:Jb)).foldl qL found)
 | [],found,s4,s5,s6,s7,_,h=>⟨s4,s5,s6,s7,rfl,h⟩
 |c::l,found,s4,s5,s6,s7,hc,h=>by
  have c1:=hc c Is
  have tv:fB (ao 5) (jE F row found (.v (eJ z.1)) (.v (nI c)) (.v (sD (row.getD c []))) s6 s7)=some (decide (row.getD c []≠[])):=by
   show some (!((row.getD c []).map pD).isEmpty)=_;congr 1
   cases row.getD c []<;>rfl
  have nv:cs (aB (CT true) (ao 4) (ao 3)) (jE F row found (.v (eJ z.1)) (.v (nI c)) (.v (sD (row.getD c []))) s6 s7)=some (!decide ((c:Int)∈z.1)):=dm ((aW (x:=nI c) (y:=eJ z.1) rfl rfl).trans (EA z.1 c))
  have cv:=rK tv nv
  rw[Ip];cases cc:AU row z.1 c with
  |true=>
   have hn:(c:Int)∉z.1:=by unfold AU at cc;simp at cc;exact cc.2
   have st:y0 (jE F row found (.v (eJ z.1)) (.v (nI c)) (.v (sD (row.getD c []))) s6 s7)=.nx (jE F row (qL found ⟨eo z.1 c,row.getD c [],z.2,gI z.1 c⟩) (.v (eJ z.1)) (.v (nI c)) (.v (sD (row.getD c []))) .no .no):=
    (zV (cv.trans (congrArg some cc))).trans (Bc G.nd hz (G.g z hz c c1) h.gd.2 (Jk h.len G.kl) (G.hl z hz))
   obtain⟨t4,t5,t6,t7,ih,ig⟩:=GC G hz l _ (.v (nI c)) (.v (sD (row.getD c []))) .no .no (λx hx=>hc x (Ii _ hx)) (h.step (j:=⟨eo z.1 c,row.getD c [],z.2,gI z.1 c⟩) (G.ks z hz c c1 hn) (G.g z hz c c1).hk)
   refine⟨t4,t5,t6,t7,?_,?_⟩
   ·rw[Ol cc,Ip,JW]
    exact(bI (ρ1:=jE F row found (.v (eJ z.1)) (.v (nI c)) (.v (sD (row.getD c []))) s6 s7) rfl st).trans ih
   ·rw[Ol cc,Ip,JW];exact ig
  |false=>
   have st:y0 (jE F row found (.v (eJ z.1)) (.v (nI c)) (.v (sD (row.getD c []))) s6 s7)=.nx (jE F row found (.v (eJ z.1)) (.v (nI c)) (.v (sD (row.getD c []))) s6 s7):=iB (cv.trans (congrArg some cc))
   obtain⟨t4,t5,t6,t7,ih,ig⟩:=GC G hz l found (.v (nI c)) (.v (sD (row.getD c []))) s6 s7 (λx hx=>hc x (Ii _ hx)) h
   refine⟨t4,t5,t6,t7,?_,?_⟩
   ·rw[Om (by rw[cc];simp)]
    exact(bI (ρ1:=jE F row found (.v (eJ z.1)) (.v (nI c)) (.v (sD (row.getD c []))) s6 s7) rfl st).trans ih
   ·rw[Om (by rw[cc];simp)];exact ig
theorem G4(row:List aT):js (row.map sD)=(Iz row.length).map λ(c:Nat)=>D.tup [nI c,sD (row.getD c [])]:=by
 unfold js;rw[Ir];refine JP λc hc=>?_
 rw[JB] at hc;simp[JH,hc]
theorem FV {B:Nat}{F:ca}{row:List aT}{KS:List (List Int)}(G:GoM B F row KS): ∀(L found:ca) (s3 s4 s5 s6 s7:Sl),(∀z∈L,z∈F)->FdM B KS found->
 ∃s3' s4' s5' s6' s7',dZ (gN 3) (cD (b9 (x8 (ao 1))) (gT 2 (cx (gN 4) (cx (gN 5) (gb)))) y0) (L.map λz=>eJ z.1) (jE F row found s3 s4 s5 s6 s7)=.nx (jE F row ((L.flatMap (EF row)).foldl qL found) s3' s4' s5' s6' s7')/\FdM B KS ((L.flatMap (EF row)).foldl qL found)
 | [],found,s3,s4,s5,s6,s7,_,h=>⟨s3,s4,s5,s6,s7,rfl,h⟩
 |z::L,found,s3,s4,s5,s6,s7,hL,h=>by
  obtain⟨t4,t5,t6,t7,il,ig⟩:=GC G (hL z Is) (Iz row.length) found s4 s5 s6 s7 (λc hc=>JB.mp hc) h
  obtain⟨u3,u4,u5,u6,u7,ih,iG⟩:=FV G L _ (.v (eJ z.1)) t4 t5 t6 t7 (λy hy=>hL y (Ii _ hy)) ig
  have st:cD (b9 (x8 (ao 1))) (gT 2 (cx (gN 4) (cx (gN 5) (gb)))) y0 (jE F row found (.v (eJ z.1)) s4 s5 s6 s7)=.nx (jE F row ((EF row z).foldl qL found) (.v (eJ z.1)) t4 t5 t6 t7):=
   (cK (ds:=(Iz row.length).map λ(c:Nat)=>D.tup [nI c,sD (row.getD c [])]) (bG (show some (js (row.map sD))=_ by rw[G4]))).trans il
  refine⟨u3,u4,u5,u6,u7,?_,?_⟩
  ·rw[Ip,J6,NT]
   exact(bI (ρ1:=jE F row found (.v (eJ z.1)) s4 s5 s6 s7) rfl st).trans ih
  ·rw[J6,NT];exact iG
theorem Fp {B:Nat}{F:ca}{row:List aT}{KS:List (List Int)}(G:GoM B F row KS):bb F (.lst (row.map sD))=some (Dr F row)/\FdM B KS (Dr F row):=by
 obtain⟨s3,s4,s5,s6,s7,h,hG⟩:=FV G F [] .no .no .no .no .no (λ_ h=>h) ⟨⟨KM,λz hz=>nomatch hz⟩,λC hC=>nomatch hC⟩
 refine⟨?_,hG⟩
 have:dD (xx 8 F (.lst (row.map sD)))=.nx (jE F row (Dr F row) s3 s4 s5 s6 s7):=by
  unfold dD;refine(aX (ρ':=jE F row [] .no .no .no .no .no) rfl).trans ?_
  refine(aX (ρ':=jE F row (Dr F row) s3 s4 s5 s6 s7) ?_).trans rfl
  exact(cK (ds:=F.map λz=>eJ z.1) (bG rfl)).trans h
 unfold bb Gk;rw[this];rfl
theorem pM {α:Type}{V:Nat}: ∀ {l:List α} {f:α->Int},(∀a∈l,(f a).natAbs<=V)->(sm l f).natAbs<=l.length*V
 | [],f,_=>by rw[tM];exact Jh _
 |a::l,f,h=>by
  rw[bq,IK,Nat.add_mul,Pj];have h1:=h a Is
  have h2:=pM (l:=l) λb hb=>h b (Ii _ hb)
  omega
theorem rN(C:List Int)(c:Int):(gI C c).natAbs<=1:=by unfold gI;split<;>decide
theorem uf: ∀t:List Nat,(sR t).natAbs<=1
 | []=>by decide
 |c::t=>by
  show(sR t*gI (kR t) c).natAbs<=1;rw[L4];exact K8 (uf t) (rN _ _)
def EJ(n i:Nat):List (List Int):=(jx n i).map λq=>kR q.reverse
structure GoE(n:Nat)(E:Nat->Nat->aT)(S:Nat->Nat)(V:Nat):Prop where
 hn:n<=6
 sB: ∀i,i<=n->S i<=480
 pw: ∀i,i<n-> ∀c,c<n-> ∀w∈E i c, -(S (i+1):Int)+S i<=w.1/\w.1+S i<=S (i+1)
 co: ∀i,i<n-> ∀c,c<n-> ∀w∈E i c,w.2.natAbs<10^100
 cf: ∀i,i<=n-> ∀q∈jx n i,∀p,(j8 E q.reverse p).natAbs<=V
 vb:720*V<10^200
section
variable {n:Nat}{E:Nat->Nat->aT}{S:Nat->Nat}{V:Nat}(G:GoE n E S V)
include G
theorem GoE.val {i:Nat}{F:ca}(hi:i<=n)(I:DInv n E i F){z:List Int×aT}(hz:z∈F){q:Int×Int}(hq:q∈z.2):q.2.natAbs<10^200:=by
 have nd:=I.gd.2 z hz
 have e:vD F z.1 q.1=q.2:=by
  rw[eP I.gd.1 (m:=z.2) hz];have h1:=qj nd hq
  rw[iN,eY (IE.mpr ⟨q,hq,rfl⟩)] at h1;injection h1 with h1
  injection h1
 rw[<-e,I.val];refine JA (pM (V:=V) λr hr=>?_) (JA (Lk _ (vY n G.hn i hi)) G.vb)
 split
 ·rw[L4]
  have:=K8 (uf r.reverse) (G.cf i hi r hr q.1)
  rwa [Pj] at this
 ·exact Jh _
theorem GoE.gom {i:Nat}{F:ca}(hi:i<n)(I:DInv n E i F)(H:FdM (S i) (EJ n i) F):GoM (S (i+1)) F ((Iz n).map (E i)) (EJ n (i+1)):=by
 have hn:=G.hn
 have lr:((Iz n).map (E i)).length=n:=by simp
 have er: ∀c,c<n->((Iz n).map (E i)).getD c []=E i c:=λc hc=>by simp[JH,hc]
 refine⟨I.gd.1,?_,λz hz=>?_,by rw[lr];omega,λz hz c hc=>?_,λz hz c hc hm=>?_⟩
 ·unfold EJ
  rw[Ir];have:=vY n hn (i+1) hi
  omega
 ·obtain⟨q,hq,e⟩:=I.ky z.1 (IE.mpr ⟨z,hz,rfl⟩)
  rw[<-e,(lu q.reverse).length_eq,Ir,Lu,ir n i q hq];omega
 ·rw[lr] at hc
  rw[er c hc];refine⟨G.sB (i+1) hi,I.gd.2 z hz,rN _ _,G.co i hi c hc,λq hq=>G.val (by omega) I hz hq,λw hw q hq=>?_⟩
  have h1:=G.pw i hi c hc w hw
  have h2:=(H.gd.2 z hz).2 q.1 (IE.mpr ⟨q,hq,rfl⟩)
  omega
 ·rw[lr] at hc
  obtain⟨q,hq,e⟩:=I.ky z.1 (IE.mpr ⟨z,hz,rfl⟩)
  refine IE.mpr ⟨q++[c],Kc.mpr ⟨q,hq,IE.mpr ⟨c,JJ.mpr ⟨JB.mpr hc,?_⟩,rfl⟩⟩,?_⟩
  ·rw[<-e,kR_mem,Lx] at hm
   simpa using hm
  ·show kR (q++[c]).reverse=eo z.1 c
   rw[Kh,<-e];rfl
end
abbrev bZ(n:Nat)(E:Nat->Nat->aT)(i:Nat):D:=.lst (((Iz n).map (E i)).map sD)
abbrev aR(n:Nat)(E:Nat->Nat->aT):D:=.lst ((Iz n).map (bZ n E))
abbrev Eb(tb:D)(F:ca)(s2:Sl):aA:=[.v tb,.ob (.dd F),s2,.no]
theorem Hr {n:Nat}{E:Nat->Nat->aT}{S:Nat->Nat}{V:Nat}(G:GoE n E S V)(tb:D): ∀(k i:Nat) (F:ca) (s2:Sl),i+k=n->DInv n E i F->FdM (S i) (EJ n i) F->
 ∃F' s2',dZ (gN 2) (opnD 1 (DZ 1 bb (ao 2))) ((U9 i k).map (bZ n E)) (Eb tb F s2)=.nx (Eb tb F' s2')/\DInv n E n F'/\FdM (S n) (EJ n n) F'
 |0,i,F,s2,h,I,H=>by
  have:i=n:=by omega
  subst this;exact⟨F,s2,rfl,I,H⟩
 |k+1,i,F,s2,h,I,H=>by
  have hi:i<n:=by omega
  obtain⟨e,H'⟩:=Fp (G.gom hi I H)
  obtain⟨F',s2',ih,J⟩:=Hr G tb k (i+1) _ (.v (bZ n E i)) (by omega) (I.step rfl) H'
  refine⟨F',s2',?_,J⟩
  have st:opnD 1 (DZ 1 bb (ao 2)) (Eb tb F (.v (bZ n E i)))=.nx (Eb tb (Dr F ((Iz n).map (E i))) (.v (bZ n E i))):=by
   show DZ 1 bb (ao 2) [.v tb,.ob (.ddR F),.v (bZ n E i),.no]=_;have g1:j3 1 [.v tb,.ob (.ddR F),.v (bZ n E i),.no]=some F:=rfl
   have g2:ao 2 [.v tb,.ob (.ddR F),.v (bZ n E i),.no]=some (bZ n E i):=rfl
   unfold DZ;rw[g1,g2];dsimp only;rw[e];rfl
  rw[QH,Ip];exact(bI (ρ1:=Eb tb F (.v (bZ n E i))) rfl st).trans ih
def yh(n:Nat):List Int:=(Iz n).map λ(i:Nat)=>(i:Int)
theorem zn {n:Nat}{q:List Nat}(h:q∈jx n n):kR q.reverse=yh n:=by
 have hp:(kR q.reverse).Perm (yh n):=(lu q.reverse).trans (((List.reverse_perm q).trans (BA h).perm).map _)
 have hw:(yh n).Pairwise (λa b=>fc b a=false):=by
  unfold yh;rw[KQ];refine List.pairwise_lt_range.imp λ{a b} hab=>?_
  simp only[fc,decide_eq_false_iff_not];omega
 cases e:q.reverse with
 |nil=>
  rw[e] at hp;exact(List.perm_nil.mp hp.symm).symm
 |cons c t=>
  rw[e] at hp;have:yh n=br fc (kR t++[(c:Int)]):=kS Aa (hp.symm.trans (aY (lt:=fc) _)) hw
  exact this.symm
theorem DInv.whole {n:Nat}{E:Nat->Nat->aT}{F:ca}(I:DInv n E n F)(p:Int):vD F (yh n) p=sm (jx n n) λq=>sR q.reverse*j8 E q.reverse p:=by
 rw[I.val];exact aU λq hq=>if_pos (zn hq)
theorem zF {n:Nat}{E:Nat->Nat->aT}{S:Nat->Nat}{V:Nat}(G:GoE n E S V): ∃m:aT,KyB (S n) m/\(∀p,sg m p=sm (jx n n) λq=>sR q.reverse*j8 E q.reverse p)/\ ∀d,iH [sD m]=some d->aL [aR n E]=some d:=by
 have hn:=G.hn
 have F0:FdM (S 0) (EJ n 0) [([],[(0,1)])]:=⟨⟨by simp[eV],λz hz=>by rw[IN.mp hz];exact⟨by simp,λk hk=>by rw[show k=0 by simpa using hk];omega⟩⟩,λC hC=>by rw[show C=[] by simpa [eV] using hC];exact IE.mpr ⟨[],by simp[jx],rfl⟩⟩
 obtain⟨F,s2,lp,I,H⟩:=Hr G (aR n E) n 0 _ .no (by omega) (DInv.zero n E) F0
 have ln:aq dB (ae (ao 0) (ag)) [.v (aR n E),.ob (.ddR F),s2,.no]=some (nI n):=by
  show some (D.int _)=some (D.int _);rw[Ir,LX]
 have tk:Fu (aq dB (ae (ao 0) (ag))) [.v (aR n E),.ob (.ddR F),s2,.no]=some (yh n):=by
  unfold Fu;rw[ln];show(if _ then _ else _)=_
  rw[if_pos (by omega)]
  rfl
 have g1:j3 1 [.v (aR n E),.ob (.ddR F),s2,.no]=some F:=rfl
 have main: ∀(m:aT) (s3:Sl),xA 3 1 (Fu (aq dB (ae (ao 0) (ag)))) [.v (aR n E),.ob (.ddR F),s2,.no]=.nx [.v (aR n E),.ob (.ddR F),s2,s3]->DQ 3 [.v (aR n E),.ob (.ddR F),s2,s3]=some (sD m)-> ∀d,iH [sD m]=some d->aL [aR n E]=some d:=λm s3 h1 h2 d hd=>by
  apply iz (kd:=.n) (n:=4) (t:=fP)
  unfold fP;refine⟨[.v (aR n E),.ob (.ddR F),s2,s3],?_⟩
  refine(aX (ρ':=Eb (aR n E) [([],[(0,1)])] .no) rfl).trans ?_
  refine(aX (ρ':=Eb (aR n E) F s2) ?_).trans ?_
  ·refine(cK (ds:=(Iz n).map (bZ n E)) (bG (cO rfl))).trans ?_
   rw[Pi];exact lp
  refine(aX (ρ':=[.v (aR n E),.ob (.ddR F),s2,s3]) ?_).trans ?_
  ·exact h1
  ·exact dv ((cX (aK h2 rfl) rfl).trans hd)
 by_cases hk:yh n∈eV F
 ·obtain⟨⟨C,m⟩,hz,e⟩:=IE.mp hk
  have e:C=yh n:=e
  subst e;refine⟨m,H.gd.2 _ hz,λp=>?_,main m (.ob (.dR (jD m))) ?_ ?_⟩
  ·rw[<-I.whole,eP I.gd.1 hz,Cw (I.gd.2 _ hz)]
  ·unfold xA
   rw[g1,tk];dsimp only;rw[vB I.gd.1 hz];rfl
  ·show((some (jD m)).bind kU).map _=_
   rw[IB,lU];rfl
 ·refine⟨[],KyB.nil _,λp=>?_,main [] (.ob (.dK [])) ?_ rfl⟩
  ·rw[<-I.whole,ii hk];rfl
  ·unfold xA
   rw[g1,tk];dsimp only;have:pF F (yh n)=none:=by
    cases e:pF F (yh n) with
    |none=>rfl
    |some q=>
     obtain⟨m,hm⟩:=jQ e
     exact absurd (IE.mpr ⟨_,KJ hm,rfl⟩) hk
   rw[this];rfl
def nH:Nat->List (List Nat×Int)
 |0=>[([],1)]
 |k+1=>(nH k).flatMap λz=>(Iz (k+1)).map λat_=>(z.1.take at_++[k]++z.1.drop at_,z.2*(if(k-at_) % 2=0 then 1 else -1))
theorem sy: ∀n,n<=4->(nH n).Perm ((jx n n).map λq=>(q,sR q.reverse)):=by
 have h: ∀n,n<=4->(nH n).isPerm ((jx n n).map λq=>(q,sR q.reverse))=true:=by decide+kernel
 exact λn hn=>Rb.mp (h n hn)
theorem wt {α:Type}{l m:List α}(h:l.Perm m)(f:α->Int):sm l f=sm m f:=by
 unfold sm;exact zv (h.map f)
theorem C2(A B:aT)(p:Int):sg (gL A B) p=sg (gL B A) p:=by
 have key: ∀A B:aT,sg (gL A B) p=sm A λa=>sm B λb=>if a.1+b.1=p then a.2*b.2 else 0:=λA B=>by
  rw[tH];refine aU λa _=>?_
  rw[EQ,jj];refine aU λb _=>?_
  by_cases h:b.1=p-a.1
  ·rw[if_pos h,if_pos (by omega)]
  ·rw[if_neg h,if_neg (by omega),K1]
 rw[key,key,jO];refine aU λb _=>aU λa _=>?_
 rw[Int.add_comm,Tr]
def sU(E:Nat->Nat->aT):Nat->List Nat->aT->aT
 |_,[],A=>A
 |i,c::o,A=>sU E (i+1) o (bd (gL A (E i c)))
theorem Ai(E:Nat->Nat->aT)(s:Int): ∀(o t:List Nat) (A:aT),(∀p,sg A p=s*j8 E t p)-> ∀p,sg (sU E t.length o A) p=s*j8 E (o.reverse++t) p
 | [],t,A,h,p=>h p
 |c::o,t,A,h,p=>by
  rw[List.reverse_cons,IS];refine Ai E s o (c::t) (bd (gL A (E t.length c))) (λp=>?_) p
  rw[iY,C2,tH];show _=s*sm (E t.length c) (λz=>z.2*j8 E t (p-z.1))
  rw[jj];refine aU λz _=>?_
  rw[h,NS]
def mq(E:Nat->Nat->aT)(n:Nat):aT:=(nH n).flatMap λz=>sU E 0 z.1 [(0,z.2)]
theorem ve(f:List Nat×Int->aT)(p:Int): ∀L:List (List Nat×Int),sg (L.flatMap f) p=sm L λz=>sg (f z) p
 | []=>rfl
 |z::L=>by rw[J6,ut,bq,ve f p L]
theorem oK(E:Nat->Nat->aT){n:Nat}(hn:n<=4)(p:Int):sg (mq E n) p=sm (jx n n) λq=>sR q.reverse*j8 E q.reverse p:=by
 unfold mq;rw[ve,wt (sy n hn),mD];refine aU λq _=>?_
 have:=Ai E (sR q.reverse) q [] [(0,sR q.reverse)] (λp=>by
  rw[db,ug,Lj];show _=_*(if p=0 then 1 else 0)
  by_cases h:p=0
  ·rw[if_pos h,if_pos h.symm,Um]
  ·rw[if_neg h,if_neg (IT h),K1]) p
 rw[JF] at this;exact this
def xQ(E:Nat->Nat->aT)(i:Nat):Nat->aT:=match i with
 |0=>E 1
 |1=>E 0
 |i+2=>E (i+2)
def xU:List Nat->List Nat
 |a::b::t=>b::a::t
 |q=>q
theorem AQ(E:Nat->Nat->aT)(a b:Nat)(p:Int):j8 (xQ E) [b,a] p=j8 E [a,b] p:=by
 show sm (E 0 b) (λz=>z.2*sm (E 1 a) (λw=>w.2*(if p-z.1-w.1=0 then 1 else 0)))=sm (E 1 a) (λw=>w.2*sm (E 0 b) (λz=>z.2*(if p-w.1-z.1=0 then 1 else 0)))
 rw[aU (g:=λz=>sm (E 1 a) λw=>z.2*(w.2*(if p-z.1-w.1=0 then 1 else 0))) λz _=>jj _ _ _,jO]
 refine aU λw _=>?_
 rw[jj];refine aU λz _=>?_
 rw[NS,show p-z.1-w.1=p-w.1-z.1 by omega]
theorem vg(E:Nat->Nat->aT)(a b:Nat): ∀(u:List Nat) (p:Int),j8 (xQ E) (u++[b,a]) p=j8 E (u++[a,b]) p
 | [],p=>AQ E a b p
 |c::u,p=>by
  show sm (xQ E (u++[b,a]).length c) (λz=>z.2*j8 (xQ E) (u++[b,a]) (p-z.1))=sm (E (u++[a,b]).length c) (λz=>z.2*j8 E (u++[a,b]) (p-z.1))
  rw[show(u++[b,a]).length=u.length+2 by simp,show(u++[a,b]).length=u.length+2 by simp]
  show sm (E (u.length+2) c) _=_;exact aU λz _=>by rw[vg E a b u]
theorem xY: ∀n,n<=4->((jx n n).map xU).Perm (jx n n):=by
 have h: ∀n,n<=4->((jx n n).map xU).isPerm (jx n n)=true:=by decide+kernel
 exact λn hn=>Rb.mp (h n hn)
theorem CY: ∀n,n<=4->2<=n-> ∀q∈jx n n,sR (xU q).reverse= - sR q.reverse:=by decide+kernel
theorem D4(E:Nat->Nat->aT){n:Nat}(h2:2<=n)(hn:n<=4)(p:Int):(sm (jx n n) λq=>sR q.reverse*j8 (xQ E) q.reverse p)= - sm (jx n n) λq=>sR q.reverse*j8 E q.reverse p:=by
 rw[<-wt (xY n hn) λq=>sR q.reverse*j8 E q.reverse p,mD]
 have: ∀l:List (List Nat),∀f:List Nat->Int, - sm l f=sm l λq=> - f q:=λl f=>by
  induction l with
  |nil=>rfl
  |cons a l ih=>rw[bq,bq,<-ih];omega
 rw[this];refine aU λq hq=>?_
 rw[CY n hn h2 q hq,Int.neg_mul,Int.neg_neg];have ln:=ir n n q hq
 match q,ln with
 | [],ln=>simp at ln;omega
 | [a],ln=>simp at ln;omega
 |a::b::t,_=>
  have e1:(a::b::t).reverse=t.reverse++[b,a]:=by simp
  have e2:(xU (a::b::t)).reverse=t.reverse++[a,b]:=by simp[xU]
  rw[e2,e1,vg]
theorem nU {n:Nat}(h:n<=100000):n<=sizeLine:=Jk h (by decide)
theorem mh(src:D): ∀(L kvs:List (Int×Int)) (s2 s3:Sl),(kvs.map (·.1)).Nodup->(∀k∈kvs.map (·.1), -(240:Int)<=k/\k<=240)->(∀q∈L, -(240:Int)<=q.1/\q.1<=240)-> ∃s2' s3',dZ (gT 2 (cx (gN 2) (cx (gN 3) (gb)))) (lW 1 (ao 2) (aB bt (lT 1 (ao 2) (ax (.int 0))) (ao 3))) (L.map pD) [.v src,.ob (.dK (i5 kvs)),s2,s3]=.nx [.v src,.ob (.dK (i5 (L.foldl cE kvs))),s2',s3']
 | [],kvs,s2,s3,_,_,_=>⟨s2,s3,rfl⟩
 |p::L,kvs,s2,s3,nd,rg,hL=>by
  have hl:=jM (R:=240) nd rg
  rw[Ir] at hl;have nd':((cE kvs p).map (·.1)).Nodup:=iS [p] kvs nd
  have rg': ∀k∈(cE kvs p).map (·.1), -(240:Int)<=k/\k<=240:=λk hk=>by
   rcases(fZ k [p] kvs).mp hk with h|h
   ·exact rg k h
   ·have:k=p.1:=by simpa using h
    rw[this];exact hL p Is
  obtain⟨s2',s3',ih⟩:=mh src L (cE kvs p) (.v (.int p.1)) (.v (.int p.2)) nd' rg' λq hq=>hL q (Ii _ hq)
  refine⟨s2',s3',?_⟩
  rw[Ip,JW];have gt:lT 1 (ao 2) (ax (.int 0)) [.v src,.ob (.dK (i5 kvs)),.v (.int p.1),.v (.int p.2)]=some (.int (vI kvs p.1)):=by
   show some ((iw (i5 kvs) (IU p.1)).getD (.int 0))=_;rw[iN];unfold vI;cases kvs.find? λq=>decide (q.1=p.1)<;>rfl
  have st:lW 1 (ao 2) (aB bt (lT 1 (ao 2) (ax (.int 0))) (ao 3)) [.v src,.ob (.dK (i5 kvs)),.v (.int p.1),.v (.int p.2)]=.nx [.v src,.ob (.dK (i5 (cE kvs p))),.v (.int p.1),.v (.int p.2)]:=by
   have e:aB bt (lT 1 (ao 2) (ax (.int 0))) (ao 3) [.v src,.ob (.dK (i5 kvs)),.v (.int p.1),.v (.int p.2)]=some (.int (vI kvs p.1+p.2)):=(aW gt (y:=.int p.2) rfl).trans (dn _ _)
   unfold lW;rw[e];show(if(i5 kvs).length<=1000 then Out.nx [.v src,.ob (.dK (putD (i5 kvs) (IU p.1) (.int (vI kvs p.1+p.2)))),.v (.int p.1),.v (.int p.2)] else .no)=_
   rw[if_pos (by rw[Ir];omega),vW];rfl
  exact(bI (ρ1:=[.v src,.ob (.dK (i5 kvs)),.v (.int p.1),.v (.int p.2)]) rfl st).trans ih
theorem iA(L:List (Int×Int))(hL: ∀q∈L, -(240:Int)<=q.1/\q.1<=240):iH [.lst (L.map pD)]=some (.lst ((bd L).map pD)):=by
 apply iz (kd:=.n) (n:=4) (t:=sY)
 unfold sY;have s0:vP 1 (i7 4 [.lst (L.map pD)])=.nx [.v (.lst (L.map pD)),.ob (.dK (i5 [])),.no,.no]:=rfl
 rw[aX s0];obtain⟨s2,s3,lp⟩:=mh (.lst (L.map pD)) L [] .no .no (by simp) (by simp) hL
 rw[aX ((cK (ds:=L.map pD) (bG (cO rfl))).trans lp)];refine⟨_,dv ?_⟩
 have nd:((mX L).map (·.1)).Nodup:=iS L [] (by simp)
 have hf:(mX L).length<=481:=by
  have:=jM (R:=240) nd λk hk=>by
   rcases(fZ k L []).mp hk with h|h
   ·exact nomatch h
   ·obtain⟨q,hq,rfl⟩:=IE.mp h
    exact hL q hq
  rw[Ir] at this;exact this
 show bJ 1 (bR (sf 1)) (gN 4) (cs (aB nl (sI 1 (ao 4)) (ax (.int 0)))) (bB (ae (ao 4) (ae (sI 1 (ao 4)) (ag)))) [.v (.lst (L.map pD)),.ob (.dK (i5 (mX L))),s2,s3]=_;have so:sf 1 [.v (.lst (L.map pD)),.ob (.dK (i5 (mX L))),s2,s3]=some (.lst ((br fc ((mX L).map (·.1))).map D.int)):=by
  show((gv (i5 (mX L))).bind λns=>if ns.length<=100000/\ns.Nodup then some (D.lst ((br fc ns).map D.int)) else none)=_
  rw[wy,IB,if_pos ⟨by rw[Ir];omega,nd⟩]
 have sl:(br fc ((mX L).map (·.1))).length=(mX L).length:=by rw[(aY (lt:=fc) _).length_eq,Ir]
 refine(cV (ds:=(br fc ((mX L).map (·.1))).map D.int) (cO so) (by rw[Ir,sl];omega) (iW (h:=D.int) (o:=λp=>pD (p,vI (mX L) p)) (q:=λp=> !decide (vI (mX L) p=0)) (br fc ((mX L).map (·.1))) λp hp=>?_)).trans (by unfold bd;rw[Jl];rfl)
 have hm:p∈(mX L).map (·.1):=(aY (lt:=fc) _).mem_iff.mp hp
 have ix:sI 1 (ao 4) [.v (.lst (L.map pD)),.ob (.dK (i5 (mX L))),s2,s3,.v (.int p)]=some (.int (vI (mX L) p)):=by
  show iw (i5 (mX L)) (IU p)=_;rw[iN,eY hm]
 refine⟨[.v (.lst (L.map pD)),.ob (.dK (i5 (mX L))),s2,s3,.v (.int p)],rfl,dm ((aW ix (y:=.int 0) rfl).trans (by rw[tF (by rw[eM];omega),gj])),λ_=>dU (aK rfl (aK ix rfl)) (by simp)⟩
def Sm(L:List (Int×Int)):Prop:= ∀q∈L,q.2.natAbs<10^200
theorem rX {α:Type}(l:List α):(l.filter λ_=>true)=l:=List.filter_eq_self.mpr λ_ _=>rfl
theorem nS {α β:Type}(f:α->β): ∀l:List α,(l.flatMap λq=>[f q])=l.map f
 | []=>rfl
 |a::l=>by rw[J6,nS f l];rfl
theorem zd {L M:List (Int×Int)}(hk: ∀q∈gL L M, -(240:Int)<=q.1/\q.1<=240)(hN:L.length*M.length<=100000)(s1:Sm L)(s2:Sm M):gl [.lst (L.map pD),.lst (M.map pD)]=some (.lst ((bd (gL L M)).map pD)):=by
 apply pU (kd:=.n) (n:=2) (t:=o6)
 unfold o6;have inner: ∀p∈L,y8 (bR (ao 1)) (gT 2 (cx (gN 4) (cx (gN 5) (gb)))) (cB) (bB (ae (aB bt (ao 2) (ao 4)) (ae (aB bz (ao 3) (ao 5)) (ag)))) [.v (.lst (L.map pD)),.v (.lst (M.map pD)),.v (.int p.1),.v (.int p.2),.no,.no]=some ((M.map λq=>(p.1+q.1,p.2*q.2)).map pD):=λp hp=>by
  refine(DL (ds:=M.map pD) (cO rfl) (pX (h:=pD) (q:=λ_=>true) (o:=λq=>[pD (p.1+q.1,p.2*q.2)]) M λq hq=>⟨[.v (.lst (L.map pD)),.v (.lst (M.map pD)),.v (.int p.1),.v (.int p.2),.v (.int q.1),.v (.int q.2)],rfl,rfl,λ_=>By (dU (aK ((aW (x:=.int p.1) (y:=.int q.1) rfl rfl).trans (dn _ _)) (aK ((aW (x:=.int p.2) (y:=.int q.2) rfl rfl).trans (cj (s1 p hp) (s2 q hq))) rfl)) (by simp))⟩)).trans ?_
  rw[rX,nS,Jl];rfl
 have e:xB 4 (bR (ao 0)) (gT 2 (cx (gN 2) (cx (gN 3) (gb)))) (cB) (bR (ao 1)) (gT 2 (cx (gN 4) (cx (gN 5) (gb)))) (cB) (bB (ae (aB bt (ao 2) (ao 4)) (ae (aB bz (ao 3) (ao 5)) (ag)))) (i7 2 [.lst (L.map pD),.lst (M.map pD)])=some (.lst ((gL L M).map pD)):=by
  have c:=pX (g:=gT 2 (cx (gN 2) (cx (gN 3) (gb)))) (p:=cB) (A:=y8 (bR (ao 1)) (gT 2 (cx (gN 4) (cx (gN 5) (gb)))) (cB) (bB (ae (aB bt (ao 2) (ao 4)) (ae (aB bz (ao 3) (ao 5)) (ag))))) (ρ0:=[.v (.lst (L.map pD)),.v (.lst (M.map pD)),.no,.no,.no,.no]) (h:=pD) (q:=λ_=>true) (o:=λp=>(M.map λq=>(p.1+q.1,p.2*q.2)).map pD) L λp hp=>⟨[.v (.lst (L.map pD)),.v (.lst (M.map pD)),.v (.int p.1),.v (.int p.2),.no,.no],rfl,rfl,λ_=>inner p hp⟩
  rw[rX] at c;have ef:(L.flatMap λp=>(M.map λq=>(p.1+q.1,p.2*q.2)).map pD)=(gL L M).map pD:=by unfold gL;rw[List.map_flatMap]
  rw[ef] at c;unfold xB;rw[cO (ds:=L.map pD) rfl,IB];show(mR _ _ _ [.v (.lst (L.map pD)),.v (.lst (M.map pD)),.no,.no,.no,.no] _).bind _=_;rw[c,IB,if_pos (by rw[Ir];rw[pw_len];exact nU hN)]
 exact dv ((cX (ds:=[.lst ((gL L M).map pD)]) (aK e rfl) rfl).trans (iA _ hk))
theorem lS {R R' c c' N N':Nat}{L M:List (Int×Int)}(h:Bnd R c N L)(h':Bnd R' c' N' M)(hR:R+R'<=240)(hN:N*N'<=100000)(hM:N'<=900)(s1:Sm L)(s2:Sm M):ba [.lst (L.map pD),.lst (M.map pD)]=some (.lst ((bd (gL L M)).map pD)):=by
 have hp:=h.pw h'
 have hML:=h'.len
 apply iz (kd:=.n) (n:=5) (t:=fC)
 unfold fC;have s0:fL 2 (cn (ag)) (i7 5 [.lst (L.map pD),.lst (M.map pD)])=.nx [.v (.lst (L.map pD)),.v (.lst (M.map pD)),.own (([]:List (Int×Int)).map pD),.no,.no]:=rfl
 rw[aX s0];have lp: ∀(K F:List (Int×Int)) (s3 s4:Sl),(∀p∈K,p.2.natAbs<10^200)->F.length+K.length*M.length<=100000-> ∃s3' s4',dZ (gT 2 (cx (gN 3) (cx (gN 4) (gb)))) (dY (qz 2 (bJ 2 (bR (ao 1)) (gT 2 (cx (gN 5) (cx (gN 6) (gb)))) (cB) (bB (ae (aB bt (ao 3) (ao 5)) (ae (aB bz (ao 4) (ao 6)) (ag))))))) (K.map pD) [.v (.lst (L.map pD)),.v (.lst (M.map pD)),.own (F.map pD),s3,s4]=.nx [.v (.lst (L.map pD)),.v (.lst (M.map pD)),.own ((F++gL K M).map pD),s3',s4']:=by
  intro K
  induction K with
  |nil=>intro F s3 s4 _ _;exact⟨s3,s4,by unfold gL;rw[On,JF];rfl⟩
  |cons p K ih=>
   intro F s3 s4 hK hl;rw[IK,OG] at hl;obtain⟨s3',s4',e⟩:=ih (F++M.map λq=>(p.1+q.1,p.2*q.2)) (.v (.int p.1)) (.v (.int p.2)) (λq hq=>hK q (Ii _ hq)) (by rw[Jf,Ir];omega)
   refine⟨s3',s4',?_⟩
   have cp:bJ 2 (bR (ao 1)) (gT 2 (cx (gN 5) (cx (gN 6) (gb)))) (cB) (bB (ae (aB bt (ao 3) (ao 5)) (ae (aB bz (ao 4) (ao 6)) (ag)))) [.v (.lst (L.map pD)),.v (.lst (M.map pD)),.own (F.map pD),.v (.int p.1),.v (.int p.2)]=some (.lst ((M.map λq=>(p.1+q.1,p.2*q.2)).map pD)):=
    (cV (ds:=M.map pD) (cO rfl) (by rw[Ir];omega) (dL (h:=pD) (o:=λq=>pD (p.1+q.1,p.2*q.2)) M λq hq=>⟨[.v (.lst (L.map pD)),.v (.lst (M.map pD)),.own (F.map pD),.v (.int p.1),.v (.int p.2),.v (.int q.1),.v (.int q.2)],rfl,dU (aK ((aW (x:=.int p.1) (y:=.int q.1) rfl rfl).trans (dn _ _)) (aK ((aW (x:=.int p.2) (y:=.int q.2) rfl rfl).trans (cj (hK p Is) (s2 q hq))) rfl)) (by simp)⟩)).trans (by rw[Jl];rfl)
   have st:dY (qz 2 (bJ 2 (bR (ao 1)) (gT 2 (cx (gN 5) (cx (gN 6) (gb)))) (cB) (bB (ae (aB bt (ao 3) (ao 5)) (ae (aB bz (ao 4) (ao 6)) (ag)))))) [.v (.lst (L.map pD)),.v (.lst (M.map pD)),.own (F.map pD),.v (.int p.1),.v (.int p.2)]=.nx [.v (.lst (L.map pD)),.v (.lst (M.map pD)),.own ((F++M.map λq=>(p.1+q.1,p.2*q.2)).map pD),.v (.int p.1),.v (.int p.2)]:=by
    refine(lV (ρ1:=[.v (.lst (L.map pD)),.v (.lst (M.map pD)),.own ((F++M.map λq=>(p.1+q.1,p.2*q.2)).map pD),.v (.int p.1),.v (.int p.2)]) (d:=.non) ?_)
    unfold qz;rw[cp];dsimp only;show(if(F.map pD).length+((M.map λq=>(p.1+q.1,p.2*q.2)).map pD).length<=Iy then _ else _)=_
    rw[if_pos (by rw[Ir,Ir,Ir];exact nU (by omega)),Jv]
    rfl
   rw[Ip,bI (ρ1:=[.v (.lst (L.map pD)),.v (.lst (M.map pD)),.own (F.map pD),.v (.int p.1),.v (.int p.2)]) rfl st,e];unfold gL;rw[J6,IS]
 obtain⟨s3,s4,e⟩:=lp L [] .no .no s1 (by have:=K8 h.len h'.len;simp;omega)
 rw[aX ((cK (ds:=L.map pD) (bG (cO rfl))).trans e),Nd];show∃ρ,bo (aq (nF 1 bh) (ae (ao 2) (ag))) [.v (.lst (L.map pD)),.v (.lst (M.map pD)),.v (.lst ((gL L M).map pD)),s3,s4]=_;exact⟨_,dv ((cX (ds:=[.lst ((gL L M).map pD)]) rfl rfl).trans (iA _ λq hq=>by have:=hp.pow q hq;omega))⟩
def CS(z:List Nat×Int):D:=.tup [uA z.1,.int z.2]
theorem wE: ∀n,n<=4->cU [nI n]=some (.lst ((nH n).map CS))
 |0,_=>by kernel_rfl
 |1,_=>by kernel_rfl
 |2,_=>by kernel_rfl
 |3,_=>by kernel_rfl
 |4,_=>by kernel_rfl
 |n+5,h=>by omega
theorem vq: ∀n,n<=4->(nH n).length<=24:=by decide+kernel
theorem Ez: ∀n,n<=4-> ∀z∈nH n,z.1.length=n/\(∀v∈z.1,v<n)/\z.2.natAbs<=1:=by decide+kernel
theorem Bnd.mono {R c N R' c' N':Nat}{L:aT}(h:Bnd R c N L)(h1:R<=R')(h2:c<=c')(h3:N<=N'):Bnd R' c' N' L:=
 ⟨Jk h.len h3,λq hq=>by have:=h.pow q hq;omega,λq hq=>Jk (h.cf q hq) h2⟩
structure SmE(n:Nat)(E:Nat->Nat->aT):Prop where
 hn:n<=4
 b: ∀i,i<n-> ∀c,c<n->Bnd 6 9 3 (E i c)
abbrev yC(tb:D)(F:aT)(z:List Nat×Int)(A:aT)(s5 s6:Sl):aA:=[.v tb,.own (F.map pD),.v (uA z.1),.v (.int z.2),.own (A.map pD),s5,s6]
abbrev Gf:FS:=(λρ=>(fL 4 (aq (nF 2 ba) (ae (ao 4) (ae (aB en (aB en (ao 0) (ao 5)) (ao 6)) (ag))))) (nE 4 ρ))
theorem Hx {n i:Nat}{f:Nat->D}(h:i<n):en (.lst ((Iz n).map f)) (nI i)=some (f i):=vG (by rw[Jd,Mb h];rfl)
theorem Bnd.sm {R c N:Nat}{L:aT}(h:Bnd R c N L)(hc:c<10^200):Sm L:=λq hq=>JA (h.cf q hq) hc
theorem FM: ∀i,i<=4->2000^i<=16000000000000:=by decide
theorem zq {n:Nat}{E:Nat->Nat->aT}(G:SmE n E)(F:aT)(z:List Nat×Int): ∀(o:List Nat) (i:Nat) (A:aT) (s5 s6:Sl),i+o.length=n->(∀v∈o,v<n)->Bnd (6*i) (2000^i) 49 A->
 ∃s5' s6',dZ (gT 2 (cx (gN 5) (cx (gN 6) (gb)))) Gf ((Iz o.length).map λ(j:Nat)=>D.tup [nI (i+j),nI (o.getD j 0)]) (yC (aR n E) F z A s5 s6)=.nx (yC (aR n E) F z (sU E i o A) s5' s6')/\Bnd 24 (2000^4) 49 (sU E i o A)
 | [],i,A,s5,s6,hi,_,hA=>⟨s5,s6,rfl,hA.mono (by have:=G.hn;simp at hi;omega) (M7 (by decide) (by have:=G.hn;simp at hi;omega)) (Ie _)⟩
 |c::o,i,A,s5,s6,hi,hv,hA=>by
  have hn:=G.hn
  rw[IK] at hi;have hc:=hv c Is
  have hb:=G.b i (by omega) c hc
  have p4:=FM i (by omega)
  have bp:(16000000000000:Nat)<10^200:=by decide
  have e1:ba [sD A,sD (E i c)]=some (sD (bd (gL A (E i c)))):=lS hA hb (by omega) (by decide) (by decide) (hA.sm (JA p4 bp)) (hb.sm (by decide))
  have hA':Bnd (6*(i+1)) (2000^(i+1)) 49 (bd (gL A (E i c))):=(hA.pw hb).tidy.mono (by omega) (by rw[Tv];omega) (by omega)
  obtain⟨s5',s6',ih,ib⟩:=zq G F z o (i+1) (bd (gL A (E i c))) (.v (nI i)) (.v (nI c)) (by omega) (λv h=>hv v (Ii _ h)) hA'
  refine⟨s5',s6',?_,ib⟩
  rw[IK,Kb,Ip,Jl];have er:((λ(j:Nat)=>D.tup [nI (i+j),nI ((c::o).getD j 0)])∘Uv)=λ(j:Nat)=>D.tup [nI (i+1+j),nI (o.getD j 0)]:=by
   funext j;show D.tup [nI (i+(j+1)),nI ((c::o).getD (j+1) 0)]=_;rw[show i+(j+1)=i+1+j by omega];rfl
  rw[er];have x1:aB en (aB en (ao 0) (ao 5)) (ao 6) [.v (aR n E),.own (F.map pD),.v (uA z.1),.v (.int z.2),.v (sD A),.v (nI i),.v (nI c)]=some (sD (E i c)):=by
   refine(aW ((aW (x:=aR n E) (y:=nI i) rfl rfl).trans (Hx (by omega))) (y:=nI c) rfl).trans ?_
   show en (.lst (((Iz n).map (E i)).map sD)) (nI c)=_;rw[Jl];exact Hx hc
  have st:Gf (yC (aR n E) F z A (.v (nI i)) (.v (nI c)))=.nx (yC (aR n E) F z (bd (gL A (E i c))) (.v (nI i)) (.v (nI c))):=
   (iR (ρ:=[.v (aR n E),.own (F.map pD),.v (uA z.1),.v (.int z.2),.v (sD A),.v (nI i),.v (nI c)]) ((cX (ds:=[sD A,sD (E i c)]) (aK rfl (aK x1 rfl)) rfl).trans e1)).trans rfl
  exact(bI (ρ1:=yC (aR n E) F z A (.v (nI i)) (.v (nI c))) rfl st).trans ih
theorem zJ {n:Nat}{E:Nat->Nat->aT}(G:SmE n E):eg [aR n E]=some (sD (bd (mq E n))):=by
 have hn:=G.hn
 apply iz (kd:=.n) (n:=7) (t:=hV)
 unfold hV;have q1:fL 1 (cn (ag)) (i7 7 [aR n E])=.nx [.v (aR n E),.own (([]:aT).map pD),.no,.no,.no,.no,.no]:=(iR (gE rfl (by simp))).trans rfl
 rw[aX q1];have lp: ∀(L:List (List Nat×Int)) (F:aT) (s2 s3 s4 s5 s6:Sl),(∀z∈L,z∈nH n)->F.length+L.length*49<=90000->(∀q∈F, -(24:Int)<=q.1/\q.1<=24)-> ∃s2' s3' s4' s5' s6',dZ (gT 2 (cx (gN 2) (cx (gN 3) (gb)))) (aS (fL 4 (cn (ae (bB (ae (ax (.int 0)) (ae (ao 3) (ag)))) (ag))))
  (aS (cD (b9 (yd (ao 2))) (gT 2 (cx (gN 5) (cx (gN 6) (gb)))) Gf)
  (dY (xw 1 4)))) (L.map CS) [.v (aR n E),.own (F.map pD),s2,s3,s4,s5,s6]=.nx [.v (aR n E),.own ((F++L.flatMap λz=>sU E 0 z.1 [(0,z.2)]).map pD),s2',s3',s4',s5',s6']/\ ∀q∈F++L.flatMap (λz=>sU E 0 z.1 [(0,z.2)]), -(24:Int)<=q.1/\q.1<=24:=by
  intro L
  induction L with
  |nil=>intro F s2 s3 s4 s5 s6 _ _ hF;exact⟨s2,s3,s4,s5,s6,by rw[On,JF];rfl,by rw[On,JF];exact hF⟩
  |cons z L ih=>
   intro F s2 s3 s4 s5 s6 hL hl hF;rw[IK,OG] at hl;obtain⟨z1,z2,z3⟩:=Ez n hn z (hL z Is)
   have b0:Bnd (6*0) (2000^0) 49 [((0:Int),z.2)]:=⟨by simp,λq hq=>by rw[IN.mp hq];exact⟨by simp,by simp⟩,λq hq=>by rw[IN.mp hq];exact z3⟩
   obtain⟨t5,t6,il,ib⟩:=zq G F z z.1 0 [(0,z.2)] s5 s6 (by omega) z2 b0
   obtain⟨u2,u3,u4,u5,u6,e,eb⟩:=ih (F++sU E 0 z.1 [(0,z.2)]) (.v (uA z.1)) (.v (.int z.2)) (.own ((sU E 0 z.1 [(0,z.2)]).map pD)) t5 t6 (λy hy=>hL y (Ii _ hy)) (by rw[Jf];have:=ib.len;omega) (λq hq=>by
    rcases IM.mp hq with h|h
    ·exact hF q h
    ·exact ib.pow q h)
   refine⟨u2,u3,u4,u5,u6,?_,?_⟩
   ·have y1:fL 4 (cn (ae (bB (ae (ax (.int 0)) (ae (ao 3) (ag)))) (ag))) [.v (aR n E),.own (F.map pD),.v (uA z.1),.v (.int z.2),s4,s5,s6]=.nx (yC (aR n E) F z [(0,z.2)] s5 s6):=(iR (gE (ds:=[pD (0,z.2)]) (aK (dU rfl (by simp)) rfl) (by simp))).trans rfl
    have y2:cD (b9 (yd (ao 2))) (gT 2 (cx (gN 5) (cx (gN 6) (gb)))) Gf (yC (aR n E) F z [(0,z.2)] s5 s6)=.nx (yC (aR n E) F z (sU E 0 z.1 [(0,z.2)]) t5 t6):=by
     refine(cK (ds:=(Iz z.1.length).map λ(j:Nat)=>D.tup [nI (0+j),nI (z.1.getD j 0)]) (bG ?_)).trans il
     show some (js (z.1.map nI))=_;congr 1
     unfold js;rw[Ir];refine JP λj hj=>?_
     rw[JB] at hj;rw[ML];simp[JH,hj]
    have y3:dY (xw 1 4) (yC (aR n E) F z (sU E 0 z.1 [(0,z.2)]) t5 t6)=.nx (yC (aR n E) (F++sU E 0 z.1 [(0,z.2)]) z (sU E 0 z.1 [(0,z.2)]) t5 t6):=by
     refine(lV (ρ1:=yC (aR n E) (F++sU E 0 z.1 [(0,z.2)]) z (sU E 0 z.1 [(0,z.2)]) t5 t6) (d:=.non) ?_)
     show(if(F.map pD).length+((sU E 0 z.1 [(0,z.2)]).map pD).length<=Iy then _ else _)=_
     rw[if_pos (by rw[Ir,Ir];have:=ib.len;exact nU (by omega)),<-Jv]
     rfl
    rw[Ip,J6,<-IS];exact(bI (ρ1:=[.v (aR n E),.own (F.map pD),.v (uA z.1),.v (.int z.2),s4,s5,s6]) rfl ((aX y1).trans ((aX y2).trans y3))).trans e
   ·rw[J6,<-IS];exact eb
 have ol:=vq n hn
 obtain⟨s2,s3,s4,s5,s6,e,eb⟩:=lp (nH n) [] .no .no .no .no .no (λ_ h=>h) (by simp;omega) (λq hq=>nomatch hq)
 have ln:aq dB (ae (ao 0) (ag)) [.v (aR n E),.own (([]:aT).map pD),.no,.no,.no,.no,.no]=some (nI n):=by
  show some (D.int _)=some (D.int _);rw[Ir,LX]
 have q2:=(cK (f:=b9 (bR (aq (nF 1 cU) (ae (aq dB (ae (ao 0) (ag))) (ag))))) (ds:=(nH n).map CS) (ρ:=[.v (aR n E),.own (([]:aT).map pD),.no,.no,.no,.no,.no]) (bG (cO ((cX (ds:=[nI n]) (aK ln rfl) rfl).trans (wE n hn))))).trans e
 rw[aX q2,Nd];rw[Nd] at eb;exact⟨_,dv ((cX (ds:=[sD (mq E n)]) rfl rfl).trans (iA _ λq hq=>by have:=eb q hq;omega))⟩
theorem xV {f:GA}{ρ ρ1:aA}{ds:List D}(h:f ρ=some (ds,ρ1))(h2:ds.length<=1000):qJ f ρ=some (.tup ds,ρ1):=by
 unfold qJ;rw[h];show(if _ then _ else _)=_
 rw[if_pos (Jk h2 (by decide))]
theorem n9 {L:aT}{q:Int×Int}(h:q∈bd L): ∃p∈L,p.1=q.1:=by
 unfold bd at h;obtain⟨p,hp,rfl⟩:=IE.mp h
 have hp:=(aY (lt:=fc) _).mem_iff.mp (JJ.mp hp).1
 rcases qt p L [] hp with h|h
 ·exact nomatch h
 ·obtain⟨q,hq,e⟩:=IE.mp h
  exact⟨q,hq,e⟩
abbrev HG:FS:=dY (bu 1 1 pG (eX (qJ (eX (fA lc (bu 0 1 aP (b9 (ae (ax (.int 13)) (ag)))) (pu (ax (.int 6)))) (eX (fA bz (fA en (pu (cn (ae (ax (.int 1)) (ae (fG (ax (.int 1))) (ag))))) (bu 0 1 aP (b9 (ae (ax (.int 2)) (ag))))) (fA bt (pu (ax (.int 1))) (bu 0 1 aP (b9 (ae (ax (.int 9)) (ag)))))) (b9 (ag))))) (b9 (ag))))
theorem yY {N:Nat}{a b:Int}(B:Bag N a b)(hN:N<=700000000): ∃(T:aT) (a' b':Int),cb (a8 a b) []=some (sD T,a8 a' b')/\Bnd 6 9 3 T/\Bag (N+10) a' b':=by
 obtain⟨t,a3,b3,e3,B3,t0,t1⟩:=iU (m:=4) B (by omega) (by decide) (by decide)
 obtain⟨n,hn,rfl⟩: ∃n:Nat,n<=3/\t=n:=⟨t.toNat,by omega,by omega⟩
 have q3:fL 1 (cn (ag)) (o9 3 (a8 a b) [])=.nx [.arg (a8 a b),.own (([]:aT).map pD),.no]:=(iR (gE rfl (by simp))).trans rfl
 have q4:zt (eX (bu 0 1 aP (b9 (ae (ax (.int 4)) (ag)))) (b9 (ag))) [.arg (a8 a b),.own (([]:aT).map pD),.no]=some (sV 0 n,[.arg (a8 a3 b3),.own (([]:aT).map pD),.no]):=by
  have:eX (bu 0 1 aP (b9 (ae (ax (.int 4)) (ag)))) (b9 (ag)) [.arg (a8 a b),.own (([]:aT).map pD),.no]=some ([.int n],[.arg (a8 a3 b3),.own (([]:aT).map pD),.no]):=
   jS (eE (i:=0) (n:=1) (b0:=a8 a b) (ds:=[.int 4]) rfl (bG rfl) rfl rfl e3) rfl
  unfold zt;rw[this];show(if(n:Int).natAbs<4000000000 then _ else _)=_
  rw[if_pos (by omega),KP]
 obtain⟨ρ',lp,L,a',b',s2,⟨hL,hL2,hL3⟩,B',rfl⟩:=qr (g:=gN 2) (b:=HG) (P:=λi ρ=> ∃(L:aT) (a' b':Int) (s2:Sl),(L.length=i/\(∀q∈L, -(6:Int)<=q.1/\q.1<=6)/\ ∀q∈L,q.2.natAbs<=9)/\Bag (N+1+3*i) a' b'/\ρ=[.arg (a8 a' b'),.own (L.map pD),s2]) (sV 0 n) 0 (λd hd i ρ hi hρ=>by
  obtain⟨L,a',b',s2,⟨hL,hL2,hL3⟩,B',rfl⟩:=hρ
  have hi:i<n:=by simpa [sV] using hi
  obtain⟨u,a4,b4,e4,B4,u0,u1⟩:=iU (m:=13) B' (by omega) (by decide) (by decide)
  obtain⟨v,a5,b5,e5,B5,v0,v1⟩:=iU (m:=2) B4 (by omega) (by decide) (by decide)
  obtain⟨w,a6,b6,e6,B6,w0,w1⟩:=iU (m:=9) B5 (by omega) (by decide) (by decide)
  obtain⟨sg0,hs1,hs2⟩: ∃sg0:Int,en (.lst [.int 1,.int (-1)]) (.int v)=some (.int sg0)/\(sg0=1\/sg0= -1):=by
   have:v=0\/v=1:=by omega
   rcases this with rfl|rfl
   ·exact⟨1,rfl,.inl rfl⟩
   ·exact⟨-1,rfl,.inr rfl⟩
  have z:qJ (eX (fA lc (bu 0 1 aP (b9 (ae (ax (.int 13)) (ag)))) (pu (ax (.int 6)))) (eX (fA bz (fA en (pu (cn (ae (ax (.int 1)) (ae (fG (ax (.int 1))) (ag))))) (bu 0 1 aP (b9 (ae (ax (.int 2)) (ag))))) (fA bt (pu (ax (.int 1))) (bu 0 1 aP (b9 (ae (ax (.int 9)) (ag)))))) (b9 (ag)))) [.arg (a8 a' b'),.own (L.map pD),.v d]=some (pD (u-6,sg0*(1+w)),[.arg (a8 a6 b6),.own (L.map pD),.v d]):=by
   refine xV (ds:=[.int (u-6),.int (sg0*(1+w))]) (jS (ρ1:=[.arg (a8 a4 b4),.own (L.map pD),.v d]) (lx (eE (i:=0) (n:=1) (b0:=a8 a' b') (ds:=[.int 13]) rfl (bG rfl) rfl rfl e4) (wq rfl) (mJ _ _)) (jS (ρ1:=[.arg (a8 a6 b6),.own (L.map pD),.v d]) (lx (ρ1:=[.arg (a8 a5 b5),.own (L.map pD),.v d]) (lx (wq (gE (ds:=[.int 1,.int (-1)]) rfl (by simp))) (eE (i:=0) (n:=1) (b0:=a8 a4 b4) (ds:=[.int 2]) rfl (bG rfl) rfl rfl e5) hs1) (lx (wq rfl) (eE (i:=0) (n:=1) (b0:=a8 a5 b5) (ds:=[.int 9]) rfl (bG rfl) rfl rfl e6) (dn _ _)) (cj ?_ ?_)) rfl)) (by simp)
   ·rcases hs2 with e|e<;>rw[e]<;>decide
   ·exact JA (show(1+w).natAbs<=9 by omega) (by decide)
  refine⟨_,[.arg (a8 a6 b6),.own ((L++[(u-6,sg0*(1+w))]).map pD),.v d],rfl,(An (b0:=L.map pD) (bs:=L.map pD) (d:=pD (u-6,sg0*(1+w))) rfl (jS z rfl) rfl (by rw[Ir];omega)).trans (by rw[Jv];rfl),L++[(u-6,sg0*(1+w))],a6,b6,_,⟨by rw[Jf,hL];rfl,λq hq=>?_,λq hq=>?_⟩,B6.mono (by omega),rfl⟩
  ·rcases IM.mp hq with hq|hq
   ·exact hL2 q hq
   ·rw[IN.mp hq];dsimp only;omega
  ·rcases IM.mp hq with hq|hq
   ·exact hL3 q hq
   ·rw[IN.mp hq];dsimp only
    rcases hs2 with e|e<;>rw[e]<;>omega) [.arg (a8 a3 b3),.own (([]:aT).map pD),.no] ⟨[],a3,b3,_,⟨rfl,by simp,by simp⟩,B3.mono (by omega),rfl⟩
 have hu:0+(sV 0 n).length=n:=by simp[sV]
 rw[hu] at hL B'
 let T:aT:=(bd L).filter λq=>decide ((if q.2<0 then -q.2 else q.2)<10)
 have ts:bh [sD L]=some (sD (bd L)):=iA L λq hq=>by have:=hL2 q hq;omega
 have tl:(bd L).length<=3:=Jk (se L) (by omega)
 have cp:bJ 1 (bR (aq (nF 1 bh) (ae (ao 1) (ag)))) (gN 3) (cs (aB Ax (aq nC (ae (aB en (ao 3) (ax (.int 1))) (ag))) (ax (.int 10)))) (ao 3) [.arg (a8 a' b'),.v (sD L),s2]=some (sD T):=
  cV (ds:=(bd L).map pD) (cO ((cX (ds:=[sD L]) rfl rfl).trans ts)) (by rw[Ir];omega) (iW (h:=pD) (o:=pD) (q:=λq=>decide ((if q.2<0 then -q.2 else q.2)<10)) (bd L) λq hq=>⟨[.arg (a8 a' b'),.v (sD L),s2,.v (pD q)],rfl,dm ((aW (x:=.int (if q.2<0 then -q.2 else q.2)) (y:=.int 10) ((fQ (ds:=[.int q.2]) (aK ((aW (x:=pD q) (y:=.int 1) rfl rfl).trans rfl) rfl)).trans rfl) rfl).trans (jY _ _)),λ_=>rfl⟩)
 refine⟨T,a',b',?_,⟨Jk (O0 _ _) tl,λq hq=>?_,λq hq=>?_⟩,B'.mono (by omega)⟩
 ·refine Ey (kd:=.n) (n:=3) (t:=ik) (ρ:=[.arg (a8 a' b'),.v (sD L),s2]) ?_ rfl
  unfold ik;rw[aX q3,aX ((cK q4).trans lp)];exact dv cp
 ·obtain⟨p,hp,e⟩:=n9 (JJ.mp hq).1
  have:=hL2 p hp
  omega
 ·have:=(JJ.mp hq).2
  have:=of_decide_eq_true this
  split at this<;>omega
abbrev sS(r:List aT):D:=.lst (r.map sD)
abbrev Ex(rows:List (List aT)):D:=.lst (rows.map sS)
structure RwO(n:Nat)(rows:List (List aT)):Prop where
 hn:n<=4
 l:rows.length=n
 w: ∀r∈rows,r.length=n/\ ∀e∈r,Bnd 6 9 3 e
def F4(rows:List (List aT))(i c:Nat):aT:=(rows.getD i []).getD c []
theorem RwO.tbl {n:Nat}{rows:List (List aT)}(h:RwO n rows):Ex rows=aR n (F4 rows):=by
 show D.lst _=D.lst _;congr 1
 apply QK (by simp[h.l])
 intro i h1 h2;have hi:i<rows.length:=by simpa using h1
 have hr:=(h.w rows[i] (MW hi)).1
 simp only[List.getElem_map,List.getElem_range];show D.lst _=D.lst _;congr 1
 apply QK (by simp[hr])
 intro c h3 h4;have hc:c<rows[i].length:=by simpa using h3
 simp[F4,JH,hi,hc]
theorem RwO.sm {n:Nat}{rows:List (List aT)}(h:RwO n rows):SmE n (F4 rows):=by
 refine⟨h.hn,λi hi c hc=>?_⟩
 have hi':i<rows.length:=by rw[h.l];exact hi
 obtain⟨h1,h2⟩:=h.w rows[i] (MW hi')
 have hc':c<rows[i].length:=by rw[h1];exact hc
 have:F4 rows i c=rows[i][c]:=by simp[F4,JH,hi',hc']
 rw[this];exact h2 _ (MW hc')
theorem vz {n:Nat}{E:Nat->Nat->aT}(G:SmE n E): ∀(t:List Nat) (p:Int),t.length<=n->(∀v∈t,v<n)->(j8 E t p).natAbs<=27^t.length
 | [],p,_,_=>by show(if p=0 then(1:Int) else 0).natAbs<=1;split<;>decide
 |c::t,p,hl,hv=>by
  rw[IK] at hl;show(sm (E t.length c) (λz=>z.2*j8 E t (p-z.1))).natAbs<=27^(t.length+1)
  have hb:=G.b t.length (by omega) c (hv c Is)
  refine Jk (pM (V:=9*27^t.length) λz hz=>?_) ?_
  ·rw[L4]
   exact K8 (hb.cf z hz) (vz G t _ (by omega) λv h=>hv v (Ii _ h))
  ·rw[Tv,Nat.mul_comm (27^t.length) 27,show 27*27^t.length=3*(9*27^t.length) by omega]
   exact Lk _ hb.len
theorem SmE.go {n:Nat}{E:Nat->Nat->aT}(G:SmE n E):GoE n E (λi=>6*i) (27^4):=by
 have hn:=G.hn
 refine⟨by omega,λi hi=>by omega,λi hi c hc w hw=>?_,λi hi c hc w hw=>?_,λi hi q hq p=>?_,by decide⟩
 ·have:=(G.b i hi c hc).pow w hw
  omega
 ·exact JA ((G.b i hi c hc).cf w hw) (by decide)
 ·obtain⟨h1,h2,h3⟩:=ub n i q hq
  refine Jk (vz G q.reverse p (by rw[Lu,h1];exact hi) λv hv=>h3 v (Lx.mp hv)) ?_
  rw[Lu,h1];exact M7 (by decide) (by omega)
theorem vJ {n:Nat}{E:Nat->Nat->aT}(G:SmE n E): ∃m:aT,(∀p,sg m p=sm (jx n n) λq=>sR q.reverse*j8 E q.reverse p)/\aL [aR n E]=some (sD (bd m)):=by
 have hn:=G.hn
 obtain⟨m,hk,hs,h⟩:=zF G.go
 refine⟨m,hs,h _ (iA m λq hq=>?_)⟩
 have:=hk.2 q.1 (IE.mpr ⟨q,hq,rfl⟩)
 omega
theorem uX {n:Nat}{E:Nat->Nat->aT}(G:SmE n E):aL [aR n E]=some (sD (bd (mq E n))):=by
 obtain⟨m,hs,h⟩:=vJ G
 rw[h,qe λp=>(hs p).trans (oK E G.hn p).symm]
theorem SmE.sw {n:Nat}{E:Nat->Nat->aT}(G:SmE n E)(h2:2<=n):SmE n (xQ E):=by
 refine⟨G.hn,λi hi c hc=>?_⟩
 match i,hi with
 |0,_=>exact G.b 1 (by omega) c hc
 |1,_=>exact G.b 0 (by omega) c hc
 |i+2,hi=>exact G.b (i+2) hi c hc
theorem zr {n:Nat}{E:Nat->Nat->aT}(G:SmE n E)(h2:2<=n):aL [aR n (xQ E)]=some (sD ((bd (mq E n)).map λq=>(q.1,0-q.2))):=by
 obtain⟨m,hs,h⟩:=vJ (G.sw h2)
 rw[h];congr 2
 have ht:=c8 (mq E n)
 refine pf (c8 m) ⟨λp hp=>?_,?_⟩ λp=>?_
 ·obtain⟨q,hq,rfl⟩:=IE.mp hp
  have:=ht.1 q hq
  show 0-q.2≠0;omega
 ·rw[KQ]
  exact ht.2.imp λ{a b} h=>h
 ·rw[iY,hs,D4 E h2 G.hn,<-oK E G.hn,<-iY]
  rw[show(λq:Int×Int=>(q.1,0-q.2))=λq=>(q.1, -q.2) from funext λq=>by rw[Int.zero_sub]]
  exact(yZ p _).symm
theorem vf {n:Nat}(E:Nat->Nat->aT)(hn:n<=4):dN [aR n E]=some (aR n E):=by
 apply pU (kd:=.n) (n:=1) (t:=ji)
 unfold ji;refine dv (cV (ds:=(Iz n).map (bZ n E)) (cO rfl) (by simp;omega) (dL (h:=bZ n E) (o:=bZ n E) (Iz n) λi _=>⟨[.v (aR n E),.v (bZ n E i)],rfl,?_⟩))
 refine cV (ds:=((Iz n).map (E i)).map sD) (cO rfl) (by simp;omega) (dL (h:=sD) (o:=sD) ((Iz n).map (E i)) λe _=>⟨[.v (aR n E),.v (bZ n E i),.v (sD e)],rfl,?_⟩)
 exact(fQ (ds:=[sD e]) rfl).trans rfl
theorem uq: ∀S:aT,tD (S.map pD)=true
 | []=>rfl
 |q::S=>by
  rw[Ip];show(LF (pD q)&&tD (S.map pD))=true;rw[uq S];rfl
theorem Bp {f:FE}{ρ:aA}{S:aT}(e:f ρ=some (sD S)):EH f ρ=some (sD S):=by
 unfold EH;rw[e];show(if tD (S.map pD)=true then _ else _)=_
 rw[if_pos (uq S)]
theorem E1(n:Nat)(E:Nat->Nat->aT):dh (aR n E)<=32:=by
 have h1: ∀l:List aT,b7 (l.map sD)<=2:=λl=>by
  induction l with
  |nil=>unfold b7;exact Jh _
  |cons e l ih=>
   rw[Ip];unfold b7;have:dh (sD e)<=2:=by unfold dh;have:=zL e;omega
   omega
 have h2: ∀l:List Nat,b7 (l.map (bZ n E))<=3:=λl=>by
  induction l with
  |nil=>unfold b7;exact Jh _
  |cons i l ih=>
   rw[Ip];unfold b7;have:dh (bZ n E i)<=3:=by unfold dh;have:=h1 ((Iz n).map (E i));omega
   omega
 unfold dh;have:=h2 (Iz n)
 omega
def Be:aT:=[(-3,2),(40, -1)]
theorem DH {m:Nat}(E:Nat->Nat->aT)(hm:m+2<=4){ρ:aA}(h0:ao 0 ρ=some (aR (m+2) E)):aB mB (aB mB (gJ (ao 0) (nM (ax (.int 1))) (nM (ax (.int 2)))) (gJ (ao 0) vU (nM (ax (.int 1))))) (gJ (ao 0) (nM (ax (.int 2))) vU) ρ=some (aR (m+2) (xQ E)):=by
 have el:(Iz (m+2)).map (bZ (m+2) E)=bZ (m+2) E 0::bZ (m+2) E 1::(Iz m).map λi=>bZ (m+2) E (i+2):=by
  rw[Kb,Ip,Jl,Kb,Ip,Jl];rfl
 have el':(Iz (m+2)).map (bZ (m+2) (xQ E))=bZ (m+2) E 1::bZ (m+2) E 0::(Iz m).map λi=>bZ (m+2) E (i+2):=by
  rw[Kb,Ip,Jl,Kb,Ip,Jl];rfl
 have ht:ao 0 ρ=some (.lst (bZ (m+2) E 0::bZ (m+2) E 1::(Iz m).map λi=>bZ (m+2) E (i+2))):=by rw[h0,<-el]
 have ln:(bZ (m+2) E 0::bZ (m+2) E 1::(Iz m).map λi=>bZ (m+2) E (i+2)).length=m+2:=by simp
 have s1:gJ (ao 0) (nM (ax (.int 1))) (nM (ax (.int 2))) ρ=some (.lst [bZ (m+2) E 1]):=by
  unfold gJ;rw[ht];show some (D.lst (gQ _ (some 1) (some 2)))=_;unfold gQ;rw[ln,show HT.sIx (m+2) 0 (some 1)=1 from(HT.sIx_nat (m+2) 0 1).trans (by omega),show HT.sIx (m+2) (m+2) (some 2)=2 from(HT.sIx_nat (m+2) (m+2) 2).trans (by omega)]
  rfl
 have s2:gJ (ao 0) vU (nM (ax (.int 1))) ρ=some (.lst [bZ (m+2) E 0]):=by
  unfold gJ;rw[ht];show some (D.lst (gQ _ none (some 1)))=_;unfold gQ;rw[ln,HT.sIx_none,show HT.sIx (m+2) (m+2) (some 1)=1 from(HT.sIx_nat (m+2) (m+2) 1).trans (by omega)]
  rfl
 have s3:gJ (ao 0) (nM (ax (.int 2))) vU ρ=some (.lst ((Iz m).map λi=>bZ (m+2) E (i+2))):=by
  unfold gJ;rw[ht];show some (D.lst (gQ _ (some 2) none))=_;unfold gQ;rw[ln,HT.sIx_none,show HT.sIx (m+2) 0 (some 2)=2 from(HT.sIx_nat (m+2) 0 2).trans (by omega)]
  show some (D.lst (((Iz m).map λi=>bZ (m+2) E (i+2)).take (m+2-2)))=_
  rw[show m+2-2=((Iz m).map λi=>bZ (m+2) E (i+2)).length by simp,QI]
 refine(aW ((aW s1 s2).trans rfl) s3).trans ?_
 show(if _ then _ else _)=_
 rw[if_pos (nU (by simp;omega))]
 show some (D.lst _)=some (D.lst _);rw[el'];rfl
theorem z8 {n:Nat}{E:Nat->Nat->aT}(G:SmE n E):cQ [aR n E]=some (.bl true):=by
 have hn:=G.hn
 apply iz (kd:=.s) (n:=5) (t:=gW)
 unfold gW
 let T:=bd (mq E n)
 have hs:SumI T:=c8 _
 have hp:=zJ G
 have hd:=uX G
 obtain⟨m,hk,hsm,hdm⟩:=zF G.go
 have eT:T=bd m:=qe λp=>((oK E hn p).trans (hsm p).symm)
 have bT:Bnd 24 (100*10^100) 49 T:=by
  have hb:Bnd 24 (24*27^4) 49 T:=by
   refine⟨?_,λq hq=>?_,λq hq=>?_⟩
   ·rw[eT]
    have:=hk.len
    have:=se m
    omega
   ·rw[eT] at hq
    obtain⟨p,hp,e⟩:=n9 hq
    have:=hk.2 p.1 (IE.mpr ⟨p,hp,rfl⟩)
    omega
   ·have e:q.2=sg (mq E n) q.1:=by
     have hq':q∈bd (mq E n):=hq
     unfold bd at hq';obtain⟨p,_,rfl⟩:=IE.mp hq'
     exact wz _ p
    rw[e,oK E hn];have l24:(jx n n).length<=24:=by
     have:=(sy n hn).length_eq
     rw[Ir] at this;rw[<-this];exact vq n hn
    refine Jk (pM (V:=27^4) λr hr=>?_) (Lk _ l24)
    rw[L4];have:=K8 (uf r.reverse) (G.go.cf n (Ie _) r hr q.1)
    rwa [Pj] at this
  exact hb.mono (Ie _) (by decide) (Ie _)
 have bC:Bnd 40 2 2 Be:=⟨by decide,by decide,by decide⟩
 have sT:Sm T:=bT.sm (by decide)
 have sC:Sm Be:=bC.sm (by decide)
 have tm:gl [sD T,sD Be]=some (sD (bd (gL T Be))):=zd (λq hq=>by have:=(bT.pw bC).pow q hq;omega) (Jk (K8 bT.len bC.len) (by decide)) sT sC
 have pr:ba [sD T,sD Be]=some (sD (bd (gL T Be))):=lS bT bC (by decide) (by decide) (by decide) sT sC
 have q1:cS 1 (aq (nF 1 eg) (ae (ao 0) (ag))) (i7 5 [aR n E])=.nx [.v (aR n E),.v (sD T),.no,.no,.no]:=(pg ((cX (ds:=[aR n E]) rfl rfl).trans hp)).trans rfl
 have q2:cS 2 (aq (nF 1 dN) (ae (ao 0) (ag))) [.v (aR n E),.v (sD T),.no,.no,.no]=.nx [.v (aR n E),.v (sD T),.v (aR n E),.no,.no]:=(pg ((cX (ds:=[aR n E]) rfl rfl).trans (vf E hn))).trans rfl
 have cl: ∀ρ:aA,cn (ae (bB (ae (fG (ax (.int 3))) (ae (ax (.int 2)) (ag)))) (ae (bB (ae (ax (.int 40)) (ae (fG (ax (.int 1))) (ag)))) (ag))) ρ=some (sD Be):=λρ=>gE (ds:=[pD (-3,2),pD (40, -1)]) (aK (dU rfl (by simp)) (aK (dU rfl (by simp)) rfl)) (by simp)
 obtain⟨ρ',lp,s3,s4,rfl⟩:=lA (g:=gN 3) (b:=aS (fL 4 (aq (nF 1 aL) (ae (ao 2) (ag))))
  (aS (gO (pS (cs (aB nl (ao 2) (ao 0))) (pS (fF (fB (A3 (aq (nF 1 bQ) (ae (iL 4) (ag)))))) (cs (aB nl (iL 4) (ao 1))))) (bo (ax (.bl false))) (skip))
  (aS (gO (cs (aB nl (EH (aq (nF 2 gl) (ae (iL 4) (ae (cn (ae (bB (ae (fG (ax (.int 3))) (ae (ax (.int 2)) (ag)))) (ae (bB (ae (ax (.int 40)) (ae (fG (ax (.int 1))) (ag)))) (ag)))) (ag))))) (aq (nF 2 ba) (ae (ao 1) (ae (cn (ae (bB (ae (fG (ax (.int 3))) (ae (ax (.int 2)) (ag)))) (ae (bB (ae (ax (.int 40)) (ae (fG (ax (.int 1))) (ag)))) (ag)))) (ag)))))) (bo (ax (.bl false))) (skip))
  (dY (bu 4 1 pG (b9 (ae (bB (ae (ax (.int 99)) (ae (ax (.int 1)) (ag)))) (ag)))))))) (P:=λρ=> ∃s3 s4,ρ=[.v (aR n E),.v (sD T),.v (aR n E),s3,s4]) ((Iz 2).map nI) (λd hdd ρ hρ=>by
  obtain⟨s3,s4,rfl⟩:=hρ
  let ρ1:aA:=[.v (aR n E),.v (sD T),.v (aR n E),.v d,.own (T.map pD)]
  have z1:fL 4 (aq (nF 1 aL) (ae (ao 2) (ag))) [.v (aR n E),.v (sD T),.v (aR n E),.v d,s4]=.nx ρ1:=(iR ((cX (ds:=[aR n E]) rfl rfl).trans hd)).trans rfl
  have c1:cs (aB nl (ao 2) (ao 0)) ρ1=some false:=dm ((aW (x:=aR n E) (y:=aR n E) rfl rfl).trans (lC (E1 n E)))
  have c2:fB (A3 (aq (nF 1 bQ) (ae (iL 4) (ag)))) ρ1=some true:=by
   refine ko ?_
   have e:aq (nF 1 bQ) (ae (iL 4) (ag)) ρ1=some (.bl true):=(cX (ds:=[sD T]) rfl rfl).trans (As hs (by have:=bT.len;omega))
   unfold A3;rw[e];rfl
  have c3:cs (aB nl (iL 4) (ao 1)) ρ1=some false:=dm ((aW (x:=sD T) (y:=sD T) rfl rfl).trans (lC (vE T)))
  have z2:gO (pS (cs (aB nl (ao 2) (ao 0))) (pS (fF (fB (A3 (aq (nF 1 bQ) (ae (iL 4) (ag)))))) (cs (aB nl (iL 4) (ao 1))))) (bo (ax (.bl false))) (skip) ρ1=.nx ρ1:=iB (tT c1 (tT (kH (b:=true) c2) c3))
  have z3:gO (cs (aB nl (EH (aq (nF 2 gl) (ae (iL 4) (ae (cn (ae (bB (ae (fG (ax (.int 3))) (ae (ax (.int 2)) (ag)))) (ae (bB (ae (ax (.int 40)) (ae (fG (ax (.int 1))) (ag)))) (ag)))) (ag))))) (aq (nF 2 ba) (ae (ao 1) (ae (cn (ae (bB (ae (fG (ax (.int 3))) (ae (ax (.int 2)) (ag)))) (ae (bB (ae (ax (.int 40)) (ae (fG (ax (.int 1))) (ag)))) (ag)))) (ag)))))) (bo (ax (.bl false))) (skip) ρ1=.nx ρ1:=
   iB (dm ((aW (Bp ((cX (ds:=[sD T,sD Be]) (aK rfl (aK (cl _) rfl)) rfl).trans tm)) ((cX (ds:=[sD T,sD Be]) (aK rfl (aK (cl _) rfl)) rfl).trans pr)).trans (lC (vE _))))
  have z4:dY (bu 4 1 pG (b9 (ae (bB (ae (ax (.int 99)) (ae (ax (.int 1)) (ag)))) (ag)))) ρ1=.nx [.v (aR n E),.v (sD T),.v (aR n E),.v d,.own (T.map pD++[pD (99,1)])]:=
   (An (b0:=T.map pD) (bs:=T.map pD) (d:=pD (99,1)) rfl (bG (aK (dU rfl (by simp)) rfl)) rfl (by rw[Ir];have:=bT.len;omega)).trans rfl
  exact⟨_,_,rfl,(aX z1).trans ((aX z2).trans ((aX z3).trans z4)),⟨_,_,rfl⟩⟩) [.v (aR n E),.v (sD T),.v (aR n E),.no,.no] ⟨_,_,rfl⟩
 rw[aX q1,aX q2,aX ((cK (ds:=(Iz 2).map nI) (bG (j6 (n:=2) rfl (by omega)))).trans lp)]
 have ln:aq dB (ae (ao 0) (ag)) [.v (aR n E),.v (sD T),.v (aR n E),s3,s4]=some (nI n):=by
  show some (D.int _)=some (D.int _);rw[Ir,LX]
 have lt:cs (aB Ax (aq dB (ae (ao 0) (ag))) (ax (.int 2))) [.v (aR n E),.v (sD T),.v (aR n E),s3,s4]=some (decide (n<2)):=dm ((aW ln (y:=nI 2) rfl).trans (HN n 2))
 by_cases h2:n<2
 ·rw[decide_eq_true h2] at lt
  exact⟨_,by unfold aS;rw[zV lt];rfl⟩
 ·rw[decide_eq_false h2] at lt
  rw[aX (iB lt)];obtain⟨m',rfl⟩: ∃m',n=m'+2:=⟨n-2,by omega⟩
  have ng:bJ 2 (bR (ao 1)) (gT 2 (cx (gN 5) (cx (gN 6) (gb)))) (cB) (bB (ae (ao 5) (ae (aB lc (ax (.int 0)) (ao 6)) (ag)))) [.v (aR (m'+2) E),.v (sD T),.v (aR (m'+2) E),s3,s4]=some (sD (T.map λq=>(q.1,0-q.2))):=
   (cV (ds:=T.map pD) (cO rfl) (by rw[Ir];have:=bT.len;omega) (dL (h:=pD) (o:=λq=>pD (q.1,0-q.2)) T λq hq=>⟨[.v (aR (m'+2) E),.v (sD T),.v (aR (m'+2) E),s3,s4,.v (.int q.1),.v (.int q.2)],rfl,dU (aK rfl (aK ((aW (x:=.int 0) (y:=.int q.2) rfl rfl).trans (mJ _ _)) rfl)) (by simp)⟩)).trans (by show _=some (D.lst ((T.map λq=>(q.1,0-q.2)).map pD));rw[Jl];rfl)
  refine⟨_,dv ((aW ((cX (ds:=[aR (m'+2) (xQ E)]) (aK ((cX (ds:=[aR (m'+2) (xQ E)]) (aK (DH E hn rfl) rfl) rfl).trans (vf _ hn)) rfl) rfl).trans (zr G (by omega))) ng).trans (vF (vE _)))⟩
abbrev Gv:GE:=GX (bu 2 0 cb (b9 (ag)))
abbrev R8(A K W:D)(n:Nat)(a b:Int)(d:D):aA:=[.v A,.v K,.own (a8 a b),.v W,.v (nI n),.no,.v d,.no]
abbrev R7(A K W:D)(n:Nat)(a b:Int):aA:=[.v A,.v K,.own (a8 a b),.v W,.v (nI n),.no,.no]
theorem qI(A K W:D)(n:Nat)(d6:D): ∀(l:List D) (N:Nat) (a b:Int),Bag N a b->N+10*l.length<=600000000->
 ∃(Ts:List aT) (a' b':Int),eF (gN 7) cB Gv l (R8 A K W n a b d6)=some (Ts.map sD,R8 A K W n a' b' d6)/\Ts.length=l.length/\(∀T∈Ts,Bnd 6 9 3 T)/\Bag (N+10*l.length) a' b'
 | [],N,a,b,B,_=>⟨[],a,b,rfl,rfl,(λ_ h=>nomatch h),B⟩
 |d::l,N,a,b,B,hN=>by
  rw[IK] at hN;obtain⟨T,a1,b1,e1,hT,B1⟩:=yY B (by omega)
  obtain⟨Ts,a2,b2,e2,h2,h3,B2⟩:=qI A K W n d6 l (N+10) a1 b1 B1 (by omega)
  refine⟨T::Ts,a2,b2,?_,by rw[IK,IK,h2],λX hX=>(IC.mp hX).elim (λe=>e▸hT) (h3 X),B2.mono (by rw[IK];omega)⟩
  have hc:bu 2 0 cb (b9 (ag)) [.v A,.v K,.own (a8 a b),.v W,.v (nI n),.no,.v d6,.v d]=some (sD T,[.v A,.v K,.own (a8 a1 b1),.v W,.v (nI n),.no,.v d6,.v d]):=eE (i:=2) (n:=0) (b0:=a8 a b) (ds:=[]) rfl (bG rfl) rfl rfl e1
  have hf:Gv [.v A,.v K,.own (a8 a b),.v W,.v (nI n),.no,.v d6,.v d]=some (sD T,[.v A,.v K,.own (a8 a1 b1),.v W,.v (nI n),.no,.v d6,.v d]):=by
   show(bu 2 0 cb (b9 (ag)) _).bind _=_;rw[hc,IB];show(if tD (T.map pD)=true then _ else _)=_
   rw[if_pos (uq T)]
  unfold eF;rw[show gN 7 d (R8 A K W n a b d6)=some [.v A,.v K,.own (a8 a b),.v W,.v (nI n),.no,.v d6,.v d] from rfl,IB];rw[show cB [.v A,.v K,.own (a8 a b),.v W,.v (nI n),.no,.v d6,.v d]=some true from rfl,IB,if_pos rfl,hf,IB];rw[show lh (R8 A K W n a b d6) [.v A,.v K,.own (a8 a1 b1),.v W,.v (nI n),.no,.v d6,.v d]=some (R8 A K W n a1 b1 d6) from rfl,IB,e2];rfl
abbrev Gj:GE:=fJ 1 (b9 (cY (ae (ao 4) (ag)))) (gN 7) cB Gv
theorem rH(A K W:D){n:Nat}(hn:n<=4): ∀(l:List D) (N:Nat) (a b:Int),Bag N a b->N+40*l.length<=600000000->
 ∃(rows:List (List aT)) (a' b':Int),eF (gN 6) cB Gj l (R7 A K W n a b)=some (rows.map sS,R7 A K W n a' b')/\rows.length=l.length/\(∀r∈rows,r.length=n/\ ∀e∈r,Bnd 6 9 3 e)/\Bag (N+40*l.length) a' b'
 | [],N,a,b,B,_=>⟨[],a,b,rfl,rfl,(λ_ h=>nomatch h),B⟩
 |d::l,N,a,b,B,hN=>by
  rw[IK] at hN;have lr:((Iz n).map nI).length=n:=by simp
  obtain⟨Ts,a1,b1,e1,h1,h2,B1⟩:=qI A K W n d ((Iz n).map nI) N a b B (by rw[lr];omega)
  rw[lr] at h1 B1;obtain⟨rows,a2,b2,e2,g2,g3,B2⟩:=rH A K W hn l (N+40) a1 b1 (B1.mono (by omega)) (by omega)
  refine⟨Ts::rows,a2,b2,?_,by rw[IK,IK,g2],λr hr=>(IC.mp hr).elim (λe=>e▸⟨h1,h2⟩) (g3 r),B2.mono (by rw[IK];omega)⟩
  have hf:Gj [.v A,.v K,.own (a8 a b),.v W,.v (nI n),.no,.v d]=some (sS Ts,[.v A,.v K,.own (a8 a1 b1),.v W,.v (nI n),.no,.v d]):=by
   show(b9 (cY (ae (ao 4) (ag))) _).bind _=_;rw[bG (j6 (n:=n) (ρ:=[.v A,.v K,.own (a8 a b),.v W,.v (nI n),.no,.v d]) rfl (by omega)),IB]
   dsimp only;rw[if_pos (by rw[lr];exact nU (by omega))]
   rw[show([.v A,.v K,.own (a8 a b),.v W,.v (nI n),.no,.v d]:aA)++Im 1 .no=R8 A K W n a b d from rfl,e1,IB];rfl
  unfold eF;rw[show gN 6 d (R7 A K W n a b)=some [.v A,.v K,.own (a8 a b),.v W,.v (nI n),.no,.v d] from rfl,IB];rw[show cB [.v A,.v K,.own (a8 a b),.v W,.v (nI n),.no,.v d]=some true from rfl,IB,if_pos rfl,hf,IB];rw[show lh (R7 A K W n a b) [.v A,.v K,.own (a8 a1 b1),.v W,.v (nI n),.no,.v d]=some (R7 A K W n a1 b1) from rfl,IB,e2];rfl
theorem Dg(ns:List Int)(hn:ns.length<=63):CB [fo ns]=some (.bl true):=by
 refine iz (kd:=.s) (n:=6) (t:=yk) ?_
 unfold yk;have d0:aL [.lst []]=some (.lst [pD (0,1)]):=by
  have h:=uX (n:=0) (E:=λ_ _=>[]) ⟨by decide,λi hi=>absurd hi (OL _)⟩
  refine h.trans ?_
  have:bd (mq (λ_ _=>[]) 0)=[(0,1)]:=BO (S:=[(0,1)]) ⟨by decide,by simp⟩
  rw[this];rfl
 refine yf (λρ=> ∃s1 s2 s3 s4 s5,ρ=[.v (fo ns),s1,s2,s3,s4,s5]) (uO (ds:=(Iz 2).map nI) (bG (j6 (n:=2) rfl (by omega))) (lA _ (λd hd ρ hρ=>?_) _ ⟨_,_,_,_,_,rfl⟩)) λρ' hρ'=>⟨ρ',dv ?_⟩
 ·obtain⟨k,hk,rfl⟩:=IE.mp hd
  rw[JB] at hk;obtain⟨s1,s2,s3,s4,s5,rfl⟩:=hρ
  obtain⟨a0,b0,eb,B⟩:=Em ns k (by omega) hn
  obtain⟨w,a1,b1,e1,B1,w0,w1⟩:=iU (m:=4) B (by omega) (by decide) (by decide)
  obtain⟨t,a2,b2,e2,B2,t0,t1⟩:=iU (m:=5) B1 (by omega) (by decide) (by decide)
  obtain⟨n,hn4,rfl⟩: ∃n:Nat,n<=4/\t=n:=⟨t.toNat,by omega,by omega⟩
  have lr:((Iz n).map nI).length=n:=by simp
  obtain⟨rows,a3,b3,e3,g1,g2,B3⟩:=rH (fo ns) (nI k) (.int w) hn4 ((Iz n).map nI) _ a2 b2 B2 (by rw[lr];omega)
  rw[lr] at g1;have q1:fL 2 (aq (nF 2 iV) (ae (ao 0) (ae (ao 1) (ag)))) [.v (fo ns),.v (nI k),s2,s3,s4,s5]=.nx [.v (fo ns),.v (nI k),.own (a8 a0 b0),s3,s4,s5]:=(iR ((cX (ds:=[fo ns,nI k]) rfl rfl).trans eb)).trans rfl
  have q2:sk 3 (bu 2 1 aP (b9 (ae (ax (.int 4)) (ag)))) [.v (fo ns),.v (nI k),.own (a8 a0 b0),s3,s4,s5]=.nx [.v (fo ns),.v (nI k),.own (a8 a1 b1),.v (.int w),s4,s5]:=(vM (eE (i:=2) (n:=1) (b0:=a8 a0 b0) (ds:=[.int 4]) rfl (bG rfl) rfl rfl e1)).trans rfl
  have q3:sk 4 (bu 2 1 aP (b9 (ae (ax (.int 5)) (ag)))) [.v (fo ns),.v (nI k),.own (a8 a1 b1),.v (.int w),s4,s5]=.nx [.v (fo ns),.v (nI k),.own (a8 a2 b2),.v (.int w),.v (nI n),s5]:=(vM (eE (i:=2) (n:=1) (b0:=a8 a1 b1) (ds:=[.int 5]) rfl (bG rfl) rfl rfl e2)).trans rfl
  have cf:fJ 1 (b9 (cY (ae (ao 4) (ag)))) (gN 6) (cB) Gj [.v (fo ns),.v (nI k),.own (a8 a2 b2),.v (.int w),.v (nI n),.no]=some (Ex rows,[.v (fo ns),.v (nI k),.own (a8 a3 b3),.v (.int w),.v (nI n),.no]):=by
   show(b9 (cY (ae (ao 4) (ag))) _).bind _=_;rw[bG (j6 (n:=n) (ρ:=[.v (fo ns),.v (nI k),.own (a8 a2 b2),.v (.int w),.v (nI n),.no]) rfl (by omega)),IB]
   dsimp only;rw[if_pos (by rw[lr];exact nU (by omega))]
   rw[show([.v (fo ns),.v (nI k),.own (a8 a2 b2),.v (.int w),.v (nI n),.no]:aA)++Im 1 .no=R7 (fo ns) (nI k) (.int w) n a2 b2 from rfl,e3,IB];rfl
  have q4:yg 5 (xl 5 (fJ 1 (b9 (cY (ae (ao 4) (ag)))) (gN 6) (cB) Gj)) [.v (fo ns),.v (nI k),.own (a8 a2 b2),.v (.int w),.v (nI n),s5]=.nx [.v (fo ns),.v (nI k),.own (a8 a3 b3),.v (.int w),.v (nI n),.own (rows.map sS)]:=(AS cf).trans rfl
  have c1:cs (aB xF (ao 3) (ax (.int 1))) [.v (fo ns),.v (nI k),.own (a8 a3 b3),.v (.int w),.v (nI n),.own (rows.map sS)]=some (decide (w=1)):=dm ((aW (x:=.int w) (y:=.int 1) rfl rfl).trans (by rw[mU (by rw[eM];omega),gj]))
  have c2:cs (aB EL (ao 4) (ax (.int 1))) [.v (fo ns),.v (nI k),.own (a8 a3 b3),.v (.int w),.v (nI n),.own (rows.map sS)]=some (decide (1<n)):=dm ((aW (x:=nI n) (y:=.int 1) rfl rfl).trans (by rw[Ch];congr 2;rw[decide_eq_decide];omega))
  have c3:=rK c1 c2
  obtain⟨rows',hr',q5⟩: ∃rows':List (List aT),RwO n rows'/\gO (i6 (cs (aB xF (ao 3) (ax (.int 1)))) (cs (aB EL (ao 4) (ax (.int 1))))) (jX (eS 5 (aB lc (ao 4) (ax (.int 1)))) (pu (aB en (iL 5) (ax (.int 0))))) (skip) [.v (fo ns),.v (nI k),.own (a8 a3 b3),.v (.int w),.v (nI n),.own (rows.map sS)]=.nx [.v (fo ns),.v (nI k),.own (a8 a3 b3),.v (.int w),.v (nI n),.own (rows'.map sS)]:=by
   cases hb:(decide (w=1)&&decide (1<n)) with
   |false=>exact⟨rows,⟨hn4,g1,g2⟩,iB (c3.trans (congrArg some hb))⟩
   |true=>
    have h1:1<n:=by rw[Jn,decide_eq_true_eq,decide_eq_true_eq] at hb;exact hb.2
    cases rows with
    |nil=>simp at g1;omega
    |cons r rs=>
     refine⟨(r::rs).set (n-1) r,⟨hn4,by rw[Mj];exact g1,λx hx=>?_⟩,?_⟩
     ·rcases List.mem_or_eq_of_mem_set hx with h|h
      ·exact g2 x h
      ·rw[h];exact g2 r Is
     ·refine(zV (c3.trans (congrArg some hb))).trans ?_
      have sb:aB lc (ao 4) (ax (.int 1)) [.v (fo ns),.v (nI k),.own (a8 a3 b3),.v (.int w),.v (nI n),.own ((r::rs).map sS)]=some (nI (n-1)):=(aW (x:=nI n) (y:=.int 1) rfl rfl).trans ((mJ _ _).trans (by congr 2;omega))
      refine(Di (d:=sS r) (wq ((aW (x:=.lst ((r::rs).map sS)) (y:=.int 0) rfl rfl).trans (vG (xs:=(r::rs).map sS) (j:=0) rfl))) (zS (bs:=(r::rs).map sS) rfl sb (by rw[Ir,g1];omega))).trans ?_
      rw[To];rfl
  have rt:=z8 hr'.sm
  rw[<-hr'.tbl] at rt;have q6:gO (fF (fB (A3 (aq (nF 1 cQ) (ae (iL 5) (ag)))))) (bo (ax (.bl false))) (skip) [.v (fo ns),.v (nI k),.own (a8 a3 b3),.v (.int w),.v (nI n),.own (rows'.map sS)]=.nx [.v (fo ns),.v (nI k),.own (a8 a3 b3),.v (.int w),.v (nI n),.own (rows'.map sS)]:=by
   refine iB (kH (b:=true) (ko ?_))
   have e:aq (nF 1 cQ) (ae (iL 5) (ag)) [.v (fo ns),.v (nI k),.own (a8 a3 b3),.v (.int w),.v (nI n),.own (rows'.map sS)]=some (.bl true):=(cX (ds:=[Ex rows']) rfl rfl).trans rt
   unfold A3;rw[e];rfl
  exact⟨_,_,rfl,(aX q1).trans ((aX q2).trans ((aX q3).trans ((aX q4).trans ((aX q5).trans q6)))),⟨_,_,_,_,_,rfl⟩⟩
 ·refine(aW (x:=.lst [pD (0,1)]) (y:=.lst [pD (0,1)]) ((cX (ds:=[.lst []]) (aK (gE rfl (by simp)) rfl) rfl).trans d0) (gE (aK (dU rfl (by simp)) rfl) (by simp))).trans (vF (vE [(0,1)]))
theorem df_of {K:Il}{h:Heap}{mg:Str->Option Ia}(X:K.In h)(G:h.Ns Js mg){x:Str}{st:Stmt}{ps:List Str}{f:Addr}{oc:Ia}{od an:Option Addr}{osl:Array (Option Ia)}{kV doc pm cdv ct:Ia}(a:Mn K Js x=some (some (.ref f)))
 (l:K.lookup f=some ⟨oc,od,.func (Op x x (fy st) (bV st) (av st) .none kV doc pm an cdv ct),osl⟩) (c:P3 K cdv x=true) (k:Nn K (.ref f)=true)
 (b: ∀(kV doc pm:Ia) (an:Option Addr) (cdv ct:Ia) (us:List Ia),us.length=ps.length->Up (Op x x (fy st) (bV st) (av st) .none kV doc pm an cdv ct) ⟨us,[]⟩=pure (ps.zip us)):Df K mg x st ps:=
 ⟨_,_,tV l c k,W.mg_of X G a,(tV l c k).binds b⟩
set_option maxHeartbeats 4000000
theorem all_mk {L:Su}{w:Jo}{K:Il}{h:Heap}{mg:Str->Option Ia}{fb fa:Addr}{od an:Option Addr}{sl:Array (Option Ia)}{oc kV dc pm cd ct:Ia}(X:K.In h)(G:h.Ns Js mg)(hfa:mg "law"=some (.ref fb))
 (d0:Df K mg "tidy" uh ["tuples"])
 (d1:Df K mg "times" ph ["one","other"])
 (d2:Df K mg "put_product" fO ["into","one","other","sign"])
 (d3:Df K mg "sign_past" iu ["columns","column"])
 (d4:Df K mg "minors_further" dM ["minors","row"])
 (d5:Df K mg "determinant" fI ["table"])
 (d6:Df K mg "_law_cell" jf ["_law_script","_law_k"])
 (d7:Df K mg "_law_bag" kf ["_law_script","_law_at"])
 (d8:Df K mg "_law_take" jg ["_law_bag_here","_law_many"])
 (d9:Df K mg "_law_whole" hJ ["_law_thing"])
 (d10:Df K mg "_law_is_sum" gu ["_law_found"])
 (d11:Df K mg "_law_summed" gm ["_law_tuples"])
 (d12:Df K mg "_law_product" fD ["_law_one","_law_other"])
 (d13:Df K mg "_law_small" gU ["_law_bag_here"])
 (d14:Df K mg "_law_orders" gy ["_law_n"])
 (d15:Df K mg "_law_plain" gY ["_law_rows"])
 (d16:Df K mg "_law_copy" jl ["_law_rows"])
 (d17:Df K mg "_law_right" ij ["_law_rows"])
 (a:Mn K Js "law"=some (some (.ref fa))) (l:K.lookup fa=some ⟨oc,od,.func (Op "law" "law" (fy jz) (bV jz) (av jz) .none kV dc pm an cd ct),sl⟩) (c:P3 K cd "law"=true) (k:Nn K (.ref fa)=true)
 (z_abs:Mn K Js "abs"=some none)
 (z_all:Mn K Js "all"=some none)
 (z_bool:Mn K Js "bool"=some none)
 (z_enumerate:Mn K Js "enumerate"=some none)
 (z_int:Mn K Js "int"=some none)
 (z_isinstance:Mn K Js "isinstance"=some none)
 (z_len:Mn K Js "len"=some none)
 (z_list:Mn K Js "list"=some none)
 (z_min:Mn K Js "min"=some none)
 (z_range:Mn K Js "range"=some none)
 (z_sorted:Mn K Js "sorted"=some none)
 (z_tuple:Mn K Js "tuple"=some none)
 (z_zip:Mn K Js "zip"=some none):
 ∃fd:K6,(∀(s:Ic) (v:Ia),P2 s fd ⟨[v],[]⟩ [("_law_script",v)])/\ ∀base:Heap,K.In base->base.Ns Js mg->FnOk L.prog w K mg base oA 5 fb fd ["_law_script"] (va K):=by
 have e:=hfa.symm.trans (W.mg_of X G a)
 cases e
 have F:=tV (st:=jz) l c k
 have B:Bt mg:=⟨Km X G z_abs,Km X G z_all,Km X G z_bool,Km X G z_enumerate,Km X G z_int,Km X G z_isinstance,Km X G z_len,Km X G z_list,Km X G z_min,Km X G z_range,Km X G z_sorted,Km X G z_tuple,Km X G z_zip⟩
 refine⟨Op "law" "law" (fy jz) (bV jz) (av jz) .none kV dc pm an cd ct,λs v=>.of_eq rfl,λbase _ _=>?_⟩
 have ka:=De (P:=L.prog) (w:=w) (base:=base) B d0
 have oX:=A9 (P:=L.prog) (w:=w) (base:=base) B d1 ka
 have fH:=nK (P:=L.prog) (w:=w) (base:=base) B d2
 have h8:=qg (P:=L.prog) (w:=w) (base:=base) B d3
 have dI:=km (P:=L.prog) (w:=w) (base:=base) B d4 fH h8
 have bM:=nL (P:=L.prog) (w:=w) (base:=base) B d5 ka dI
 have jr:=tI (P:=L.prog) (w:=w) (base:=base) B d6
 have kM:=xy (P:=L.prog) (w:=w) (base:=base) B d7 jr
 have bL:=ur (P:=L.prog) (w:=w) (base:=base) B d8
 have fu:=qw (P:=L.prog) (w:=w) (base:=base) B d9
 have gw:=oZ (P:=L.prog) (w:=w) (base:=base) B d10 fu
 have bx:=oM (P:=L.prog) (w:=w) (base:=base) B d11
 have bX:=nJ (P:=L.prog) (w:=w) (base:=base) B d12 bx
 have iq:=rT (P:=L.prog) (w:=w) (base:=base) B d13 bL bx
 have gr:=pK (P:=L.prog) (w:=w) (base:=base) B d14
 have iF:=sh (P:=L.prog) (w:=w) (base:=base) B d15 gr bx bX
 have gF:=tK (P:=L.prog) (w:=w) (base:=base) B d16
 have hZ:=sJ (P:=L.prog) (w:=w) (base:=base) B d17 iF gF bM oX bX gw
 exact Dj (D5 (P:=L.prog) (w:=w) (base:=base) B F kM bL bM hZ iq) Dg
end L2
theorem PySem.W.Fast.tw18283520082629264625:True:=⟨⟩
theorem PySem.W.Fast.tw12700454492328512329:True:=⟨⟩
theorem PySem.W.Fast.tw5735293237394077964:True:=⟨⟩
theorem PySem.W.Fast.tw1882681998129833708:True:=⟨⟩
theorem PySem.W.Fast.tw12013526184332545544:True:=⟨⟩
theorem PySem.W.Fast.tw5989027315489311134:True:=⟨⟩
theorem PySem.W.Fast.tw7867500714139816625:True:=⟨⟩
theorem PySem.W.Fast.tw7358188276600573266:True:=⟨⟩
theorem PySem.W.Fast.tw17515016839071280023:True:=⟨⟩
theorem PySem.W.Fast.tw4455139521993485668:True:=⟨⟩
theorem PySem.W.Fast.tw4546334065402731772:True:=⟨⟩
theorem PySem.W.Fast.tw12046907652394606167:True:=⟨⟩
theorem PySem.W.Fast.tw12233519655671175989:True:=⟨⟩
theorem PySem.W.Fast.tw9048560692235659842:True:=⟨⟩
theorem PySem.W.Fast.tw75736222042756372:True:=⟨⟩
theorem PySem.W.Fast.tw13958219878685081197:True:=⟨⟩
theorem PySem.W.Fast.tw5376897708617248470:True:=⟨⟩
theorem PySem.W.Fast.tw16437046451610324663:True:=⟨⟩
theorem PySem.W.Fast.tw17386966259732262847:True:=⟨⟩
theorem PySem.W.Fast.tw14196672099372507461:True:=⟨⟩
theorem PySem.W.Fast.tw4996095492463096723:True:=⟨⟩
theorem PySem.W.Fast.tw6525469875713948072:True:=⟨⟩
theorem PySem.W.Fast.tw1736132069417227900:True:=⟨⟩
theorem PySem.W.Fast.tw6881692684748351913:True:=⟨⟩
theorem PySem.W.Fast.tw2677751971392875015:True:=⟨⟩
theorem PySem.W.Fast.tw10373034946297211188:True:=⟨⟩
theorem PySem.W.Fast.tw14037618593972252093:True:=⟨⟩
theorem PySem.W.Fast.tw15870652458312943837:True:=⟨⟩
theorem PySem.W.Fast.tw14849590804306965108:True:=⟨⟩
theorem PySem.W.Fast.tw13916530144010114441:True:=⟨⟩
theorem PySem.W.Fast.tw15366882855009822468:True:=⟨⟩
theorem PySem.W.Fast.tw12155629851833858546:True:=⟨⟩
theorem PySem.W.Fast.tw15090581172343611401:True:=⟨⟩
theorem PySem.W.Fast.tw5903849674041327933:True:=⟨⟩
theorem PySem.W.Fast.tw6657900713416478372:True:=⟨⟩
theorem PySem.W.Fast.tw8341833994333809521:True:=⟨⟩
theorem PySem.W.Fast.tw3185969121992504093:True:=⟨⟩
theorem PySem.W.Fast.tw2248675166430225904:True:=⟨⟩
theorem PySem.W.Fast.tw2128436879732601214:True:=⟨⟩
theorem PySem.W.Fast.tw1174271406218679333:True:=⟨⟩
theorem PySem.W.Fast.tw866756411704776133:True:=⟨⟩
theorem PySem.W.Fast.tw9594541855388540404:True:=⟨⟩
theorem PySem.W.Fast.tw6525621549769299458:True:=⟨⟩
theorem PySem.W.Fast.tw10276754775414054156:True:=⟨⟩
theorem PySem.W.Fast.tw13138229955525193549:True:=⟨⟩
theorem PySem.W.Fast.tw6085038381435794621:True:=⟨⟩
open PySem PySem.W PyProof.Rows
set_option maxRecDepth 100000 in
set_option maxHeartbeats 0 in
theorem PySem.Challenge.cw_rookborders_k62_determinants_holds : PySem.Challenge.rw_rookborders_k62_determinants.Holds := by
 w_on;o_law;k_head;(case hw=>w_witness2)
 k_fill
 refine L2.walkD (l:=NU) (k:=5) (x:="_law_script") rfl rfl ⟨rfl,by decide,by decide⟩ (λw h Y=>W.kIn_of Y) ?F
 case F=>
  intro w mg fa h KX G hmg
  refine' L2.all_mk KX G hmg ?_ ?_ ?_ ?_ ?_ ?_ ?_ ?_ ?_ ?_ ?_ ?_ ?_ ?_ ?_ ?_ ?_ ?_ ?_ ?_ ?_ ?_ ?_ ?_ ?_ ?_ ?_ ?_ ?_ ?_ ?_ ?_ ?_ ?_ ?_
  all_goals first
   |(refine' L2.df_of KX G ?_ ?_ ?_ ?_ λ_ _ _ _ _ _ us hl=>L2.ar1 us hl λ_=>rfl)<;>try k_is
   |(refine' L2.df_of KX G ?_ ?_ ?_ ?_ λ_ _ _ _ _ _ us hl=>L2.ar2 us hl λ_ _=>rfl)<;>try k_is
   |(refine' L2.df_of KX G ?_ ?_ ?_ ?_ λ_ _ _ _ _ _ us hl=>L2.ar4 us hl λ_ _ _ _=>rfl)<;>try k_is
   |try k_is
