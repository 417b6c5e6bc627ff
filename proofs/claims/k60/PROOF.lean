import PyProof.Rows.All
import Wide.All
import OpenK.AllK
import Wide.FinOn
import Lean
import PyProof.EqAt
import PyProof.EqKinds
import PyProof.TupleCall
import PyProof.P3Eq
import PyProof.NeData
import PyProof.FitsBits
import PyProof.ZipIter
import PyProof.TupleIter
import KE.KRevIter
import PyProof.TupleOfGen
import PyProof.ListRange
import KE.KIsAll
import PyProof.ExcArgsOwn
import OpenK.KDescr
import PyProof.StationsW
import PyProof.ExcBaseAll.ValueError
import OpenK.KOwn
import PyProof.RulesAs
import PyProof.RulesDel
import PyProof.Rows.SortWalk
import PyProof.CompUse
import KE.KDictSum
import PyProof.WalkInts
import KE.KSortTup
import PyProof.Rows.TupDisplay
import KE.KIntText
import PyProof.JoinWalk
import PyProof.ExcInit
import PyProof.ExcClass2
import KE.KRevSl
import PySem.Challenge.RW_pebbletoll_k60_whole_webs_refused
set_option Elab.async false
set_option linter.all false
set_option maxRecDepth 100000
namespace Hd
open PySem
def top (i:Nat):Stmt:=PySem.Challenge.pw_pebbletoll_k60_whole_webs_refused.main.body.getD i (.Pass ⟨0,0,0,0⟩)
def inC (s:Stmt) (j:Nat):Stmt:=match s with
 | .ClassDef _ _ _ b _ _ _ _ _ _ _=>b.getD j (.Pass ⟨0,0,0,0⟩)
 | _=>.Pass ⟨0,0,0,0⟩
def kA (s:Stmt):Arguments:=match s with
 | .FunctionDef _ a _ _ _ _ _ _ _ _=>a
 | _=>{ posonlyargs:=[],args:=[],vararg:=none,kwonlyargs:=[],kw_defaults:=[],kwarg:=none,defaults:=[] }
def kB (s:Stmt):List Stmt:=match s with
 | .FunctionDef _ _ b _ _ _ _ _ _ _=>b
 | _=>[]
def kS (s:Stmt):Scope:=match s with
 | .FunctionDef _ _ _ _ _ _ sc _ _ _=>sc
 | _=>{ kind:=.function,names:=[],isGenerator:=false,isCoroutine:=false }
open PySem.W PySem.Calls PyProof.Rows
def en (P:Params) (s:Str) (t:Tok) (v:Value):DictEntry:=.mk (PyData.keyHash P s) (.str s t) v
def cO (a b:Str) (t1 t2 t3:Tok) (i1 i2 i3 i4 i5:Int) (r1:Value) (b1:Bool) (i6:Int) (r2 v1 v2 v3 r3:Value) (i7 i8:Int) (t4:Tok):Obj:=.mk (.type "code") none (.fields #[.str a t1,.str b t2,.str "/claim/cut.py" t3,.int i1 0,.int i2 0,.int i3 0,.int i4 0,.int i5 0,r1,.bool b1,.int i6 0,r2,v1,v2,v3,r3,.int i7 0,.int i8 0,.str "/claim/cut.py" t4]) #[]
def fR (a b:Str) (s:Stmt):Obj:=.mk .none none (.func (.mk a b (kA s) (.stmts (kB s)) (kS s) 0 [] .none .none .none .none none .none .none 0)) #[]
def fO (a b:Str) (s:Stmt) (pm cd:Value):Obj:=.mk (.type "function") none (.func (PySem.W.fnOf a b (kA s) (kB s) (kS s) .none .none .none pm none cd .none)) #[]
def tO (xs:Array Value):Obj:=.mk (.type "tuple") none (.seq xs 0) #[]
def x0:Obj:=(tO #[])
def x1:Obj:=(.mk .none none (.fields #[]) #[])
def x2:Obj:=(cO "<module>" "<module>" 182 183 184 1 0 0 0 0 (.ref 11) false 181 (.ref 12) .none .none .none .none 185 1 186)
def x3:Obj:=(.mk (.type "frame") none .plain #[(some (.ref 13)),(some (.ref 3)),(some (.ref 3)),none,(some (.str "__main__" 164)),none,(some (.ref 0))])
noncomputable def ha (P:Params):Heap:=.mk (.mk (boot_o_0 P::boot_o_1 P::boot_o_2 P::boot_o_3 P::boot_o_4 P::boot_o_5 P::boot_o_6 P::boot_o_7 P::boot_o_8 P::boot_o_9 P::boot_o_10 P::x0::x1::x2::x3::[])) (.mk [] [] [] 0 [] [] false #[] [] 0 false false false 0 [2000,10,10] false 0 true [] [] 0 false)
noncomputable def hb (P:Params):Heap:=.mk (.mk (boot_o_0 P::boot_o_1 P::boot_o_2 P::boot_o_3 P::boot_o_4 P::boot_o_5 P::boot_o_6 P::boot_o_7 P::boot_o_8 P::boot_o_9 P::boot_o_10 P::x0::x1::x2::x3::[])) (.mk [] [] [] 0 [] [] false #[] [] 0 false false false 0 [2000,10,10] false 0 true [] [] 0 false)
abbrev st0:List Stmt:=[top 0,top 1,top 2,top 3,top 4,top 5,top 6,top 7,top 8,top 9,top 10,top 11,top 12,top 13,top 14,top 15,top 16,top 17,top 18,top 19,top 20,top 21,top 22,top 23,top 24,top 25,top 26,top 27]
abbrev st1:List Stmt:=[top 28,top 29,top 30,top 31,top 32,top 33,top 34,top 35,top 36,top 37,top 38,top 39,top 40,top 41,top 42,top 43]
abbrev bb:List Stmt:=st0++(st1++([]))
def env:Env:={ scope:=PySem.Challenge.pw_pebbletoll_k60_whole_webs_refused.main.scope,locals:=mainNs,globals:=mainNs,cells:=[],code:=(.ref 13),frame:=some 14 }
abbrev cE:Code:=.body bb env
theorem Ks (w:World) (os:OsState):topGo treeTable PySem.Challenge.pw_pebbletoll_k60_whole_webs_refused w 11 (some (.ref 6)) 12 (Shared.mk (boot_heap w.params) (.mk []) boot_drawn boot_toks os) (topStub PySem.Challenge.pw_pebbletoll_k60_whole_webs_refused)=some ((Shared.mk (ha w.params) (.mk []) (.mk 0 0 0 0) 187 os),Thread.mk (denote treeTable cE) cE (.mk 0 0 0 0) [topFrame (.mk 0 0 0 0)]):=by kernel_rfl
theorem Ko (w:World) (os:OsState):segRun treeTable PySem.Challenge.pw_pebbletoll_k60_whole_webs_refused w 11 (some (.ref 6)) 1 1 (Shared.mk (ha w.params) (.mk []) (.mk 0 0 0 0) 187 os) (blockOf bb env cE (.mk 0 0 0 0) [topFrame (.mk 0 0 0 0)])=some (.next,(Shared.mk (hb w.params) (.mk []) (.mk 0 0 0 0) 187 os),cE,(.mk 0 0 0 0)):=by kernel_rfl
def x4 (P:Params):Obj:=(.mk (.type "dict") none (.dict #[(en P "__name__" 165 (.str "pebbletoll.texts" 395)),(en P "__doc__" 166 .none),(en P "__package__" 167 .none),(en P "__loader__" 168 (.builtin "__main__.__loader__#opaque")),(en P "__spec__" 169 .none),(en P "__annotations__" 170 (.ref 6)),(en P "__builtins__" 171 (.ref 4)),(en P "__file__" 173 (.str "/claim/cut.py" 172)),(en P "__cached__" 174 .none),(en P "TollError" 206 (.ref 24)),(en P "BadWeb" 222 (.ref 37)),(en P "NoPlace" 238 (.ref 49)),(en P "BadLaying" 254 (.ref 61)),(en P "BadStep" 279 (.ref 80)),(en P "BadText" 304 (.ref 99)),(en P "MOST_PLACES" 308 (.int 24 307)),(en P "LEAST_TOLL" 310 (.int 2 309)),(en P "MOST_TOLL" 312 (.int 1000000 311)),(en P "Web" 340 (.ref 116)),(en P "is_place" 348 (.ref 127)),(en P "check_counts" 356 (.ref 134)),(en P "check_ends" 364 (.ref 141)),(en P "check_tolls" 372 (.ref 148)),(en P "check_joined" 384 (.ref 155)),(en P "other_ends" 394 (.ref 162)),(en P "FIGURES" 398 (.str "0123456789" 397)),(en P "MOST_FIGURES" 400 (.int 60 399)),(en P "read_numbers" 406 (.ref 167)),(en P "read_steps" 412 (.ref 172)),(en P "read_web" 418 (.ref 177)),(en P "read_row" 429 (.ref 184)),(en P "read_words" 435 (.ref 189)),(en P "read_number" 443 (.ref 196)),(en P "is_number" 449 (.ref 201))] 34) #[])
def x5:Obj:=(.mk .none none (.fields #[(.int 2 0),(.int 0 0),(.ref 20),(.int 4 0),(.int 0 0),(.ref 33),(.int 6 0),(.int 0 0),(.ref 45),(.int 8 0),(.int 0 0),(.ref 57),(.int 10 0),(.int 0 0),(.ref 69),(.int 15 0),(.int 0 0),(.ref 88),(.int 24 0),(.int 0 0),(.ref 107),(.int 35 0),(.int 0 0),(.ref 126),(.int 37 0),(.int 0 0),(.ref 133),(.int 42 0),(.int 0 0),(.ref 140),(.int 47 0),(.int 0 0),(.ref 147),(.int 51 0),(.int 0 0),(.ref 154),(.int 62 0),(.int 0 0),(.ref 161),(.int 73 0),(.int 0 0),(.ref 166),(.int 80 0),(.int 0 0),(.ref 171),(.int 87 0),(.int 0 0),(.ref 176),(.int 94 0),(.int 0 0),(.ref 183),(.int 101 0),(.int 0 0),(.ref 188),(.int 105 0),(.int 0 0),(.ref 195),(.int 109 0),(.int 0 0),(.ref 200)]) #[])
def x6:Obj:=(tO #[(.type "ValueError")])
def x7:Obj:=(.mk (.type "builtin_function_or_method") none (.fields #[(.builtin "type.__prepare__"),(.type "type")]) #[])
def x8 (P:Params):Obj:=(.mk (.type "dict") none (.dict #[(en P "__module__" 196 (.str "pebbletoll.errors" 187)),(en P "__qualname__" 198 (.str "TollError" 197)),(en P "__firstlineno__" 200 (.int 2 199)),(en P "__static_attributes__" 201 (.ref 22))] 4) #[])
def x9:Obj:=(cO "TollError" "TollError" 191 192 193 2 0 0 0 0 (.ref 18) false 181 (.ref 19) .none .none .none .none 194 2 195)
def x10:Obj:=(.mk (.type "frame") none .plain #[(some (.ref 20)),(some (.ref 3)),(some (.ref 17)),none,(some (.str "pebbletoll.errors" 187)),none,(some (.ref 0))])
def x11 (P:Params):Obj:=(.mk (.type "dict") none (.dict #[(en P "__module__" 196 (.str "pebbletoll.errors" 187)),(en P "__firstlineno__" 200 (.int 2 199)),(en P "__static_attributes__" 201 (.ref 22)),(en P "__weakref__" 203 (.ref 25)),(en P "__doc__" 204 .none)] 3) #[])
def x12:Obj:=(.mk (.type "type") none (.cls (.mk "TollError" [(.type "ValueError")] [(.ref 24),(.type "ValueError"),(.type "Exception"),(.type "BaseException"),(.type "object")] 23 "TollError" true [] [(.ref 37),(.ref 49),(.ref 61),(.ref 80),(.ref 99)] false none false)) #[(some (.ref 15)),none,(some (.str "TollError" 189)),(some (.str "TollError" 197)),(some (.builtin "ValueError.__new__")),(some (.bool true))])
def x13:Obj:=(.mk (.type "getset_descriptor") none (.fields #[(.str "__weakref__" 202),(.ref 24),(.builtin "ExceptionGroup.__weakref__"),.none]) #[])
def x14:Obj:=(.mk (.type "super") none (.fields #[(.ref 24),(.ref 24),(.ref 24)]) #[])
def x15:Obj:=(.mk (.type "builtin_function_or_method") none (.fields #[(.builtin "object.__init_subclass__"),(.ref 24)]) #[])
def x16:Obj:=(tO #[(.ref 24)])
def x17 (P:Params):Obj:=(.mk (.type "dict") none (.dict #[(en P "__module__" 214 (.str "pebbletoll.errors" 187)),(en P "__qualname__" 216 (.str "BadWeb" 215)),(en P "__firstlineno__" 218 (.int 4 217)),(en P "__static_attributes__" 219 (.ref 35))] 4) #[])
def x18:Obj:=(cO "BadWeb" "BadWeb" 209 210 211 4 0 0 0 0 (.ref 31) false 181 (.ref 32) .none .none .none .none 212 4 213)
def x19:Obj:=(.mk (.type "frame") none .plain #[(some (.ref 33)),(some (.ref 3)),(some (.ref 30)),none,(some (.str "pebbletoll.errors" 187)),none,(some (.ref 0))])
def x20 (P:Params):Obj:=(.mk (.type "dict") none (.dict #[(en P "__module__" 214 (.str "pebbletoll.errors" 187)),(en P "__firstlineno__" 218 (.int 4 217)),(en P "__static_attributes__" 219 (.ref 35)),(en P "__doc__" 220 .none)] 2) #[])
def x21:Obj:=(.mk (.type "type") none (.cls (.mk "BadWeb" [(.ref 24)] [(.ref 37),(.ref 24),(.type "ValueError"),(.type "Exception"),(.type "BaseException"),(.type "object")] 36 "BadWeb" true [] [] false none false)) #[(some (.ref 28)),none,(some (.str "BadWeb" 207)),(some (.str "BadWeb" 215)),(some (.builtin "ValueError.__new__")),(some (.bool true))])
def x22:Obj:=(.mk (.type "super") none (.fields #[(.ref 37),(.ref 37),(.ref 37)]) #[])
def x23:Obj:=(.mk (.type "builtin_function_or_method") none (.fields #[(.builtin "object.__init_subclass__"),(.ref 37)]) #[])
def x24 (P:Params):Obj:=(.mk (.type "dict") none (.dict #[(en P "__module__" 230 (.str "pebbletoll.errors" 187)),(en P "__qualname__" 232 (.str "NoPlace" 231)),(en P "__firstlineno__" 234 (.int 6 233)),(en P "__static_attributes__" 235 (.ref 47))] 4) #[])
def x25:Obj:=(cO "NoPlace" "NoPlace" 225 226 227 6 0 0 0 0 (.ref 43) false 181 (.ref 44) .none .none .none .none 228 6 229)
def x26:Obj:=(.mk (.type "frame") none .plain #[(some (.ref 45)),(some (.ref 3)),(some (.ref 42)),none,(some (.str "pebbletoll.errors" 187)),none,(some (.ref 0))])
def x27 (P:Params):Obj:=(.mk (.type "dict") none (.dict #[(en P "__module__" 230 (.str "pebbletoll.errors" 187)),(en P "__firstlineno__" 234 (.int 6 233)),(en P "__static_attributes__" 235 (.ref 47)),(en P "__doc__" 236 .none)] 2) #[])
def x28:Obj:=(.mk (.type "type") none (.cls (.mk "NoPlace" [(.ref 24)] [(.ref 49),(.ref 24),(.type "ValueError"),(.type "Exception"),(.type "BaseException"),(.type "object")] 48 "NoPlace" true [] [] false none false)) #[(some (.ref 40)),none,(some (.str "NoPlace" 223)),(some (.str "NoPlace" 231)),(some (.builtin "ValueError.__new__")),(some (.bool true))])
def x29:Obj:=(.mk (.type "super") none (.fields #[(.ref 49),(.ref 49),(.ref 49)]) #[])
def x30:Obj:=(.mk (.type "builtin_function_or_method") none (.fields #[(.builtin "object.__init_subclass__"),(.ref 49)]) #[])
def x31 (P:Params):Obj:=(.mk (.type "dict") none (.dict #[(en P "__module__" 246 (.str "pebbletoll.errors" 187)),(en P "__qualname__" 248 (.str "BadLaying" 247)),(en P "__firstlineno__" 250 (.int 8 249)),(en P "__static_attributes__" 251 (.ref 59))] 4) #[])
def x32:Obj:=(cO "BadLaying" "BadLaying" 241 242 243 8 0 0 0 0 (.ref 55) false 181 (.ref 56) .none .none .none .none 244 8 245)
def x33:Obj:=(.mk (.type "frame") none .plain #[(some (.ref 57)),(some (.ref 3)),(some (.ref 54)),none,(some (.str "pebbletoll.errors" 187)),none,(some (.ref 0))])
def x34 (P:Params):Obj:=(.mk (.type "dict") none (.dict #[(en P "__module__" 246 (.str "pebbletoll.errors" 187)),(en P "__firstlineno__" 250 (.int 8 249)),(en P "__static_attributes__" 251 (.ref 59)),(en P "__doc__" 252 .none)] 2) #[])
def x35:Obj:=(.mk (.type "type") none (.cls (.mk "BadLaying" [(.ref 24)] [(.ref 61),(.ref 24),(.type "ValueError"),(.type "Exception"),(.type "BaseException"),(.type "object")] 60 "BadLaying" true [] [] false none false)) #[(some (.ref 52)),none,(some (.str "BadLaying" 239)),(some (.str "BadLaying" 247)),(some (.builtin "ValueError.__new__")),(some (.bool true))])
def x36:Obj:=(.mk (.type "super") none (.fields #[(.ref 61),(.ref 61),(.ref 61)]) #[])
def x37:Obj:=(.mk (.type "builtin_function_or_method") none (.fields #[(.builtin "object.__init_subclass__"),(.ref 61)]) #[])
def x38 (P:Params):Obj:=(.mk (.type "dict") none (.dict #[(en P "__module__" 262 (.str "pebbletoll.errors" 187)),(en P "__qualname__" 264 (.str "BadStep" 263)),(en P "__firstlineno__" 266 (.int 10 265)),(en P "__init__" 274 (.ref 77)),(en P "__static_attributes__" 276 (.ref 78))] 5) #[])
def x39:Obj:=(.mk .none none (.fields #[(.int 12 0),(.int 4 0),(.ref 76)]) #[])
def x40:Obj:=(cO "BadStep" "BadStep" 257 258 259 10 0 0 0 0 (.ref 67) false 181 (.ref 68) .none .none .none .none 260 10 261)
def x41:Obj:=(.mk (.type "frame") none .plain #[(some (.ref 69)),(some (.ref 3)),(some (.ref 66)),none,(some (.str "pebbletoll.errors" 187)),none,(some (.ref 0))])
def x42:Obj:=(tO #[(.str "self" 270),(.str "at" 271)])
def x43:Obj:=(fR "__init__" "BadStep.__init__" (inC (top 5) 0))
def x44:Obj:=(cO "__init__" "BadStep.__init__" 267 268 269 12 2 0 0 3 (.ref 71) true 181 (.ref 72) .none (.ref 73) (.ref 74) (.ref 75) 272 12 273)
def x45:Obj:=(fO "__init__" "BadStep.__init__" (inC (top 5) 0) (.str "pebbletoll.errors" 187) (.ref 76))
def x46:Obj:=(tO #[(.str "at" 275)])
def x47 (P:Params):Obj:=(.mk (.type "dict") none (.dict #[(en P "__module__" 262 (.str "pebbletoll.errors" 187)),(en P "__firstlineno__" 266 (.int 10 265)),(en P "__init__" 274 (.ref 77)),(en P "__static_attributes__" 276 (.ref 78)),(en P "__doc__" 277 .none)] 2) #[])
def x48:Obj:=(.mk (.type "type") none (.cls (.mk "BadStep" [(.ref 24)] [(.ref 80),(.ref 24),(.type "ValueError"),(.type "Exception"),(.type "BaseException"),(.type "object")] 79 "BadStep" true [] [] false none false)) #[(some (.ref 64)),none,(some (.str "BadStep" 255)),(some (.str "BadStep" 263)),(some (.builtin "ValueError.__new__")),(some (.bool true))])
def x49:Obj:=(.mk (.type "super") none (.fields #[(.ref 80),(.ref 80),(.ref 80)]) #[])
def x50:Obj:=(.mk (.type "builtin_function_or_method") none (.fields #[(.builtin "object.__init_subclass__"),(.ref 80)]) #[])
def x51 (P:Params):Obj:=(.mk (.type "dict") none (.dict #[(en P "__module__" 287 (.str "pebbletoll.errors" 187)),(en P "__qualname__" 289 (.str "BadText" 288)),(en P "__firstlineno__" 291 (.int 15 290)),(en P "__init__" 299 (.ref 96)),(en P "__static_attributes__" 301 (.ref 97))] 5) #[])
def x52:Obj:=(.mk .none none (.fields #[(.int 17 0),(.int 4 0),(.ref 95)]) #[])
def x53:Obj:=(cO "BadText" "BadText" 282 283 284 15 0 0 0 0 (.ref 86) false 181 (.ref 87) .none .none .none .none 285 15 286)
def x54:Obj:=(.mk (.type "frame") none .plain #[(some (.ref 88)),(some (.ref 3)),(some (.ref 85)),none,(some (.str "pebbletoll.errors" 187)),none,(some (.ref 0))])
def x55:Obj:=(tO #[(.str "self" 295),(.str "at" 296)])
def x56:Obj:=(fR "__init__" "BadText.__init__" (inC (top 6) 0))
def x57:Obj:=(cO "__init__" "BadText.__init__" 292 293 294 17 2 0 0 3 (.ref 90) true 181 (.ref 91) .none (.ref 92) (.ref 93) (.ref 94) 297 17 298)
def x58:Obj:=(fO "__init__" "BadText.__init__" (inC (top 6) 0) (.str "pebbletoll.errors" 187) (.ref 95))
def x59:Obj:=(tO #[(.str "at" 300)])
def x60 (P:Params):Obj:=(.mk (.type "dict") none (.dict #[(en P "__module__" 287 (.str "pebbletoll.errors" 187)),(en P "__firstlineno__" 291 (.int 15 290)),(en P "__init__" 299 (.ref 96)),(en P "__static_attributes__" 301 (.ref 97)),(en P "__doc__" 302 .none)] 2) #[])
def x61:Obj:=(.mk (.type "type") none (.cls (.mk "BadText" [(.ref 24)] [(.ref 99),(.ref 24),(.type "ValueError"),(.type "Exception"),(.type "BaseException"),(.type "object")] 98 "BadText" true [] [] false none false)) #[(some (.ref 83)),none,(some (.str "BadText" 280)),(some (.str "BadText" 288)),(some (.builtin "ValueError.__new__")),(some (.bool true))])
def x62:Obj:=(.mk (.type "super") none (.fields #[(.ref 99),(.ref 99),(.ref 99)]) #[])
def x63:Obj:=(.mk (.type "builtin_function_or_method") none (.fields #[(.builtin "object.__init_subclass__"),(.ref 99)]) #[])
def x64 (P:Params):Obj:=(.mk (.type "dict") none (.dict #[(en P "__module__" 320 (.str "pebbletoll.webs" 305)),(en P "__qualname__" 322 (.str "Web" 321)),(en P "__firstlineno__" 324 (.int 24 323)),(en P "__init__" 330 (.ref 113)),(en P "__static_attributes__" 333 (.ref 114))] 5) #[])
def x65:Obj:=(.mk .none none (.fields #[(.int 26 0),(.int 4 0),(.ref 112)]) #[])
def x66:Obj:=(cO "Web" "Web" 315 316 317 24 0 0 0 0 (.ref 105) false 181 (.ref 106) .none .none .none .none 318 24 319)
def x67:Obj:=(.mk (.type "frame") none .plain #[(some (.ref 107)),(some (.ref 3)),(some (.ref 104)),none,(some (.str "pebbletoll.webs" 305)),none,(some (.ref 0))])
def x68:Obj:=(fR "__init__" "Web.__init__" (inC (top 11) 0))
def x69:Obj:=(cO "__init__" "Web.__init__" 325 326 327 26 3 0 0 3 (.ref 109) true 181 (.ref 110) .none .none .none (.ref 111) 328 26 329)
def x70:Obj:=(fO "__init__" "Web.__init__" (inC (top 11) 0) (.str "pebbletoll.webs" 305) (.ref 112))
def x71:Obj:=(tO #[(.str "many" 331),(.str "roads" 332)])
def x72 (P:Params):Obj:=(.mk (.type "dict") none (.dict #[(en P "__module__" 320 (.str "pebbletoll.webs" 305)),(en P "__firstlineno__" 324 (.int 24 323)),(en P "__init__" 330 (.ref 113)),(en P "__static_attributes__" 333 (.ref 114)),(en P "__dict__" 335 (.ref 117)),(en P "__weakref__" 337 (.ref 118)),(en P "__doc__" 338 .none)] 4) #[])
def x73:Obj:=(.mk (.type "type") none (.cls (.mk "Web" [(.type "object")] [(.ref 116),(.type "object")] 115 "Web" true [] [] false none false)) #[none,none,(some (.str "Web" 313)),(some (.str "Web" 321)),(some (.builtin "object.__new__")),(some (.bool true))])
def x74:Obj:=(.mk (.type "getset_descriptor") none (.fields #[(.str "__dict__" 334),(.ref 116),(.builtin "function.__dict__"),(.builtin "function.__dict__#set")]) #[])
def x75:Obj:=(.mk (.type "getset_descriptor") none (.fields #[(.str "__weakref__" 336),(.ref 116),(.builtin "ExceptionGroup.__weakref__"),.none]) #[])
def x76:Obj:=(.mk (.type "super") none (.fields #[(.ref 116),(.ref 116),(.ref 116)]) #[])
def x77:Obj:=(.mk (.type "builtin_function_or_method") none (.fields #[(.builtin "object.__init_subclass__"),(.ref 116)]) #[])
def x78:Obj:=(tO #[(.str "many" 344),(.str "number" 345)])
def x79:Obj:=(fR "is_place" "is_place" (top 12))
def x80:Obj:=(cO "is_place" "is_place" 341 342 343 35 2 0 0 3 (.ref 121) true 181 (.ref 122) .none (.ref 123) (.ref 124) (.ref 125) 346 35 347)
def x81:Obj:=(fO "is_place" "is_place" (top 12) (.str "pebbletoll.webs" 305) (.ref 126))
def x82:Obj:=(tO #[(.str "many" 352),(.str "roads" 353)])
def x83:Obj:=(fR "check_counts" "check_counts" (top 13))
def x84:Obj:=(cO "check_counts" "check_counts" 349 350 351 37 2 0 0 3 (.ref 128) true 181 (.ref 129) .none (.ref 130) (.ref 131) (.ref 132) 354 37 355)
def x85:Obj:=(fO "check_counts" "check_counts" (top 13) (.str "pebbletoll.webs" 305) (.ref 133))
def x86:Obj:=(tO #[(.str "many" 360),(.str "road" 361)])
def x87:Obj:=(fR "check_ends" "check_ends" (top 14))
def x88:Obj:=(cO "check_ends" "check_ends" 357 358 359 42 2 0 0 3 (.ref 135) true 181 (.ref 136) .none (.ref 137) (.ref 138) (.ref 139) 362 42 363)
def x89:Obj:=(fO "check_ends" "check_ends" (top 14) (.str "pebbletoll.webs" 305) (.ref 140))
def x90:Obj:=(tO #[(.str "road" 368),(.str "number" 369)])
def x91:Obj:=(fR "check_tolls" "check_tolls" (top 15))
def x92:Obj:=(cO "check_tolls" "check_tolls" 365 366 367 47 1 0 0 3 (.ref 142) true 181 (.ref 143) .none (.ref 144) (.ref 145) (.ref 146) 370 47 371)
def x93:Obj:=(fO "check_tolls" "check_tolls" (top 15) (.str "pebbletoll.webs" 305) (.ref 147))
def x94:Obj:=(tO #[(.str "many" 376),(.str "roads" 377),(.str "reached" 378),(.str "waiting" 379),(.str "place" 380),(.str "end" 381)])
def x95:Obj:=(fR "check_joined" "check_joined" (top 16))
def x96:Obj:=(cO "check_joined" "check_joined" 373 374 375 51 2 0 0 3 (.ref 149) true 181 (.ref 150) .none (.ref 151) (.ref 152) (.ref 153) 382 51 383)
def x97:Obj:=(fO "check_joined" "check_joined" (top 16) (.str "pebbletoll.webs" 305) (.ref 154))
def x98:Obj:=(tO #[(.str "roads" 388),(.str "place" 389),(.str "ends" 390),(.str "road" 391)])
def x99:Obj:=(fR "other_ends" "other_ends" (top 17))
def DA:Obj:=(cO "other_ends" "other_ends" 385 386 387 62 2 0 0 3 (.ref 156) true 181 (.ref 157) .none (.ref 158) (.ref 159) (.ref 160) 392 62 393)
def Dn:Obj:=(fO "other_ends" "other_ends" (top 17) (.str "pebbletoll.webs" 305) (.ref 161))
def FC:Obj:=(fR "read_numbers" "read_numbers" (top 21))
def CW:Obj:=(cO "read_numbers" "read_numbers" 401 402 403 73 1 0 0 3 (.ref 163) true 181 (.ref 164) .none .none .none (.ref 165) 404 73 405)
def D8:Obj:=(fO "read_numbers" "read_numbers" (top 21) (.str "pebbletoll.texts" 395) (.ref 166))
def GD:Obj:=(fR "read_steps" "read_steps" (top 22))
def Dk:Obj:=(cO "read_steps" "read_steps" 407 408 409 80 1 0 0 3 (.ref 168) true 181 (.ref 169) .none .none .none (.ref 170) 410 80 411)
def DR:Obj:=(fO "read_steps" "read_steps" (top 22) (.str "pebbletoll.texts" 395) (.ref 171))
def Fw:Obj:=(fR "read_web" "read_web" (top 23))
def C0:Obj:=(cO "read_web" "read_web" 413 414 415 87 1 0 0 3 (.ref 173) true 181 (.ref 174) .none .none .none (.ref 175) 416 87 417)
def C7:Obj:=(fO "read_web" "read_web" (top 23) (.str "pebbletoll.texts" 395) (.ref 176))
def C3:Obj:=(tO #[(.str "rows" 422),(.str "at" 423),(.str "head" 424),(.str "many" 425),(.str "words" 426)])
def F4:Obj:=(fR "read_row" "read_row" (top 24))
def CZ:Obj:=(cO "read_row" "read_row" 419 420 421 94 4 0 0 3 (.ref 178) true 181 (.ref 179) .none (.ref 180) (.ref 181) (.ref 182) 427 94 428)
def DN:Obj:=(fO "read_row" "read_row" (top 24) (.str "pebbletoll.texts" 395) (.ref 183))
def Hh:Obj:=(fR "read_words" "read_words" (top 25))
def D0:Obj:=(cO "read_words" "read_words" 430 431 432 101 3 0 0 3 (.ref 185) true 181 (.ref 186) .none .none .none (.ref 187) 433 101 434)
def D1:Obj:=(fO "read_words" "read_words" (top 25) (.str "pebbletoll.texts" 395) (.ref 188))
def C4:Obj:=(tO #[(.str "word" 439),(.str "at" 440)])
def FQ:Obj:=(fR "read_number" "read_number" (top 26))
def DT:Obj:=(cO "read_number" "read_number" 436 437 438 105 2 0 0 3 (.ref 190) true 181 (.ref 191) .none (.ref 192) (.ref 193) (.ref 194) 441 105 442)
def C6:Obj:=(fO "read_number" "read_number" (top 26) (.str "pebbletoll.texts" 395) (.ref 195))
def Gu:Obj:=(fR "is_number" "is_number" (top 27))
def DV:Obj:=(cO "is_number" "is_number" 444 445 446 109 1 0 0 3 (.ref 197) true 181 (.ref 198) .none .none .none (.ref 199) 447 109 448)
def CS:Obj:=(fO "is_number" "is_number" (top 27) (.str "pebbletoll.texts" 395) (.ref 200))
noncomputable def h0 (P:Params):Heap:=.mk (.mk (boot_o_0 P::boot_o_1 P::boot_o_2 P::x4 P::boot_o_4 P::boot_o_5 P::boot_o_6 P::boot_o_7 P::boot_o_8 P::boot_o_9 P::boot_o_10 P::x0::x5::x2::x3::x6::x7::x8 P::x0::x1::x9::x10::x0::x11 P::x12::x13::x14::x15::x16::x7::x17 P::x0::x1::x18::x19::x0::x20 P::x21::x22::x23::x16::x7::x24 P::x0::x1::x25::x26::x0::x27 P::x28::x29::x30::x16::x7::x31 P::x0::x1::x32::x33::x0::x34 P::x35::x36::x37::x16::x7::x38 P::x0::x39::x40::x41::x0::x1::x42::x0::x43::x44::x45::x46::x47 P::x48::x49::x50::x16::x7::x51 P::x0::x52::x53::x54::x0::x1::x55::x0::x56::x57::x58::x59::x60 P::x61::x62::x63::x0::x7::x64 P::x0::x65::x66::x67::x0::x1::x68::x69::x70::x71::x72 P::x73::x74::x75::x76::x77::x0::x1::x78::x0::x79::x80::x81::x0::x1::x82::x0::x83::x84::x85::x0::x1::x86::x0::x87::x88::x89::x0::x1::x90::x0::x91::x92::x93::x0::x1::x94::x0::x95::x96::x97::x0::x1::x98::x0::x99::DA::Dn::x0::x1::FC::CW::D8::x0::x1::GD::Dk::DR::x0::x1::Fw::C0::C7::x0::x1::C3::x0::F4::CZ::DN::x0::x1::Hh::D0::D1::x0::x1::C4::x0::FQ::DT::C6::x0::x1::Gu::DV::CS::[])) (.mk [] [] [] 0 [] [] false #[] [] 0 false false false 0 [2000,10,10] false 0 true [] [] 0 false)
theorem Ky (w:World) (os:OsState):segRun treeTable PySem.Challenge.pw_pebbletoll_k60_whole_webs_refused w 11 (some (.ref 6)) 1 1986 (Shared.mk (hb w.params) (.mk []) (.mk 0 0 0 0) 187 os) (piecesOf st0 env cE (.mk 0 0 0 0) [topFrame (.mk 0 0 0 0)])=some (.next,(Shared.mk (h0 w.params) (.mk []) (.mk 0 0 0 0) 450 os),cE,(.mk 109 0 112 40)):=by kernel_rfl
def FZ (P:Params):Obj:=(.mk (.type "dict") none (.dict #[(en P "__name__" 165 (.str "law_pebbletoll_k60_whole_webs_refused" 458)),(en P "__doc__" 166 .none),(en P "__package__" 167 .none),(en P "__loader__" 168 (.builtin "__main__.__loader__#opaque")),(en P "__spec__" 169 .none),(en P "__annotations__" 170 (.ref 6)),(en P "__builtins__" 171 (.ref 4)),(en P "__file__" 173 (.str "/claim/cut.py" 172)),(en P "__cached__" 174 .none),(en P "TollError" 206 (.ref 24)),(en P "BadWeb" 222 (.ref 37)),(en P "NoPlace" 238 (.ref 49)),(en P "BadLaying" 254 (.ref 61)),(en P "BadStep" 279 (.ref 80)),(en P "BadText" 304 (.ref 99)),(en P "MOST_PLACES" 308 (.int 24 307)),(en P "LEAST_TOLL" 310 (.int 2 309)),(en P "MOST_TOLL" 312 (.int 1000000 311)),(en P "Web" 340 (.ref 116)),(en P "is_place" 348 (.ref 127)),(en P "check_counts" 356 (.ref 134)),(en P "check_ends" 364 (.ref 141)),(en P "check_tolls" 372 (.ref 148)),(en P "check_joined" 384 (.ref 155)),(en P "other_ends" 394 (.ref 162)),(en P "FIGURES" 398 (.str "0123456789" 397)),(en P "MOST_FIGURES" 400 (.int 60 399)),(en P "read_numbers" 406 (.ref 167)),(en P "read_steps" 412 (.ref 172)),(en P "read_web" 418 (.ref 177)),(en P "read_row" 429 (.ref 184)),(en P "read_words" 435 (.ref 189)),(en P "read_number" 443 (.ref 196)),(en P "is_number" 449 (.ref 201)),(en P "check_end" 457 (.ref 208)),(en P "_law_cell" 467 (.ref 215)),(en P "_law_mixed" 476 (.ref 222)),(en P "_law_numbers" 487 (.ref 229)),(en P "_law_toll" 494 (.ref 236)),(en P "_law_web" 511 (.ref 243)),(en P "_law_number_in" 520 (.ref 250)),(en P "_law_bad" 531 (.ref 257)),(en P "_law_odd_word" 543 (.ref 264)),(en P "_law_joined" 556 (.ref 271)),(en P "_law_is_web" 568 (.ref 278)),(en P "_law_due" 574 (.ref 283)),(en P "_law_word_changed" 584 (.ref 290)),(en P "_law_changed" 596 (.ref 297)),(en P "law" 602 (.ref 302))] 49) #[])
def Jx:Obj:=(.mk .none none (.fields #[(.int 2 0),(.int 0 0),(.ref 20),(.int 4 0),(.int 0 0),(.ref 33),(.int 6 0),(.int 0 0),(.ref 45),(.int 8 0),(.int 0 0),(.ref 57),(.int 10 0),(.int 0 0),(.ref 69),(.int 15 0),(.int 0 0),(.ref 88),(.int 24 0),(.int 0 0),(.ref 107),(.int 35 0),(.int 0 0),(.ref 126),(.int 37 0),(.int 0 0),(.ref 133),(.int 42 0),(.int 0 0),(.ref 140),(.int 47 0),(.int 0 0),(.ref 147),(.int 51 0),(.int 0 0),(.ref 154),(.int 62 0),(.int 0 0),(.ref 161),(.int 73 0),(.int 0 0),(.ref 166),(.int 80 0),(.int 0 0),(.ref 171),(.int 87 0),(.int 0 0),(.ref 176),(.int 94 0),(.int 0 0),(.ref 183),(.int 101 0),(.int 0 0),(.ref 188),(.int 105 0),(.int 0 0),(.ref 195),(.int 109 0),(.int 0 0),(.ref 200),(.int 113 0),(.int 0 0),(.ref 207),(.int 117 0),(.int 0 0),(.ref 214),(.int 121 0),(.int 0 0),(.ref 221),(.int 126 0),(.int 0 0),(.ref 228),(.int 136 0),(.int 0 0),(.ref 235),(.int 140 0),(.int 0 0),(.ref 242),(.int 163 0),(.int 0 0),(.ref 249),(.int 172 0),(.int 0 0),(.ref 256),(.int 189 0),(.int 0 0),(.ref 263),(.int 197 0),(.int 0 0),(.ref 270),(.int 207 0),(.int 0 0),(.ref 277),(.int 214 0),(.int 0 0),(.ref 282),(.int 232 0),(.int 0 0),(.ref 289),(.int 244 0),(.int 0 0),(.ref 296),(.int 264 0),(.int 0 0),(.ref 301)]) #[])
def FD:Obj:=(tO #[(.str "rows" 453),(.str "last" 454)])
def JF:Obj:=(fR "check_end" "check_end" (top 28))
def FN:Obj:=(cO "check_end" "check_end" 450 451 452 113 2 0 0 3 (.ref 202) true 181 (.ref 203) .none (.ref 204) (.ref 205) (.ref 206) 455 113 456)
def Gq:Obj:=(fO "check_end" "check_end" (top 28) (.str "pebbletoll.texts" 395) (.ref 207))
def GC:Obj:=(tO #[(.str "script" 463),(.str "k" 464)])
def JK:Obj:=(fR "_law_cell" "_law_cell" (top 30))
def He:Obj:=(cO "_law_cell" "_law_cell" 460 461 462 117 2 0 0 3 (.ref 209) true 181 (.ref 210) .none (.ref 211) (.ref 212) (.ref 213) 465 117 466)
def GV:Obj:=(fO "_law_cell" "_law_cell" (top 30) (.str "law_pebbletoll_k60_whole_webs_refused" 458) (.ref 214))
def Ha:Obj:=(tO #[(.str "cell" 471),(.str "k" 472),(.str "m" 473)])
def IR:Obj:=(fR "_law_mixed" "_law_mixed" (top 31))
def Fv:Obj:=(cO "_law_mixed" "_law_mixed" 468 469 470 121 2 0 0 3 (.ref 216) true 181 (.ref 217) .none (.ref 218) (.ref 219) (.ref 220) 474 121 475)
def GK:Obj:=(fO "_law_mixed" "_law_mixed" (top 31) (.str "law_pebbletoll_k60_whole_webs_refused" 458) (.ref 221))
def GS:Obj:=(tO #[(.str "script" 480),(.str "many" 481),(.str "rest" 482),(.str "numbers" 483),(.str "k" 484)])
def JG:Obj:=(fR "_law_numbers" "_law_numbers" (top 32))
def Gs:Obj:=(cO "_law_numbers" "_law_numbers" 477 478 479 126 2 0 0 3 (.ref 223) true 181 (.ref 224) .none (.ref 225) (.ref 226) (.ref 227) 485 126 486)
def FF:Obj:=(fO "_law_numbers" "_law_numbers" (top 32) (.str "law_pebbletoll_k60_whole_webs_refused" 458) (.ref 228))
def Gw:Obj:=(tO #[(.str "rest" 491)])
def JJ:Obj:=(fR "_law_toll" "_law_toll" (top 33))
def GW:Obj:=(cO "_law_toll" "_law_toll" 488 489 490 136 1 0 0 3 (.ref 230) true 181 (.ref 231) .none (.ref 232) (.ref 233) (.ref 234) 492 136 493)
def GM:Obj:=(fO "_law_toll" "_law_toll" (top 33) (.str "law_pebbletoll_k60_whole_webs_refused" 458) (.ref 235))
def GZ:Obj:=(tO #[(.str "numbers" 498),(.str "head" 499),(.str "many" 500),(.str "names" 501),(.str "k" 502),(.str "roads" 503),(.str "rest" 504),(.str "near" 505),(.str "there" 506),(.str "back" 507),(.str "road" 508)])
def JX:Obj:=(fR "_law_web" "_law_web" (top 34))
def G8:Obj:=(cO "_law_web" "_law_web" 495 496 497 140 1 0 0 3 (.ref 237) true 181 (.ref 238) .none (.ref 239) (.ref 240) (.ref 241) 509 140 510)
def FO:Obj:=(fO "_law_web" "_law_web" (top 34) (.str "law_pebbletoll_k60_whole_webs_refused" 458) (.ref 242))
def G6:Obj:=(tO #[(.str "word" 515),(.str "number" 516),(.str "sign" 517)])
def JL:Obj:=(fR "_law_number_in" "_law_number_in" (top 35))
def G7:Obj:=(cO "_law_number_in" "_law_number_in" 512 513 514 163 1 0 0 3 (.ref 244) true 181 (.ref 245) .none (.ref 246) (.ref 247) (.ref 248) 518 163 519)
def GX:Obj:=(fO "_law_number_in" "_law_number_in" (top 35) (.str "law_pebbletoll_k60_whole_webs_refused" 458) (.ref 249))
def FM:Obj:=(tO #[(.str "pick" 524),(.str "text" 525),(.str "row" 526),(.str "e" 527),(.str "others" 528)])
def Jg:Obj:=(fR "_law_bad" "_law_bad" (top 36))
def Gk:Obj:=(cO "_law_bad" "_law_bad" 521 522 523 172 2 0 0 3 (.ref 251) true 181 (.ref 252) .none (.ref 253) (.ref 254) (.ref 255) 529 172 530)
def F8:Obj:=(fO "_law_bad" "_law_bad" (top 36) (.str "law_pebbletoll_k60_whole_webs_refused" 458) (.ref 256))
def F2:Obj:=(tO #[(.str "cell" 535),(.str "word" 536),(.str "at" 537),(.str "signs" 538),(.str "sign" 539),(.str "some" 540)])
def JM:Obj:=(fR "_law_odd_word" "_law_odd_word" (top 37))
def GL:Obj:=(cO "_law_odd_word" "_law_odd_word" 532 533 534 189 2 0 0 3 (.ref 258) true 181 (.ref 259) .none (.ref 260) (.ref 261) (.ref 262) 541 189 542)
def FE:Obj:=(fO "_law_odd_word" "_law_odd_word" (top 37) (.str "law_pebbletoll_k60_whole_webs_refused" 458) (.ref 263))
def Gm:Obj:=(tO #[(.str "many" 547),(.str "roads" 548),(.str "met" 549),(.str "at" 550),(.str "road" 551),(.str "one" 552),(.str "other" 553)])
def JQ:Obj:=(fR "_law_joined" "_law_joined" (top 38))
def Gj:Obj:=(cO "_law_joined" "_law_joined" 544 545 546 197 2 0 0 3 (.ref 265) true 181 (.ref 266) .none (.ref 267) (.ref 268) (.ref 269) 554 197 555)
def Ft:Obj:=(fO "_law_joined" "_law_joined" (top 38) (.str "law_pebbletoll_k60_whole_webs_refused" 458) (.ref 270))
def Go:Obj:=(tO #[(.str "many" 560),(.str "roads" 561),(.str "one" 562),(.str "other" 563),(.str "there" 564),(.str "back" 565)])
def IX:Obj:=(fR "_law_is_web" "_law_is_web" (top 39))
def Gn:Obj:=(cO "_law_is_web" "_law_is_web" 557 558 559 207 2 0 0 3 (.ref 272) true 181 (.ref 273) .none (.ref 274) (.ref 275) (.ref 276) 566 207 567)
def Fx:Obj:=(fO "_law_is_web" "_law_is_web" (top 39) (.str "law_pebbletoll_k60_whole_webs_refused" 458) (.ref 277))
def JR:Obj:=(fR "_law_due" "_law_due" (top 40))
def Hk:Obj:=(cO "_law_due" "_law_due" 569 570 571 214 1 0 0 3 (.ref 279) true 181 (.ref 280) .none .none .none (.ref 281) 572 214 573)
def GI:Obj:=(fO "_law_due" "_law_due" (top 40) (.str "law_pebbletoll_k60_whole_webs_refused" 458) (.ref 282))
def GG:Obj:=(tO #[(.str "row" 578),(.str "cell" 579),(.str "words" 580),(.str "at" 581)])
def JO:Obj:=(fR "_law_word_changed" "_law_word_changed" (top 41))
def GQ:Obj:=(cO "_law_word_changed" "_law_word_changed" 575 576 577 232 2 0 0 3 (.ref 284) true 181 (.ref 285) .none (.ref 286) (.ref 287) (.ref 288) 582 232 583)
def F7:Obj:=(fO "_law_word_changed" "_law_word_changed" (top 41) (.str "law_pebbletoll_k60_whole_webs_refused" 458) (.ref 289))
def Gg:Obj:=(tO #[(.str "rows" 588),(.str "cell" 589),(.str "told" 590),(.str "at" 591),(.str "rest" 592),(.str "more" 593)])
def IP:Obj:=(fR "_law_changed" "_law_changed" (top 42))
def Hg:Obj:=(cO "_law_changed" "_law_changed" 585 586 587 244 2 0 0 3 (.ref 291) true 181 (.ref 292) .none (.ref 293) (.ref 294) (.ref 295) 594 244 595)
def FU:Obj:=(fO "_law_changed" "_law_changed" (top 42) (.str "law_pebbletoll_k60_whole_webs_refused" 458) (.ref 296))
def Ja:Obj:=(fR "law" "law" (top 43))
def Ga:Obj:=(cO "law" "law" 597 598 599 264 1 0 0 3 (.ref 298) true 181 (.ref 299) .none .none .none (.ref 300) 600 264 601)
def G9:Obj:=(fO "law" "law" (top 43) (.str "law_pebbletoll_k60_whole_webs_refused" 458) (.ref 301))
noncomputable def h1 (P:Params):Heap:=.mk (.mk (boot_o_0 P::boot_o_1 P::boot_o_2 P::FZ P::boot_o_4 P::boot_o_5 P::boot_o_6 P::boot_o_7 P::boot_o_8 P::boot_o_9 P::boot_o_10 P::x0::Jx::x2::x3::x6::x7::x8 P::x0::x1::x9::x10::x0::x11 P::x12::x13::x14::x15::x16::x7::x17 P::x0::x1::x18::x19::x0::x20 P::x21::x22::x23::x16::x7::x24 P::x0::x1::x25::x26::x0::x27 P::x28::x29::x30::x16::x7::x31 P::x0::x1::x32::x33::x0::x34 P::x35::x36::x37::x16::x7::x38 P::x0::x39::x40::x41::x0::x1::x42::x0::x43::x44::x45::x46::x47 P::x48::x49::x50::x16::x7::x51 P::x0::x52::x53::x54::x0::x1::x55::x0::x56::x57::x58::x59::x60 P::x61::x62::x63::x0::x7::x64 P::x0::x65::x66::x67::x0::x1::x68::x69::x70::x71::x72 P::x73::x74::x75::x76::x77::x0::x1::x78::x0::x79::x80::x81::x0::x1::x82::x0::x83::x84::x85::x0::x1::x86::x0::x87::x88::x89::x0::x1::x90::x0::x91::x92::x93::x0::x1::x94::x0::x95::x96::x97::x0::x1::x98::x0::x99::DA::Dn::x0::x1::FC::CW::D8::x0::x1::GD::Dk::DR::x0::x1::Fw::C0::C7::x0::x1::C3::x0::F4::CZ::DN::x0::x1::Hh::D0::D1::x0::x1::C4::x0::FQ::DT::C6::x0::x1::Gu::DV::CS::x0::x1::FD::x0::JF::FN::Gq::x0::x1::GC::x0::JK::He::GV::x0::x1::Ha::x0::IR::Fv::GK::x0::x1::GS::x0::JG::Gs::FF::x0::x1::Gw::x0::JJ::GW::GM::x0::x1::GZ::x0::JX::G8::FO::x0::x1::G6::x0::JL::G7::GX::x0::x1::FM::x0::Jg::Gk::F8::x0::x1::F2::x0::JM::GL::FE::x0::x1::Gm::x0::JQ::Gj::Ft::x0::x1::Go::x0::IX::Gn::Fx::x0::x1::JR::Hk::GI::x0::x1::GG::x0::JO::GQ::F7::x0::x1::Gg::x0::IP::Hg::FU::x0::x1::Ja::Ga::G9::[])) (.mk [] [] [] 0 [] [] false #[] [] 0 false false false 0 [2000,10,10] false 0 true [] [] 0 false)
theorem Kq (w:World) (os:OsState):segRun treeTable PySem.Challenge.pw_pebbletoll_k60_whole_webs_refused w 11 (some (.ref 6)) 1 487 (Shared.mk (h0 w.params) (.mk []) (.mk 0 0 0 0) 450 os) (piecesOf st1 env cE (.mk 109 0 112 40) [topFrame (.mk 0 0 0 0)])=some (.next,(Shared.mk (h1 w.params) (.mk []) (.mk 0 0 0 0) 603 os),cE,(.mk 264 0 283 90)):=by kernel_rfl
noncomputable def hf (P:Params):Heap:=.mk (.mk (boot_o_0 P::boot_o_1 P::boot_o_2 P::FZ P::boot_o_4 P::boot_o_5 P::boot_o_6 P::boot_o_7 P::boot_o_8 P::boot_o_9 P::boot_o_10 P::x0::Jx::x2::x3::x6::x7::x8 P::x0::x1::x9::x10::x0::x11 P::x12::x13::x14::x15::x16::x7::x17 P::x0::x1::x18::x19::x0::x20 P::x21::x22::x23::x16::x7::x24 P::x0::x1::x25::x26::x0::x27 P::x28::x29::x30::x16::x7::x31 P::x0::x1::x32::x33::x0::x34 P::x35::x36::x37::x16::x7::x38 P::x0::x39::x40::x41::x0::x1::x42::x0::x43::x44::x45::x46::x47 P::x48::x49::x50::x16::x7::x51 P::x0::x52::x53::x54::x0::x1::x55::x0::x56::x57::x58::x59::x60 P::x61::x62::x63::x0::x7::x64 P::x0::x65::x66::x67::x0::x1::x68::x69::x70::x71::x72 P::x73::x74::x75::x76::x77::x0::x1::x78::x0::x79::x80::x81::x0::x1::x82::x0::x83::x84::x85::x0::x1::x86::x0::x87::x88::x89::x0::x1::x90::x0::x91::x92::x93::x0::x1::x94::x0::x95::x96::x97::x0::x1::x98::x0::x99::DA::Dn::x0::x1::FC::CW::D8::x0::x1::GD::Dk::DR::x0::x1::Fw::C0::C7::x0::x1::C3::x0::F4::CZ::DN::x0::x1::Hh::D0::D1::x0::x1::C4::x0::FQ::DT::C6::x0::x1::Gu::DV::CS::x0::x1::FD::x0::JF::FN::Gq::x0::x1::GC::x0::JK::He::GV::x0::x1::Ha::x0::IR::Fv::GK::x0::x1::GS::x0::JG::Gs::FF::x0::x1::Gw::x0::JJ::GW::GM::x0::x1::GZ::x0::JX::G8::FO::x0::x1::G6::x0::JL::G7::GX::x0::x1::FM::x0::Jg::Gk::F8::x0::x1::F2::x0::JM::GL::FE::x0::x1::Gm::x0::JQ::Gj::Ft::x0::x1::Go::x0::IX::Gn::Fx::x0::x1::JR::Hk::GI::x0::x1::GG::x0::JO::GQ::F7::x0::x1::Gg::x0::IP::Hg::FU::x0::x1::Ja::Ga::G9::[])) (.mk [] [] [] 0 [] [] false #[] [] 0 false false false 0 [2000,10,10] false 0 true [] [] 0 false)
theorem Kr (w:World) (os:OsState):topRun treeTable PySem.Challenge.pw_pebbletoll_k60_whole_webs_refused w 11 (some (.ref 6)) 2 (Shared.mk (h1 w.params) (.mk []) (.mk 0 0 0 0) 603 os) (restOf [] env cE (.mk 264 0 283 90) [topFrame (.mk 0 0 0 0)])=some (Shared.mk (hf w.params) (.mk []) (.mk 0 0 0 0) 603 os):=by kernel_rfl
theorem run (w:World) (os:OsState):topRun treeTable PySem.Challenge.pw_pebbletoll_k60_whole_webs_refused w 11 (some (.ref 6)) (12+(1+(1986+(487+(2))))) (Shared.mk (boot_heap w.params) (.mk []) boot_drawn boot_toks os) (topStub PySem.Challenge.pw_pebbletoll_k60_whole_webs_refused)=some (Shared.mk (hf w.params) (.mk []) (.mk 0 0 0 0) 603 os):=go_top (Ks w os) (piece_block (Ko w os) (piece_app (Ky w os) (piece_app (Kq w os) (Kr w os))))
theorem opn:∀ w:World,(fencedOpening treeTable PySem.Challenge.pw_pebbletoll_k60_whole_webs_refused w 5068).map (fun s=>(s.heap,s.gens,s.drawn,s.toks))=some (boot_heap w.params,Array.mk [],boot_drawn,boot_toks):=boot_open (by kernel_rfl) (by decide) fun s=>by kernel_rfl
theorem siz (w:World):((boot_heap w.params).isNs mainGlobals && (Array.mk ([]:List GenState)).size == 0,(boot_heap w.params).objs.size,(boot_heap w.params).nsMap mainGlobals "__annotations__")=(true,11,(some (.ref 6))):=by kernel_rfl
noncomputable def KK:Params->Frag:=fun P =>
 (nat_lit 2,boot_o_2 P) ::
 (nat_lit 3,FZ P) ::
 (nat_lit 15,x6) ::
 (nat_lit 22,x0) ::
 (nat_lit 23,x11 P) ::
 (nat_lit 24,x12) ::
 (nat_lit 25,x13) ::
 (nat_lit 28,x16) ::
 (nat_lit 35,x0) ::
 (nat_lit 36,x20 P) ::
 (nat_lit 37,x21) ::
 (nat_lit 40,x16) ::
 (nat_lit 47,x0) ::
 (nat_lit 48,x27 P) ::
 (nat_lit 49,x28) ::
 (nat_lit 52,x16) ::
 (nat_lit 59,x0) ::
 (nat_lit 60,x34 P) ::
 (nat_lit 61,x35) ::
 (nat_lit 64,x16) ::
 (nat_lit 71,x0) ::
 (nat_lit 73,x42) ::
 (nat_lit 74,x0) ::
 (nat_lit 76,x44) ::
 (nat_lit 77,x45) ::
 (nat_lit 78,x46) ::
 (nat_lit 79,x47 P) ::
 (nat_lit 80,x48) ::
 (nat_lit 83,x16) ::
 (nat_lit 90,x0) ::
 (nat_lit 92,x55) ::
 (nat_lit 93,x0) ::
 (nat_lit 95,x57) ::
 (nat_lit 96,x58) ::
 (nat_lit 97,x59) ::
 (nat_lit 98,x60 P) ::
 (nat_lit 99,x61) ::
 (nat_lit 109,x0) ::
 (nat_lit 112,x69) ::
 (nat_lit 113,x70) ::
 (nat_lit 114,x71) ::
 (nat_lit 115,x72 P) ::
 (nat_lit 116,x73) ::
 (nat_lit 117,x74) ::
 (nat_lit 118,x75) ::
 (nat_lit 121,x0) ::
 (nat_lit 123,x78) ::
 (nat_lit 124,x0) ::
 (nat_lit 126,x80) ::
 (nat_lit 127,x81) ::
 (nat_lit 128,x0) ::
 (nat_lit 130,x82) ::
 (nat_lit 131,x0) ::
 (nat_lit 133,x84) ::
 (nat_lit 134,x85) ::
 (nat_lit 135,x0) ::
 (nat_lit 137,x86) ::
 (nat_lit 138,x0) ::
 (nat_lit 140,x88) ::
 (nat_lit 141,x89) ::
 (nat_lit 142,x0) ::
 (nat_lit 144,x90) ::
 (nat_lit 145,x0) ::
 (nat_lit 147,x92) ::
 (nat_lit 148,x93) ::
 (nat_lit 149,x0) ::
 (nat_lit 151,x94) ::
 (nat_lit 152,x0) ::
 (nat_lit 154,x96) ::
 (nat_lit 155,x97) ::
 (nat_lit 156,x0) ::
 (nat_lit 158,x98) ::
 (nat_lit 159,x0) ::
 (nat_lit 161,DA) ::
 (nat_lit 162,Dn) ::
 (nat_lit 163,x0) ::
 (nat_lit 166,CW) ::
 (nat_lit 167,D8) ::
 (nat_lit 168,x0) ::
 (nat_lit 171,Dk) ::
 (nat_lit 172,DR) ::
 (nat_lit 173,x0) ::
 (nat_lit 176,C0) ::
 (nat_lit 177,C7) ::
 (nat_lit 178,x0) ::
 (nat_lit 180,C3) ::
 (nat_lit 181,x0) ::
 (nat_lit 183,CZ) ::
 (nat_lit 184,DN) ::
 (nat_lit 185,x0) ::
 (nat_lit 188,D0) ::
 (nat_lit 189,D1) ::
 (nat_lit 190,x0) ::
 (nat_lit 192,C4) ::
 (nat_lit 193,x0) ::
 (nat_lit 195,DT) ::
 (nat_lit 196,C6) ::
 (nat_lit 197,x0) ::
 (nat_lit 200,DV) ::
 (nat_lit 201,CS) ::
 (nat_lit 202,x0) ::
 (nat_lit 204,FD) ::
 (nat_lit 205,x0) ::
 (nat_lit 207,FN) ::
 (nat_lit 208,Gq) ::
 (nat_lit 209,x0) ::
 (nat_lit 211,GC) ::
 (nat_lit 212,x0) ::
 (nat_lit 214,He) ::
 (nat_lit 215,GV) ::
 (nat_lit 216,x0) ::
 (nat_lit 218,Ha) ::
 (nat_lit 219,x0) ::
 (nat_lit 221,Fv) ::
 (nat_lit 222,GK) ::
 (nat_lit 223,x0) ::
 (nat_lit 225,GS) ::
 (nat_lit 226,x0) ::
 (nat_lit 228,Gs) ::
 (nat_lit 229,FF) ::
 (nat_lit 230,x0) ::
 (nat_lit 232,Gw) ::
 (nat_lit 233,x0) ::
 (nat_lit 235,GW) ::
 (nat_lit 236,GM) ::
 (nat_lit 237,x0) ::
 (nat_lit 239,GZ) ::
 (nat_lit 240,x0) ::
 (nat_lit 242,G8) ::
 (nat_lit 243,FO) ::
 (nat_lit 244,x0) ::
 (nat_lit 246,G6) ::
 (nat_lit 247,x0) ::
 (nat_lit 249,G7) ::
 (nat_lit 250,GX) ::
 (nat_lit 251,x0) ::
 (nat_lit 253,FM) ::
 (nat_lit 254,x0) ::
 (nat_lit 256,Gk) ::
 (nat_lit 257,F8) ::
 (nat_lit 258,x0) ::
 (nat_lit 260,F2) ::
 (nat_lit 261,x0) ::
 (nat_lit 263,GL) ::
 (nat_lit 264,FE) ::
 (nat_lit 265,x0) ::
 (nat_lit 267,Gm) ::
 (nat_lit 268,x0) ::
 (nat_lit 270,Gj) ::
 (nat_lit 271,Ft) ::
 (nat_lit 272,x0) ::
 (nat_lit 274,Go) ::
 (nat_lit 275,x0) ::
 (nat_lit 277,Gn) ::
 (nat_lit 278,Fx) ::
 (nat_lit 279,x0) ::
 (nat_lit 282,Hk) ::
 (nat_lit 283,GI) ::
 (nat_lit 284,x0) ::
 (nat_lit 286,GG) ::
 (nat_lit 287,x0) ::
 (nat_lit 289,GQ) ::
 (nat_lit 290,F7) ::
 (nat_lit 291,x0) ::
 (nat_lit 293,Gg) ::
 (nat_lit 294,x0) ::
 (nat_lit 296,Hg) ::
 (nat_lit 297,FU) ::
 (nat_lit 298,x0) ::
 (nat_lit 301,Ga) ::
 (nat_lit 302,G9)::[]
abbrev qq:Program:=PySem.W.view PySem.Challenge.pw_pebbletoll_k60_whole_webs_refused [1,2,3,4,5,6,8,9,10,11,12,13,14,15,16,17,19,20,21,22,23,24,25,26,27,28,30,31,32,33,34,35,36,37,38,39,40,41,42,43]
abbrev asK:List Addr:=[2,3,15,22,23,24,25,28,35,36,37,40,47,48,49,52,59,60,61,64,71,73,74,76,77,78,79,80,83,90,92,93,95,96,97,98,99,109,112,113,114,115,116,117,118,121,123,124,126,127,128,130,131,133,134,135,137,138,140,141,142,144,145,147,148,149,151,152,154,155,156,158,159,161,162,163,166,167,168,171,172,173,176,177,178,180,181,183,184,185,188,189,190,192,193,195,196,197,200,201,202,204,205,207,208,209,211,212,214,215,216,218,219,221,222,223,225,226,228,229,230,232,233,235,236,237,239,240,242,243,244,246,247,249,250,251,253,254,256,257,258,260,261,263,264,265,267,268,270,271,272,274,275,277,278,279,282,283,284,286,287,289,290,291,293,294,296,297,298,301,302]
theorem asK_eq:∀ P,asK=(KK P).map (·.1):=fun _=>by kernel_rfl
theorem Kk (w:World):(fun os=>((staticsOk (importedModules PySem.Challenge.pw_pebbletoll_k60_whole_webs_refused.main.body) (boot_heap w.params) (hf w.params) && namesBound PySem.Challenge.pw_pebbletoll_k60_whole_webs_refused (hf w.params) && gensDone (Shared.mk (Hd.hf w.params) (.mk []) (.mk 0 0 0 0) 603 os) && laidKept (boot_heap w.params) (hf w.params)),openSeen qq [] (importedModules PySem.Challenge.pw_pebbletoll_k60_whole_webs_refused.main.body) (fun s=>PySem.W.xlAt Hd.qq [] s && PySem.W.recOk (PySem.W.RowW.records (PySem.W.OpenRow.toRowW (PySem.Challenge.rw_pebbletoll_k60_whole_webs_refused).row)) s) true (Shared.mk (Hd.hf w.params) (.mk []) (.mk 0 0 0 0) 603 os),Hook.obs (PySem.W.kHook Hd.KK Hd.asK Hd.asK_eq) (Shared.mk (Hd.hf w.params) (.mk []) (.mk 0 0 0 0) 603 os)))=fun _=>(true,openGood qq [],Hook.val (PySem.W.kHook Hd.KK Hd.asK Hd.asK_eq) w):=by kernel_rfl
theorem left:PySem.W.LeftO (PySem.Challenge.rw_pebbletoll_k60_whole_webs_refused).row.prog qq [] (fun s=>PySem.W.xlAt Hd.qq [] s && PySem.W.recOk (PySem.W.RowW.records (PySem.W.OpenRow.toRowW (PySem.Challenge.rw_pebbletoll_k60_whole_webs_refused).row)) s) (PySem.W.Hook.obs (PySem.W.kHook Hd.KK Hd.asK Hd.asK_eq)) (PySem.W.Hook.val (PySem.W.kHook Hd.KK Hd.asK Hd.asK_eq)) 5068:=LeftO.of_pieces opn siz run (by decide) Kk
end Hd
set_option Elab.async false
set_option linter.all false
set_option maxRecDepth 100000
namespace L2
open PySem PySem.Spec PyProof.Rows
abbrev Key:=Sum Int Str
def uG:Key->Value->Bool
 | .inl k,v=>Value.isInt k v
 | .inr x,v=>Value.isStrOf x v
def Kx (w:World):Key->Int
 | .inl k=>hashInt k
 | .inr x=>hashStr w x
theorem dA:∀ {k:Key} {v:Value},uG k v=true->(∃ i t,k=Sum.inl i/\v=Value.int i t)\/(∃ x t,k=Sum.inr x/\v=Value.str x t)
 | .inl i,v,h=>by
   obtain ⟨t,e⟩:=Value.isInt_shape (k:=i) (v:=v) h;exact .inl ⟨i,t,rfl,e⟩
 | .inr x,v,h=>by
   obtain ⟨t,e⟩:=Value.isStrOf_shape (x:=x) (v:=v) h;exact .inr ⟨x,t,rfl,e⟩
theorem ED (i:Int) (t:Tok):uG (.inl i) (.int i t)=true:=by simp [uG,Value.isInt]
theorem E9 (x:Str) (t:Tok):uG (.inr x) (.str x t)=true:=by simp [uG,Value.isStrOf]
theorem JU (a b:Int):decide ((Sum.inl a:Key)=Sum.inl b)=(a == b):=by
 by_cases e:a=b
 . subst e;simp
 . have h:¬ (Sum.inl a:Key)=Sum.inl b:=fun q=>e (Sum.inl.inj q);rw [decide_eq_false h];exact (beq_eq_false_iff_ne.mpr e).symm
theorem Ju (a b:Str):decide ((Sum.inr a:Key)=Sum.inr b)=decide (a=b):=by
 by_cases e:a=b
 . subst e;simp
 . have h:¬ (Sum.inr a:Key)=Sum.inr b:=fun q=>e (Sum.inr.inj q);rw [decide_eq_false h,decide_eq_false e]
theorem JI (a:Int) (b:Str):decide ((Sum.inl a:Key)=Sum.inr b)=false:=decide_eq_false (fun q=>nomatch q)
theorem JA (a:Str) (b:Int):decide ((Sum.inr a:Key)=Sum.inl b)=false:=decide_eq_false (fun q=>nomatch q)
def cW (prog:Program) (w:World):PySem.KeyKind prog w Key where
 is:=uG
 hash:=Kx w
 inj:=fun v a b ha hb=>by
   rcases dA ha with ⟨i,t,rfl,rfl⟩|⟨x,t,rfl,rfl⟩
   . rcases dA hb with ⟨j,u,rfl,e⟩|⟨y,u,rfl,e⟩
     . injection e with e1 _;rw [e1]
     . exact nomatch e
   . rcases dA hb with ⟨j,u,rfl,e⟩|⟨y,u,rfl,e⟩
     . exact nomatch e
     . injection e with e1 _;rw [e1]
 byValue:=fun k v h=>by
   rcases dA h with ⟨i,t,rfl,rfl⟩|⟨x,t,rfl,rfl⟩ <;> rfl
 pyHash:=fun hv h=>by
   rcases dA hv with ⟨i,t,rfl,rfl⟩|⟨x,t,rfl,rfl⟩
   . exact wpAny_pyHash_int h
   . exact wpAny_pyHash_str h
 eqBool:=fun hu hv h=>by
   rcases dA hu with ⟨i,t,rfl,rfl⟩|⟨x,t,rfl,rfl⟩
   . rcases dA hv with ⟨j,u,rfl,rfl⟩|⟨y,u,rfl,rfl⟩
     . rw [JU] at h;exact wpAny_eqBool_int h
     . rw [JI] at h;exact SeqAt.EqAt.int_str i t y u _ _ _ _ h
   . rcases dA hv with ⟨j,u,rfl,rfl⟩|⟨y,u,rfl,rfl⟩
     . rw [JA] at h;exact SeqAt.EqAt.str_int x t j u _ _ _ _ h
     . rw [Ju] at h;exact wpAny_eqBool_str h
 «strs»:=fun k x t v h=>by
   rcases dA h with ⟨i,u,rfl,e⟩|⟨y,u,rfl,e⟩
   . exact nomatch e
   . injection e with e1 _
     subst e1;cases v <;> rfl
theorem Cb (prog:Program) (w:World) (i:Int) (t:Tok):(cW prog w).is (.inl i) (.int i t)=true:=ED i t
theorem BI (prog:Program) (w:World) (x:Str) (t:Tok):(cW prog w).is (.inr x) (.str x t)=true:=E9 x t
end L2
namespace L2
open PySem PySem.Spec PyProof.Rows
inductive V where
 | non|bl (b:Bool)|int (i:Int)|str (x:Str)|byt (b:Array UInt8)|flt (b:UInt64)|ref (a:Addr)|ty (n:String)
 deriving DecidableEq
def RelV:V->Value->Prop
 | .non,u=>u=Value.none
 | .bl b,u=>u=Value.bool b
 | .int i,u=>∃ t,u=Value.int i t
 | .str x,u=>∃ t,u=Value.str x t
 | .byt b,u=>∃ t,u=Value.bytes b t
 | .flt b,u=>∃ t,u=Value.float b t
 | .ref a,u=>u=Value.ref a
 | .ty n,u=>u=Value.type n
abbrev Vals:List V->List Value->Prop:=Paired RelV
theorem Vals.length {xs:List V} {us:List Value} (r:Vals xs us):xs.length=us.length:=Paired.length r
theorem Vals.get:∀ {xs:List V} {us:List Value} {i:Nat} {x:V},Vals xs us->xs[i]?=some x->∃ u,us[i]?=some u/\RelV x u
 | _,_,_,_,.nil,e=>by simp at e
 | _,_,0,_,.cons r _,e=>by simp at e;subst e;exact ⟨_,rfl,r⟩
 | _,_,i+1,x,.cons _ t,e=>by
   obtain ⟨u,h1,h2⟩:=Vals.get (i:=i) (x:=x) t (by simpa using e);exact ⟨u,by simpa using h1,h2⟩
theorem Vals.set {x:V} {u:Value} (r:RelV x u):∀ {xs:List V} {us:List Value} (i:Nat),Vals xs us->Vals (xs.set i x) (us.set i u)
 | _,_,_,.nil=>.nil
 | _,_,0,.cons _ t=>.cons r t
 | _,_,i+1,.cons q t=>.cons q (Vals.set r i t)
theorem Vals.append:∀ {xs ys:List V} {us ws:List Value},Vals xs us->Vals ys ws->Vals (xs++ys) (us++ws)
 | _,_,_,_,.nil,s=>s
 | _,_,_,_,.cons r t,s=>.cons r (Vals.append t s)
theorem Vals.take:∀ {xs:List V} {us:List Value} (n:Nat),Vals xs us->Vals (xs.take n) (us.take n)
 | _,_,0,_=>.nil
 | _,_,_+1,.nil=>.nil
 | _,_,n+1,.cons r t=>.cons r (Vals.take n t)
theorem Vals.drop:∀ {xs:List V} {us:List Value} (n:Nat),Vals xs us->Vals (xs.drop n) (us.drop n)
 | _,_,0,r=>r
 | _,_,_+1,.nil=>.nil
 | _,_,n+1,.cons _ t=>Vals.drop n t
def RelO:Option V->Option Value->Prop
 | some v,some u=>RelV v u
 | none,none=>True
 | _,_=>False
def KV {κ:Type}:List (κ × V)->List (κ × Value)->Prop:=Paired fun (p:κ × V) (q:κ × Value)=>p.1=q.1/\RelV p.2 q.2
def kV:Key->V
 | .inl i=>.int i
 | .inr x=>.str x
inductive HO where
 /-- a list -/
 | lst (xs:List V)
 /-- a tuple (never changes) -/
 | tup (xs:List V)
 /-- a dict whose keys are ints and texts;one whose keys are tuples of ints and texts (the empty one is both) -/
 | dK (kvs:List (Key × V))|dT (kvs:List (List Key × V))
 /-- a set of ints: its members,its size -/
 | set (S:Int->Bool) (n:Nat)
 /-- an instance of the class at C,its dict at dx,its attributes -/
 | ins (C dx:Addr) (fs:List (Str × V))
 /-- the dict of the instance at x -/
 | own (x:Addr)
 /-- the dict of an exception -/
 | xd (fs:List (Str × V))
 /-- a bound method,f of x -/
 | met (f x:Addr)
 /-- a range object lo,lo+1,.. below hi -/
 | rng (lo hi:Int)
 /-- a thing that is known to the object (the script;a dict while a loop walks it): read,never written while it is so -/
 | frz (o:Obj) (u:HO)
 /-- a code object's table -/
 | tbl (ps:Array Value)
 /-- any other thing,by what is true of its one object (a def of one's own: SetO a S n:=HO.ext fun h=>..) -/
 | ext (φ:Heap->Prop)
abbrev Hp:=Addr->Option HO
def upd (H:Hp) (a:Addr) (o:HO):Hp:=fun b=>if b=a then some o else H b
theorem ag {H:Hp} {a:Addr} {o:HO}:upd H a o a=some o:=by unfold upd;rw [if_pos rfl]
theorem am {H:Hp} {a b:Addr} {o:HO} (h:b≠a):upd H a o b=H b:=by unfold upd;rw [if_neg h]
theorem mE {H:Hp} {a:Addr} {o u:HO}:upd (upd H a o) a u=upd H a u:=by
 funext b;unfold upd;split <;> rfl
theorem uH {H:Hp} {a b:Addr} {o u:HO} (h:H a=some o) (h':H b=some u) (d:o≠u):a≠b:=by
 intro e;subst e;rw [h] at h';exact d (Option.some.inj h')
theorem az {H:Hp} {a b:Addr} {o:HO} (h:H a=some o) (h':H b=none):a≠b:=by
 intro e;subst e;rw [h] at h';cases h'
section
variable (P:Program) (w:World)
def ObjOk (H:Hp) (h:Heap) (a:Addr):HO->Prop
 | .lst xs=>xs.length<=sizeLine/\∃ (its:List Value) (n:Nat),Vals xs its/\h.get? a=some { cls:=.type "list",data:=.seq its.toArray n }
 | .tup xs=>xs.length<=sizeLine/\∃ its:List Value,Vals xs its/\IsTup h a its.toArray
 | .dK kvs=>kvs.length<=sizeLine/\(a == sysModules)=false/\∃ vs,KV kvs vs/\h.DictOf (cW P w) a vs
 | .dT kvs=>kvs.length<=sizeLine/\(a == sysModules)=false/\∃ xs:List (List Key × Addr × Value),
     Paired (fun (p:List Key × V) (q:List Key × Addr × Value)=>p.1=q.1/\H q.2.1=some (.tup (p.1.map kV))/\RelV p.2 q.2.2) kvs xs /\
     ∃ o es ep,h.get? a=some o/\o.ExactDict/\o.data=.dict es ep/\es.toList=xs.map (entryOfKey (tupleKind (cW P w)))/\(xs.map (·.1)).Nodup
 | .set S n=>h.SetOf (intKind P w) a S n
 | .ins C dx fs=>H dx=some (.own a)/\fs.length<=1000/\dx≠a/\h.get? a=some (PySem.W.instObj C dx) /\
     ∃ mA,h.Ns1 dx mA/\(∀ f,RelO (fs.lookup f) (mA f))/\PySem.Within mA (fs.map (·.1))
 | .own _=>∃ o,h.get? a=some o
 | .xd fs=>∃ mA,h.Ns1 a mA/\∀ f,RelO (fs.lookup f) (mA f)
 | .rng lo hi=>∃ t u v,h.get? a=some { cls:=.type "range",data:=.fields #[.int lo t,.int hi u,.int 1 v] }
 | .frz o u=>h.get? a=some o/\ObjOk H h a u
 | .tbl ps=>h.get? a=some { cls:=.none,data:=.fields ps }
 | .met f x=>h.get? a=some (PySem.W.methodObj (.ref f) (.ref x))
 | .ext φ=>φ h/\(∃ o,h.get? a=some o)/\∀ h1 h2:Heap,φ h1->(∀ o,h1.get? a=some o->h2.get? a=some o)->φ h2
def HOk (H:Hp) (h:Heap):Prop:=∀ a o,H a=some o->ObjOk P w H h a o
end
section
variable {P:Program} {w:World} {H H':Hp} {h h':Heap} {a:Addr} {o:HO}
theorem ObjOk.lt (x:ObjOk P w H h a o):a<h.objs.size:=by
 cases o with
 | lst xs=>obtain ⟨_,_,_,_,e⟩:=x;exact Heap.lt_size e
 | tup xs=>obtain ⟨_,_,_,p⟩:=x;exact p.lt
 | dK kvs=>obtain ⟨_,_,_,_,o,_,_,e,_⟩:=x;exact Heap.lt_size e
 | dT kvs=>obtain ⟨_,_,_,_,o,_,_,e,_⟩:=x;exact Heap.lt_size e
 | set S n=>obtain ⟨o,_,_,_,e,_⟩:=x;exact Heap.lt_size e
 | ins C dx fs=>obtain ⟨_,_,_,e,_⟩:=x;exact Heap.lt_size e
 | own y=>obtain ⟨_,e⟩:=x;exact Heap.lt_size e
 | xd fs=>obtain ⟨_,⟨_,_,_,e,_⟩,_⟩:=x;exact Heap.lt_size e
 | rng lo hi=>obtain ⟨_,_,_,e⟩:=x;exact Heap.lt_size e
 | frz ob u=>obtain ⟨e,_⟩:=x;exact Heap.lt_size e
 | tbl ps=>exact Heap.lt_size (show h.get? a=some _ from x)
 | met f y=>exact Heap.lt_size (show h.get? a=some _ from x)
 | ext φ=>obtain ⟨_,⟨_,e⟩,_⟩:=x;exact Heap.lt_size e
theorem Paired.mapP {α β:Type} {F G:α->β->Prop}:∀ {l₁:List α} {l₂:List β},Paired F l₁ l₂->(∀ a b,F a b->G a b)->Paired G l₁ l₂
 | _,_,.nil,_=>.nil
 | _,_,.cons r t,f=>.cons (f _ _ r) (Paired.mapP t f)
theorem Paired.imp' {α β:Type} {F G:α->β->Prop} (f:∀ a b,F a b->G a b) {l₁:List α} {l₂:List β} (r:Paired F l₁ l₂):Paired G l₁ l₂:=Paired.mapP r f
theorem ObjOk.stay (x:ObjOk P w H h a o) (k:∀ b u,(b=a\/H b=some (.own a))->h.get? b=some u->h'.get? b=some u)
   (ho:∀ b,H b=some (.own a)->H' b=some (.own a)) (ht:∀ b xs,H b=some (.tup xs)->H' b=some (.tup xs)):ObjOk P w H' h' a o:=by
 induction o with
 | lst xs=>obtain ⟨z,its,n,r,e⟩:=x;exact ⟨z,its,n,r,k _ _ (.inl rfl) e⟩
 | tup xs=>obtain ⟨z,its,r,ob,e,c⟩:=x;exact ⟨z,its,r,ob,k _ _ (.inl rfl) e,c⟩
 | dK kvs=>obtain ⟨z,y,vs,r,ob,es,ep,e,c⟩:=x;exact ⟨z,y,vs,r,ob,es,ep,k _ _ (.inl rfl) e,c⟩
 | dT kvs =>
   obtain ⟨z,y,xs,r,ob,es,ep,e,c⟩:=x;exact ⟨z,y,xs,Paired.mapP r fun p q z=>⟨z.1,ht _ _ z.2.1,z.2.2⟩,ob,es,ep,k _ _ (.inl rfl) e,c⟩
 | set S n=>obtain ⟨ob,es,ep,t,e,c⟩:=x;exact ⟨ob,es,ep,t,k _ _ (.inl rfl) e,c⟩
 | ins C dx fs =>
   obtain ⟨d,z,ne,e,mA,⟨od,es,ep,e2,c⟩,r⟩:=x;exact ⟨ho _ d,z,ne,k _ _ (.inl rfl) e,mA,⟨od,es,ep,k _ _ (.inr d) e2,c⟩,r⟩
 | own y=>obtain ⟨ob,e⟩:=x;exact ⟨ob,k _ _ (.inl rfl) e⟩
 | xd fs=>obtain ⟨mA,⟨od,es,ep,e,c⟩,r⟩:=x;exact ⟨mA,⟨od,es,ep,k _ _ (.inl rfl) e,c⟩,r⟩
 | rng lo hi=>obtain ⟨t,u,v,e⟩:=x;exact ⟨t,u,v,k _ _ (.inl rfl) e⟩
 | frz ob u ih=>obtain ⟨e,q⟩:=x;exact ⟨k _ _ (.inl rfl) e,ih q⟩
 | tbl ps =>
   have e:h.get? a=some { cls:=.none,data:=.fields ps }:=x;show h'.get? a=some { cls:=.none,data:=.fields ps };exact k a _ (.inl rfl) e
 | met f y =>
   have e:h.get? a=some (PySem.W.methodObj (.ref f) (.ref y)):=x;show h'.get? a=some (PySem.W.methodObj (.ref f) (.ref y));exact k a _ (.inl rfl) e
 | ext φ=>obtain ⟨p,⟨o,e⟩,st⟩:=x;exact ⟨st _ _ p fun o q=>k _ _ (.inl rfl) q,⟨o,k _ _ (.inl rfl) e⟩,st⟩
theorem HOk.lt (x:HOk P w H h) (e:H a=some o):a<h.objs.size:=(x a o e).lt
theorem HOk.fresh (x:HOk P w H h) (e:h.objs.size<=a):H a=none:=by
 cases q:H a with
 | none=>rfl
 | some u=>exact absurd (Nat.lt_of_lt_of_le (x.lt q) e) (Nat.lt_irrefl _)
theorem HOk.kept (x:HOk P w H h) (k:∀ b u,h.get? b=some u->h'.get? b=some u):HOk P w H h':=fun a o e =>
 (x a o e).stay (fun b u _ q=>k b u q) (fun _ q=>q) fun _ _ q=>q
theorem HOk.laid (x:HOk P w H h) (k:∀ b u,h.get? b=some u->h'.get? b=some u) (hp:h.objs.size<=a) (new:ObjOk P w (upd H a o) h' a o):HOk P w (upd H a o) h':=fun b u e=>by
 have hn:=x.fresh hp;by_cases hb:b=a
 . subst hb;rw [ag] at e;cases e;exact new
 . rw [am hb] at e;exact (x b u e).stay (fun c v _ q=>k c v q) (fun c q=>by rw [am (az q hn)];exact q) fun c xs q=>by rw [am (az q hn)];exact q
end
def Rd (H:Hp) (a:Addr) (u:HO):Prop:=H a=some u\/∃ o,H a=some (.frz o u)
theorem Rd.ok {P:Program} {w:World} {H:Hp} {h:Heap} {a:Addr} {u:HO} (r:Rd H a u) (x:HOk P w H h):ObjOk P w H h a u:=by
 rcases r with r|⟨o,r⟩
 . exact x a u r
 . obtain ⟨_,q⟩:=x a _ r;exact q
def Mut:Option HO->Prop
 | some (.lst _)=>True
 | some (.dK _)=>True
 | some (.dT _)=>True
 | some (.set _ _)=>True
 | some (.ins _ _ _)=>True
 | some (.ext _)=>True
 | _=>False
section
variable {P:Program} {w:World} {H:Hp} {h h':Heap} {x e:Addr} {o':HO}
theorem HOk.write (ok:HOk P w H h) (mu:Mut (H x)) (he:e=x\/H e=some (.own x)) (k:∀ b u,b≠e->h.get? b=some u->h'.get? b=some u) (heo:∃ u,h'.get? e=some u)
   (new:ObjOk P w (upd H x o') h' x o'):HOk P w (upd H x o') h':=fun b u q=>by
 have nown:∀ c y,H c=some (.own y)->c≠x:=fun c y r z=>by subst z;rw [r] at mu;exact mu
 have ntup:∀ c xs,H c=some (.tup xs)->c≠x:=fun c xs r z=>by subst z;rw [r] at mu;exact mu
 by_cases hb:b=x
 . subst hb;rw [ag] at q;cases q;exact new
 . rw [am hb] at q;by_cases hbe:b=e
   . have q':H b=some (.own x):=by
       rcases he with z|z
       . exact absurd (hbe.trans z) hb
       . rw [hbe];exact z
     rw [q] at q';cases q';obtain ⟨v,hv⟩:=heo;exact ⟨v,by rw [hbe];exact hv⟩
   . refine (ok b u q).stay (fun c v hc r=>k c v ?_ r) (fun c r=>by rw [am (nown c b r)];exact r) fun c xs r=>by rw [am (ntup c xs r)];exact r
     rcases hc with rfl|hc
     . exact hbe
     . rintro rfl;rcases he with z|z
       . exact nown c b hc z
       . rw [hc] at z;cases z;exact hb rfl
end
structure Un (fs ex:List Addr) (H H':Hp) (h h':Heap):Prop where
 keep:∀ b o,h.get? b=some o->H b=none->b ∉ fs->b ∉ ex->h'.get? b=some o
 slot:∀ b o,h.get? b=some o->H b=none->b∈fs->b ∉ ex->∃ sl,h'.get? b=some { o with slots:=sl }
 free:∀ b o,h.get? b=some o->H b=none->b ∉ ex->H' b=none
 there:∀ b o,h.get? b=some o->b ∉ ex->∃ o',h'.get? b=some o'
 tups:∀ b xs,H b=some (.tup xs)->H' b=some (.tup xs)
 frzs:∀ b o u,H b=some (.frz o u)->H' b=some (.frz o u)
 tbls:∀ b ps,H b=some (.tbl ps)->∃ more,H' b=some (.tbl (ps++more))
section
variable {fs fs' ex ex':List Addr} {H H1 H2:Hp} {h h1 h2 h':Heap} {a x e:Addr} {o:HO}
theorem Un.any (u:Un fs ex H H1 h h1) {b:Addr} {ob:Obj} (q:h.get? b=some ob) (n:H b=none) (hx:b ∉ ex):∃ sl,h1.get? b=some { ob with slots:=sl }:=by
 by_cases hb:b∈fs
 . exact u.slot b ob q n hb hx
 . exact ⟨ob.slots,u.keep b ob q n hb hx⟩
theorem Un.kept (k:∀ b u,h.get? b=some u->h'.get? b=some u):Un fs ex H H h h' :=
 ⟨fun b ob q _ _ _=>k b ob q,fun b ob q _ _ _=>⟨ob.slots,k b ob q⟩,fun _ _ _ n _=>n,fun b ob q _=>⟨ob,k b ob q⟩,fun _ _ q=>q,fun _ _ _ q=>q,fun _ ps q=>⟨#[],by rw [q];simp⟩⟩
theorem Un.refl:Un fs ex H H h h:=Un.kept fun _ _ q=>q
theorem Un.laid (k:∀ b u,h.get? b=some u->h'.get? b=some u) (hp:h.objs.size<=a) (hn:H a=none):Un fs ex H (upd H a o) h h' where
 keep:=fun b u q _ _ _=>k b u q
 slot:=fun b u q _ _ _=>⟨u.slots,k b u q⟩
 free:=fun b u q n _=>by rw [am (Nat.ne_of_lt (Nat.lt_of_lt_of_le (Heap.lt_size q) hp))];exact n
 there:=fun b u q _=>⟨u,k b u q⟩
 tups:=fun b xs q=>by rw [am (az q hn)];exact q
 frzs:=fun b u xs q=>by rw [am (az q hn)];exact q
 tbls:=fun b ps q=>⟨#[],by rw [am (az q hn),q];simp⟩
theorem Un.write (mu:Mut (H x)) (he:e=x\/H e=some (.own x)) (k:∀ b u,b≠e->h.get? b=some u->h'.get? b=some u) (heo:∃ u,h'.get? e=some u):Un fs ex H (upd H x o) h h':=by
 have hx:∀ b,H b=none->b≠x:=fun b n z=>by subst z;rw [n] at mu;exact mu
 have hb:∀ b,H b=none->b≠e:=fun b n z=>by
   subst z;rcases he with r|r
   . exact hx b n r
   . rw [n] at r;cases r
 have hm:∀ b u,H b=some u->¬ Mut (some u)->b≠x:=fun b u q nm z=>by subst z;rw [q] at mu;exact nm mu
 refine ⟨fun b u q n _ _=>k b u (hb b n) q,fun b u q n _ _=>⟨u.slots,k b u (hb b n) q⟩,fun b u q n _=>by rw [am (hx b n)];exact n,fun b u q _=>?_,
   fun b xs q=>by rw [am (hm b _ q fun z=>z)];exact q,fun b u xs q=>by rw [am (hm b _ q fun z=>z)];exact q,fun b ps q=>⟨#[],by rw [am (hm b _ q fun z=>z),q];simp⟩⟩
 by_cases hbe:b=e
 . subst hbe;exact heo
 . exact ⟨u,k b u hbe q⟩
end
def trk (h:Heap) (H:Hp):List Addr:=(List.range h.objs.size).filter fun a=>(H a).isSome
def rF (h:Heap) (H:Hp):Heap:=PySem.W.hideAll h (trk h H)
theorem Et (h:Heap) (H:Hp):(rF h H).objs.size=h.objs.size:=PySem.W.hideAll_size _ _
theorem Gi {h:Heap} {H:Hp} {b:Addr} {o:Obj} (e:h.get? b=some o) (n:H b=none):(rF h H).get? b=some o :=
 PySem.W.hideAll_get _ e fun hm=>by
   have q:(H b).isSome=true:=(List.mem_filter.mp hm).2;rw [n] at q;simp at q
theorem HS {h:Heap} {H:Hp} {b:Addr} {o:Obj} (e:(rF h H).get? b=some o):h.get? b=some o/\H b=none:=by
 have e':h.get? b=some o:=PySem.W.of_hideAll (trk h H) e;refine ⟨e',?_⟩;cases q:H b with
 | none=>rfl
 | some x =>
   have hm:b∈trk h H:=List.mem_filter.mpr ⟨List.mem_range.mpr (Heap.lt_size e'),by simp [q]⟩;have z:(rF h H).get? b=none:=PySem.W.hideAll_none (trk h H) hm;rw [z] at e;cases e
def HN (g h:Heap) (L:Addr):List (Addr × Obj):=(List.range h.objs.size).filterMap fun a=>if a=L\/(g.get? a).isSome=true then none else (h.get? a).map fun o=>(a,o)
def au (g h:Heap) (L d:Addr):List (Addr × Obj):=(HN g h L).filter fun p=>decide (p.1≠d)
end L2
namespace L2
open PySem PySem.Spec PyProof.Rows
structure Mod (K:PySem.W.Frag) (mg:Str->Option Value) (base:Heap):Prop where
 kin:K.In base
 glob:base.Ns mainGlobals mg
 blt:∃ mb,base.Ns builtinsNs mb/\∀ x:Str,x≠"__name__"->mb x=bootBuiltins x
 nolimit:base.NoLimit
structure Cx where
 prog:Program
 w:World
 K:PySem.W.Frag
 mg:Str->Option Value
 base:Heap
 A:Around
 N:List Str
 s₀:Shared
 H₀:Hp
 env:Env
 outer:List Env
 stack:List Env
 ex:List Addr
 fn:Str->Bool
 calm:Bool
 pn:List (Addr × Obj)
 xe:Value->Shared->Prop
def frs (l:List Env):List Addr:=l.filterMap (·.frame)
abbrev Cx.fs (X:Cx):List Addr:=frs X.outer
def Vis (sc:Scope) (x:Str):Prop:=sc.names.lookup x=some .local\/sc.names.lookup x=some .cell\/sc.names.lookup x=some .free
def Loc (sc:Scope) (x:Str):Prop:=sc.names.lookup x=some .local\/sc.names.lookup x=some .cell
def Kt (env:Env) (h:Heap) (m:Str->Option Value) (x:Str) (u:Value):Prop :=
 (env.kindOf x=some .local/\m x=some u)\/((env.kindOf x=some .cell\/env.kindOf x=some .free)/\∃ c,env.cells.lookup x=some c/\h.IsCell c (some u))
structure Cx.Ok (X:Cx):Prop where
 mod:Mod X.K X.mg X.base
 kind:X.env.scope.kind=.function
 glob:X.env.globals=mainGlobals
 blt:X.env.builtins=builtinsNs
 above:X.s₀.heap.objs.size<=X.env.locals
 inj:∀ x y c,X.env.cells.lookup x=some c->X.env.cells.lookup y=some c->x=y
 has:∀ x,(X.env.kindOf x=some .cell\/X.env.kindOf x=some .free)->∃ c,X.env.cells.lookup x=some c
 cab:∀ x c,X.fn x=true->X.env.cells.lookup x=some c->X.s₀.heap.objs.size<=c
 hd:X.calm=true->X.A.handled=none
 frames:X.A.frames=some X.stack
 stk:X.stack=X.outer\/(X.stack=X.env::X.outer/\X.env.frame=some X.env.locals)
 exf:∀ b∈X.ex,b≠X.env.locals/\∀ x c,X.env.cells.lookup x=some c->c≠b
 bs:∀ b o,X.base.get? b=some o->X.s₀.heap.get? b=some o/\X.H₀ b=none
 bsz:X.base.objs.size<=X.s₀.heap.objs.size
 noex:∀ b o,X.base.get? b=some o->b ∉ X.ex
 exfs:∀ b∈X.ex,b ∉ X.fs
 funs:X.s₀.heap.FunFrames X.base X.outer
 frf:∀ b∈X.fs,X.H₀ b=none
structure Inv (X:Cx) (pins:List (Addr × Obj)) (σ:List (Option V)) (H:Hp) (s:Shared):Prop where
 ok:X.Ok
 os:s.os=X.s₀.os
 bare:AllBare s.gens
 base:Un X.fs X.ex X.H₀ H X.s₀.heap s.heap
 loc:∃ m,s.heap.Ns X.env.locals m/\∀ (i:Nat) (x:Str) (v:V),X.N[i]?=some x->σ[i]?=some (some v)->Vis X.env.scope x->∃ u,RelV v u/\Kt X.env s.heap m x u
 cell:∀ x c,X.env.cells.lookup x=some c->∃ v,s.heap.IsCell c v
 free:H X.env.locals=none
 freeC:∀ x c,X.env.cells.lookup x=some c->H c=none
 pin:∀ p∈X.pn++pins,s.heap.get? p.1=some p.2/\H p.1=none/\p.1≠X.env.locals/\p.1 ∉ X.fs/\∀ v,p.2.data≠.cell v
 hok:HOk X.prog X.w H s.heap
 len:σ.length=X.N.length
section
variable {X:Cx} {pins:List (Addr × Obj)} {σ:List (Option V)} {H H':Hp} {s:Shared} {h':Heap}
theorem Cx.Ok.nofr (ok:X.Ok) {b:Addr} {o:Obj} (e:X.base.get? b=some o):b ∉ X.fs:=fun hb=>by
 have:=(ok.funs.mem hb).1;rw [e] at this;cases this
theorem Inv.bs (I:Inv X pins σ H s):∀ b o,X.base.get? b=some o->s.heap.get? b=some o/\H b=none:=fun b o e =>
 ⟨I.base.keep b o (I.ok.bs b o e).1 (I.ok.bs b o e).2 (I.ok.nofr e) (I.ok.noex b o e),I.base.free b o (I.ok.bs b o e).1 (I.ok.bs b o e).2 (I.ok.noex b o e)⟩
theorem Inv.bk (I:Inv X pins σ H s):∀ b o,X.base.get? b=some o->s.heap.get? b=some o:=fun b o e=>(I.bs b o e).1
theorem Inv.mod (I:Inv X pins σ H s):Mod X.K X.mg X.base:=I.ok.mod
theorem Inv.kIn (I:Inv X pins σ H s):X.K.In s.heap:=I.ok.mod.kin.keeps I.bk
theorem Inv.lt (I:Inv X pins σ H s):X.env.locals<s.heap.objs.size:=let ⟨_,hn,_⟩:=I.loc;hn.lt
theorem Inv.sz (I:Inv X pins σ H s):X.s₀.heap.objs.size<=s.heap.objs.size:=Nat.le_trans I.ok.above (Nat.le_of_lt I.lt)
theorem Inv.nofs (I:Inv X pins σ H s) {a:Addr} (h:s.heap.objs.size<=a):a ∉ X.fs:=fun hb=>by
 obtain ⟨_,o,ho,_⟩:=I.ok.funs.mem hb;exact absurd (Nat.lt_of_lt_of_le (Heap.lt_size ho) (Nat.le_trans I.sz h)) (Nat.lt_irrefl _)
theorem Inv.cne (I:Inv X pins σ H s):∀ x c,X.env.cells.lookup x=some c->c≠X.env.locals:=fun x c e z=>by
 obtain ⟨v,o,ho,hd⟩:=I.cell x c e;obtain ⟨m,⟨o',es,ep,ho',hd',_⟩,_⟩:=I.loc;rw [z,ho'] at ho;cases ho;rw [hd'] at hd;cases hd
theorem Inv.funs (I:Inv X pins σ H s):s.heap.FunFrames X.base X.outer:=by
 have all:∀ (l:List Env),(∀ b∈frs l,b∈X.fs)->X.s₀.heap.FunFrames X.base l->s.heap.FunFrames X.base l:=by
   intro l
   induction l with
   | nil=>intro _ _;trivial
   | cons env r ih =>
     intro hs hl;obtain ⟨hk,⟨L,o,hf,hn,ho,hd⟩,hr⟩:=hl;have hL:L∈X.fs:=hs L (by unfold frs;rw [List.filterMap_cons,hf];exact List.mem_cons_self);obtain ⟨sl,e⟩:=I.base.slot L o ho (I.ok.frf L hL) hL fun z=>I.ok.exfs L z hL;exact ⟨hk,⟨L,_,hf,hn,e,hd⟩,ih (fun b hb=>hs b (by unfold frs;rw [List.filterMap_cons,hf];exact List.mem_cons_of_mem _ hb)) hr⟩
 exact all X.outer (fun _ hb=>hb) I.ok.funs
theorem Inv.stack (I:Inv X pins σ H s):s.heap.FunFrames X.base X.stack:=by
 rcases I.ok.stk with e|⟨e,hf⟩
 . rw [e];exact I.funs
 . rw [e];obtain ⟨m,hn,_⟩:=I.loc;refine .cons (by rw [I.ok.kind];decide) hf hn ?_ I.funs;exact Heap.get?_none_of_le (Nat.le_trans I.ok.bsz I.ok.above)
theorem Inv.stkSub (I:Inv X pins σ H s):∀ b∈frs X.stack,b∈X.env.locals::X.fs:=fun b hb=>by
 rcases I.ok.stk with e|⟨e,hf⟩
 . rw [e] at hb;exact List.mem_cons_of_mem _ hb
 . rw [e] at hb;unfold frs at hb;rw [List.filterMap_cons,hf] at hb;exact hb
theorem Inv.stkFree (I:Inv X pins σ H s):∀ b∈frs X.stack,H b=none:=fun b hb=>by
 rcases List.mem_cons.mp (I.stkSub b hb) with e|hb
 . rw [e];exact I.free
 . obtain ⟨_,o,ho,_⟩:=I.ok.funs.mem hb;exact I.base.free b o ho (I.ok.frf b hb) fun z=>I.ok.exfs b z hb
theorem Inv.step {g':Array GenState} {t':Nat} {d':Drawn} {ch:List Addr} (I:Inv X pins σ H s)
   (hch:∀ b∈ch,(b∈X.ex\/X.s₀.heap.objs.size<=b)/\b≠X.env.locals/\(∀ x c,X.env.cells.lookup x=some c->c≠b)/\∀ p∈X.pn++pins,p.1≠b)
   (keep:∀ b o,b≠X.env.locals->b ∉ X.fs->b ∉ ch->s.heap.get? b=some o->H b=none->h'.get? b=some o)
   (slot:∀ b o,b≠X.env.locals->b∈X.fs->b ∉ ch->s.heap.get? b=some o->H b=none->∃ sl,h'.get? b=some { o with slots:=sl }) (free:∀ b o,b ∉ ch->s.heap.get? b=some o->H b=none->H' b=none)
   (there:∀ b o,b ∉ ch->s.heap.get? b=some o->∃ o',h'.get? b=some o')
   (tups:∀ b xs,H b=some (.tup xs)->H' b=some (.tup xs)) (frzs:∀ b o u,H b=some (.frz o u)->H' b=some (.frz o u)) (tbls:∀ b ps,H b=some (.tbl ps)->∃ more,H' b=some (.tbl (ps++more)))
   (ns:∀ m,s.heap.Ns X.env.locals m->h'.Ns X.env.locals m) (hok:HOk X.prog X.w H' h') (hg:AllBare g') :
   Inv X pins σ H' { s with heap:=h',gens:=g',drawn:=d',toks:=t' }:=by
 have neL:∀ b o,X.s₀.heap.get? b=some o->b≠X.env.locals:=fun b o e=>Nat.ne_of_lt (Nat.lt_of_lt_of_le (Heap.lt_size e) I.ok.above);have neC:∀ b o,X.s₀.heap.get? b=some o->b ∉ X.ex->b ∉ ch:=fun b o e hx hb=>by
   rcases (hch b hb).1 with z|z
   . exact hx z
   . exact absurd (Nat.lt_of_lt_of_le (Heap.lt_size e) z) (Nat.lt_irrefl _)
 have cellK:∀ x c,X.env.cells.lookup x=some c->∀ v,s.heap.IsCell c v->h'.IsCell c v:=fun x c e v ⟨o,ho,hd⟩=>by
   have nch:c ∉ ch:=fun z=>(hch c z).2.2.1 x c e rfl;by_cases hc:c∈X.fs
   . obtain ⟨sl,q⟩:=slot c o (I.cne x c e) hc nch ho (I.freeC x c e);exact ⟨_,q,hd⟩
   . exact ⟨o,keep c o (I.cne x c e) hc nch ho (I.freeC x c e),hd⟩
 refine ⟨I.ok,I.os,hg,⟨fun b o e n hb hx=>?_,fun b o e n hb hx=>?_,fun b o e n hx=>?_,fun b o e hx=>?_,fun b xs e=>tups b xs (I.base.tups b xs e),fun b o xs e=>frzs b o xs (I.base.frzs b o xs e),fun b ps e=>?_⟩,?_,fun x c e=>?_,?_,fun x c e=>?_,fun p hp=>?_,hok,I.len⟩
 . exact keep b o (neL b o e) hb (neC b o e hx) (I.base.keep b o e n hb hx) (I.base.free b o e n hx)
 . obtain ⟨sl,e1⟩:=I.base.slot b o e n hb hx;obtain ⟨sl',e2⟩:=slot b _ (neL b o e) hb (neC b o e hx) e1 (I.base.free b o e n hx);exact ⟨sl',e2⟩
 . obtain ⟨o',e1⟩:=I.base.there b o e hx;exact free b o' (neC b o e hx) e1 (I.base.free b o e n hx)
 . obtain ⟨o',e1⟩:=I.base.there b o e hx;exact there b o' (neC b o e hx) e1
 . obtain ⟨m1,e1⟩:=I.base.tbls b ps e;obtain ⟨m2,e2⟩:=tbls b _ e1;exact ⟨m1++m2,by rw [e2,Array.append_assoc]⟩
 . obtain ⟨m,hn,hl⟩:=I.loc;refine ⟨m,ns m hn,fun i x v e1 e2 e3=>?_⟩;obtain ⟨u,r,l⟩:=hl i x v e1 e2 e3;refine ⟨u,r,?_⟩;rcases l with l|⟨k,c,e,z⟩
   . exact .inl l
   . exact .inr ⟨k,c,e,cellK x c e _ z⟩
 . obtain ⟨v,z⟩:=I.cell x c e;exact ⟨v,cellK x c e v z⟩
 . obtain ⟨m,⟨o,_,_,ho,_⟩,_⟩:=I.loc;exact free _ o (fun z=>(hch _ z).2.1 rfl) ho I.free
 . obtain ⟨v,o,ho,hd⟩:=I.cell x c e;exact free c o (fun z=>(hch c z).2.2.1 x c e rfl) ho (I.freeC x c e)
 . obtain ⟨e,n,ne,nf,d⟩:=I.pin p hp;have nch:p.1 ∉ ch:=fun z=>(hch p.1 z).2.2.2 p hp rfl;exact ⟨keep p.1 p.2 ne nf nch e n,free p.1 p.2 nch e n,ne,nf,d⟩
theorem Inv.un {t':Nat} (I:Inv X pins σ H s) (u:Un X.fs [] H H' s.heap h') (hok:HOk X.prog X.w H' h'):Inv X pins σ H' { s with heap:=h',toks:=t' }:=by
 obtain ⟨m,⟨o,es,ep,ho,r⟩,_⟩:=id I.loc;obtain ⟨sl,hL⟩:=u.any ho I.free (by simp);exact I.step (g':=s.gens) (d':=s.drawn) (ch:=[]) (fun _ z=>nomatch z) (fun b o _ hb _ e n=>u.keep b o e n hb (by simp)) (fun b o _ hb _ e n=>u.slot b o e n hb (by simp)) (fun b o _ e n=>u.free b o e n (by simp)) (fun b o _ e=>u.there b o e (by simp)) u.tups u.frzs u.tbls (fun m' hm=>by
   obtain ⟨o',es',ep',ho',r'⟩:=hm;rw [ho] at ho';cases ho';exact ⟨_,es',ep',hL,r'⟩) hok I.bare
theorem Inv.call {g':Array GenState} {t':Nat} {d':Drawn} {ch:List Addr} (I:Inv X pins σ H s) (u:Un (frs X.stack) ch H H' s.heap h') (hok:HOk X.prog X.w H' h') (hg:AllBare g')
   (hch:∀ b∈ch,(b∈X.ex\/X.s₀.heap.objs.size<=b)/\b≠X.env.locals/\(∀ x c,X.env.cells.lookup x=some c->c≠b)/\∀ p∈X.pn++pins,p.1≠b) :
   Inv X pins σ H' { s with heap:=h',gens:=g',drawn:=d',toks:=t' }:=by
 obtain ⟨m,⟨o,es,ep,ho,r⟩,_⟩:=id I.loc;obtain ⟨sl,hL⟩:=u.any ho I.free fun z=>(hch _ z).2.1 rfl;exact I.step (ch:=ch) hch (fun b o hL hb hc e n=>u.keep b o e n (fun z=>(List.mem_cons.mp (I.stkSub b z)).elim hL hb) hc) (fun b o _ _ hc e n=>u.any e n hc) (fun b o hc e n=>u.free b o e n hc) (fun b o hc e=>u.there b o e hc) u.tups u.frzs u.tbls (fun m' hm=>by
   obtain ⟨o',es',ep',ho',r'⟩:=hm;rw [ho] at ho';cases ho';exact ⟨_,es',ep',hL,r'⟩) hok hg
theorem Inv.turned {t':Nat} {it:Addr} (I:Inv X pins σ H s) (k:∀ b o,b≠it->s.heap.get? b=some o->h'.get? b=some o) (hn:H it=none) (hL:it≠X.env.locals)
   (h1:it∈X.ex\/X.s₀.heap.objs.size<=it) (h2:∀ x c,X.env.cells.lookup x=some c->c≠it) (h3:∀ p∈X.pn++pins,p.1≠it):Inv X pins σ H { s with heap:=h',toks:=t' }:=by
 have nit:∀ b u,H b=some u->b≠it:=fun b u e z=>by rw [z,hn] at e;cases e
 refine I.step (g':=s.gens) (d':=s.drawn) (ch:=[it]) (fun b hb=>?_) (fun b o _ _ hc e _=>k b o (fun z=>hc (by simp [z])) e) (fun b o _ _ hc e _=>⟨o.slots,k b o (fun z=>hc (by simp [z])) e⟩) (fun _ _ _ _ n=>n)
   (fun b o hc e=>⟨o,k b o (fun z=>hc (by simp [z])) e⟩) (fun _ _ e=>e) (fun _ _ _ e=>e) (fun b ps e=>⟨#[],by rw [e];simp⟩) (fun m hm=>?_) (fun b u e=>?_) I.bare
 . have e:b=it:=by simpa using hb
   subst e;exact ⟨h1,hL,h2,h3⟩
 . obtain ⟨o,es,ep,ho,r⟩:=hm;exact ⟨o,es,ep,k _ o (Ne.symm hL) ho,r⟩
 . refine (I.hok b u e).stay (fun c v hc q=>k c v ?_ q) (fun _ q=>q) fun _ _ q=>q;rcases hc with z|z
   . rw [z];exact nit b u e
   . exact nit c _ z
theorem Inv.tok (I:Inv X pins σ H s) (t:Nat):Inv X pins σ H { s with toks:=t }:=I.un (h':=s.heap) (t':=t) Un.refl I.hok
theorem Inv.kept {t':Nat} (I:Inv X pins σ H s) (k:∀ b u,s.heap.get? b=some u->h'.get? b=some u):Inv X pins σ H { s with heap:=h',toks:=t' }:=I.un (Un.kept k) (I.hok.kept k)
theorem Inv.laid {a:Addr} {o:HO} {t':Nat} (I:Inv X pins σ H s) (k:∀ b u,s.heap.get? b=some u->h'.get? b=some u) (hp:s.heap.objs.size<=a) (new:ObjOk X.prog X.w (upd H a o) h' a o) :
   Inv X pins σ (upd H a o) { s with heap:=h',toks:=t' }:=I.un (Un.laid k hp (I.hok.fresh hp)) (I.hok.laid k hp new)
theorem Inv.write {x e:Addr} {o:HO} {t':Nat} (I:Inv X pins σ H s) (mu:Mut (H x)) (he:e=x\/H e=some (.own x)) (k:∀ b u,b≠e->s.heap.get? b=some u->h'.get? b=some u) (heo:∃ u,h'.get? e=some u)
   (new:ObjOk X.prog X.w (upd H x o) h' x o):Inv X pins σ (upd H x o) { s with heap:=h',toks:=t' }:=I.un (Un.write mu he k heo) (I.hok.write mu he k heo new)
theorem Inv.pins_of {pins':List (Addr × Obj)} (I:Inv X pins σ H s) (h:∀ p∈pins',s.heap.get? p.1=some p.2/\H p.1=none/\p.1≠X.env.locals/\p.1 ∉ X.fs/\∀ v,p.2.data≠.cell v):Inv X pins' σ H s :=
 ⟨I.ok,I.os,I.bare,I.base,I.loc,I.cell,I.free,I.freeC,fun p hp=>(List.mem_append.mp hp).elim (fun z=>I.pin p (List.mem_append_left _ z)) (h p),I.hok,I.len⟩
theorem vn {N:List Str} (hN:N.Nodup) {i j:Nat} {x:Str} (a:N[i]?=some x) (b:N[j]?=some x):i=j:=by
 obtain ⟨h1,e1⟩:=List.getElem?_eq_some_iff.mp a;obtain ⟨h2,e2⟩:=List.getElem?_eq_some_iff.mp b;exact (List.getElem_inj hN).mp (e1.trans e2.symm)
theorem tQ {M:Model} {A:Around} {E:Value->Shared->Prop} {i:Nat} {x:Str} {v:V} {u:Value} {Q:Unit->Shared->Prop} (I:Inv X pins σ H s) (hN:X.N.Nodup) (hi:X.N[i]?=some x) (hx:Loc X.env.scope x) (r:RelV v u)
   (h:∀ s',Inv X pins (σ.set i (some v)) H s'->(∃ a,Heap.SameBut a s.heap s'.heap/\(a=X.env.locals\/X.env.cells.lookup x=some a))->Q () s') (hf:X.fn x=true\/X.env.scope.names.lookup x=some .local:=by first|exact .inl rfl|exact .inr rfl|assumption):wpAny M A (storeName X.env x u) Q E s:=by
 obtain ⟨m,hn,hl⟩:=id I.loc;have hcls:(X.env.scope.kind == .class || (X.env.scope.kind == .module && X.env.locals != X.env.globals))=false:=by rw [I.ok.kind];rfl
 have hiσ:i<σ.length:=by rw [I.len];exact (List.getElem?_eq_some_iff.mp hi).1
 have cne:=I.cne;have tracked:∀ {a:Addr} {h':Heap},(∃ o,s.heap.get? a=some o/\H a=none)->Heap.SameBut a s.heap h'->HOk X.prog X.w H h':=fun {a h'} ha hs b ob e=>by
   obtain ⟨_,_,hfree⟩:=ha;refine (I.hok b ob e).stay (fun c w' hc q=>(hs.2 c ?_).trans q) (fun _ q=>q) fun _ _ q=>q;rintro rfl;rcases hc with rfl|hc
   . rw [hfree] at e;cases e
   . rw [hfree] at hc;cases hc
 rcases hx with hk|hk
 . refine wpAny_storeName_local hk hn (fun h' hn' hs=>?_) hcls;obtain ⟨oL,_,_,hoL,_⟩:=id hn;refine h _ ⟨I.ok,I.os,I.bare,⟨fun b o e n hb hx=>?_,fun b o e n hb hx=>?_,I.base.free,fun b o e hx=>?_,I.base.tups,I.base.frzs,I.base.tbls⟩,⟨_,hn',fun j y v' e1 e2 e3=>?_⟩,fun y c e=>?_,I.free,I.freeC,fun p hp=>?_,tracked ⟨oL,hoL,I.free⟩ hs,by simpa using I.len⟩ ⟨_,hs,.inl rfl⟩
   . exact (hs.2 b (Nat.ne_of_lt (Nat.lt_of_lt_of_le (Heap.lt_size e) I.ok.above))).trans (I.base.keep b o e n hb hx)
   . obtain ⟨sl,e1⟩:=I.base.slot b o e n hb hx;exact ⟨sl,(hs.2 b (Nat.ne_of_lt (Nat.lt_of_lt_of_le (Heap.lt_size e) I.ok.above))).trans e1⟩
   . obtain ⟨o',e1⟩:=I.base.there b o e hx;exact ⟨o',(hs.2 b (Nat.ne_of_lt (Nat.lt_of_lt_of_le (Heap.lt_size e) I.ok.above))).trans e1⟩
   . by_cases hj:j=i
     . subst hj;rw [hi] at e1;cases e1;rw [List.getElem?_set_self hiσ] at e2;cases e2;exact ⟨u,r,.inl ⟨hk,by simp⟩⟩
     . rw [List.getElem?_set_ne (Ne.symm hj)] at e2;obtain ⟨u',r',q⟩:=hl j y v' e1 e2 e3;refine ⟨u',r',?_⟩;rcases q with ⟨k,e⟩|⟨k,c,e,z⟩
       . refine .inl ⟨k,?_⟩;have:y≠x:=fun e=>hj (vn hN e1 (e ▸ hi));simp [this,e]
       . exact .inr ⟨k,c,e,z.sameBut hs (cne y c e)⟩
   . obtain ⟨w',z⟩:=I.cell y c e;exact ⟨w',z.sameBut hs (cne y c e)⟩
   . obtain ⟨e,n,ne,nf,d⟩:=I.pin p hp;exact ⟨(hs.2 p.1 ne).trans e,n,ne,nf,d⟩
 . have hfn:X.fn x=true:=by
     rcases hf with z|z
     . exact z
     . rw [z] at hk;cases hk
   obtain ⟨c,hc⟩:=I.ok.has x (.inl hk);obtain ⟨w',z⟩:=I.cell x c hc;refine wpAny_storeName_cell I.ok.kind hk hc z (fun h' hc' hs=>?_);obtain ⟨oc,hoc,hocd⟩:=id z;refine h { s with heap:=h' } ⟨I.ok,I.os,I.bare,⟨fun b o e n hb hx=>?_,fun b o e n hb hx=>?_,I.base.free,fun b o e hx=>?_,I.base.tups,I.base.frzs,I.base.tbls⟩,⟨m,hn.sameBut hs (Ne.symm (cne x c hc)),fun j y v' e1 e2 e3=>?_⟩,fun y c' e=>?_,I.free,I.freeC,fun p hp=>?_,tracked ⟨oc,hoc,I.freeC x c hc⟩ hs,by simpa using I.len⟩ ⟨c,hs,.inr hc⟩
   . exact (hs.2 b (Nat.ne_of_lt (Nat.lt_of_lt_of_le (Heap.lt_size e) (I.ok.cab x c hfn hc)))).trans (I.base.keep b o e n hb hx)
   . obtain ⟨sl,e1⟩:=I.base.slot b o e n hb hx;exact ⟨sl,(hs.2 b (Nat.ne_of_lt (Nat.lt_of_lt_of_le (Heap.lt_size e) (I.ok.cab x c hfn hc)))).trans e1⟩
   . obtain ⟨o',e1⟩:=I.base.there b o e hx;exact ⟨o',(hs.2 b (Nat.ne_of_lt (Nat.lt_of_lt_of_le (Heap.lt_size e) (I.ok.cab x c hfn hc)))).trans e1⟩
   . by_cases hj:j=i
     . subst hj;rw [hi] at e1;cases e1;rw [List.getElem?_set_self hiσ] at e2;cases e2;exact ⟨u,r,.inr ⟨.inl hk,c,hc,hc'⟩⟩
     . rw [List.getElem?_set_ne (Ne.symm hj)] at e2;obtain ⟨u',r',q⟩:=hl j y v' e1 e2 e3;refine ⟨u',r',?_⟩;rcases q with q|⟨k,c',e,z'⟩
       . exact .inl q
       . refine .inr ⟨k,c',e,z'.sameBut hs ?_⟩;rintro rfl;exact hj (vn hN e1 (I.ok.inj _ _ _ e hc ▸ hi))
   . by_cases hcc:c'=c
     . subst hcc;exact ⟨_,hc'⟩
     . obtain ⟨w2,z2⟩:=I.cell y c' e;exact ⟨w2,z2.sameBut hs hcc⟩
   . obtain ⟨e,n,ne,nf,d⟩:=I.pin p hp;refine ⟨(hs.2 p.1 ?_).trans e,n,ne,nf,d⟩;intro q;rw [q,hoc] at e;have q':oc=p.2:=Option.some.inj e;exact d w' (by rw [<- q'];exact hocd)
theorem qH {M:Model} {A:Around} {E:Value->Shared->Prop} {i:Nat} {x:Str} {v:V} {u:Value} {Q:Unit->Shared->Prop} (I:Inv X pins σ H s) (hN:X.N.Nodup) (hi:X.N[i]?=some x) (hx:Loc X.env.scope x) (r:RelV v u)
   (h:∀ s',Inv X pins (σ.set i (some v)) H s'->Q () s') (hf:X.fn x=true\/X.env.scope.names.lookup x=some .local:=by first|exact .inl rfl|exact .inr rfl|assumption):wpAny M A (storeName X.env x u) Q E s :=
 tQ I hN hi hx r (fun s' I' _=>h s' I') hf
theorem Inv.call' {s':Shared} {ch:List Addr} (I:Inv X pins σ H s) (ho:s'.os=s.os) (u:Un (frs X.stack) ch H H' s.heap s'.heap) (hok:HOk X.prog X.w H' s'.heap) (hg:AllBare s'.gens)
   (hch:∀ b∈ch,(b∈X.ex\/X.s₀.heap.objs.size<=b)/\b≠X.env.locals/\(∀ x c,X.env.cells.lookup x=some c->c≠b)/\∀ p∈X.pn++pins,p.1≠b):Inv X pins σ H' s':=by
 obtain ⟨h',g',d',t',o'⟩:=s';have e:o'=s.os:=ho;subst e;exact I.call (g':=g') (t':=t') (d':=d') u hok hg hch
end
abbrev XK:=Value->Option Addr->Hp->Prop
abbrev St:=List (Option V)
abbrev VK:=V->Hp->Prop
abbrev TE:=St->Hp->VK->Prop
abbrev TT:=St->Hp->(Bool->Hp->Prop)->Prop
abbrev TA:=St->Hp->(List V->Hp->Prop)->Prop
structure Ends where
 nx:St->Hp->Prop
 rt:VK
 bk:St->Hp->Prop:=fun _ _=>False
 ct:St->Hp->Prop:=fun _ _=>False
abbrev TS:=Ends->St->Hp->Prop
def EP (X:Cx) (pins:List (Addr × Obj)) (σ:St) (Q:VK) (u:Value) (s':Shared):Prop:=∃ v H',Inv X pins σ H' s'/\RelV v u/\Q v H'
def TP (X:Cx) (pins:List (Addr × Obj)) (σ:St) (Q:Bool->Hp->Prop) (b:Bool) (s':Shared):Prop:=∃ H',Inv X pins σ H' s'/\Q b H'
def AP (X:Cx) (pins:List (Addr × Obj)) (σ:St) (Q:List V->Hp->Prop) (us:List Value) (s':Shared):Prop:=∃ vs H',Inv X pins σ H' s'/\Vals vs us/\Q vs H'
def SP (X:Cx) (pins:List (Addr × Obj)) (D:Ends) (f:Flow) (s':Shared):Prop :=
 match f with
 | .next=>∃ σ' H',Inv X pins σ' H' s'/\D.nx σ' H'
 | .brk=>∃ σ' H',Inv X pins σ' H' s'/\D.bk σ' H'
 | .cont=>∃ σ' H',Inv X pins σ' H' s'/\D.ct σ' H'
 | .ret u=>∃ v σ' H',Inv X pins σ' H' s'/\RelV v u/\D.rt v H'
def PE (X:Cx) (e:Expr) (t:TE):Prop :=
 ∀ (pins:List (Addr × Obj)) (s:Shared) (σ:St) (H:Hp) (Q:VK),Inv X pins σ H s->t σ H Q->wpAny (model X.prog X.w) X.A (eval e X.env) (EP X pins σ Q) X.xe s
def PT (X:Cx) (e:Expr) (t:TT):Prop :=
 ∀ (pins:List (Addr × Obj)) (s:Shared) (σ:St) (H:Hp) (Q:Bool->Hp->Prop),Inv X pins σ H s->t σ H Q->wpAny (model X.prog X.w) X.A (isTrue e X.env (eval e X.env)) (TP X pins σ Q) X.xe s
def PW (X:Cx) (e:Expr) (t:TT):Prop :=
 ∀ (whole:Sem Value) (pins:List (Addr × Obj)) (s:Shared) (σ:St) (H:Hp) (Q:Bool->Hp->Prop),Inv X pins σ H s->t σ H Q->wpAny (model X.prog X.w) X.A (isTrue e X.env whole) (TP X pins σ Q) X.xe s
theorem PW.pt {X:Cx} {e:Expr} {t:TT} (h:PW X e t):PT X e t:=h _
def PA (X:Cx) (es:List Expr) (t:TA):Prop :=
 ∀ (pos:Pos) (pins:List (Addr × Obj)) (s:Shared) (σ:St) (H:Hp) (Q:List V->Hp->Prop),Inv X pins σ H s->t σ H Q->wpAny (model X.prog X.w) X.A (spliced (backTo pos (starEach es X.env))) (AP X pins σ Q) X.xe s
def PS (X:Cx) (st:Stmt) (t:TS):Prop :=
 ∀ (pins:List (Addr × Obj)) (s:Shared) (σ:St) (H:Hp) (D:Ends),Inv X pins σ H s->t D σ H->wpAny (model X.prog X.w) X.A (exec st X.env) (SP X pins D) X.xe s
def PSs (X:Cx) (st:List Stmt) (t:TS):Prop :=
 ∀ (pins:List (Addr × Obj)) (s:Shared) (σ:St) (H:Hp) (D:Ends),Inv X pins σ H s->t D σ H->wpAny (model X.prog X.w) X.A (execs st X.env) (SP X pins D) X.xe s
theorem thn {α:Type} {t:Sem α} {Q Q':α->Shared->Prop} {M:Model} {A:Around} {E:Value->Shared->Prop} {s:Shared} (h:wpAny M A t Q E s) (hQ:∀ a s,Q a s->Q' a s):wpAny M A t Q' E s:=wpAny_mono h hQ fun _ _ x=>x
theorem bh {t:Sem Value} {X:Cx} {pins:List (Addr × Obj)} {σ:St} {Q:VK} {Q':Value->Shared->Prop} {M:Model} {A:Around} {E:Value->Shared->Prop} {s:Shared} (h:wpAny M A t (EP X pins σ Q) E s) (hQ:∀ u s v H,Inv X pins σ H s->RelV v u->Q v H->Q' u s):wpAny M A t Q' E s:=thn h fun u s ⟨v,H,I,r,q⟩=>hQ u s v H I r q
theorem rC {t:Sem (List Value)} {X:Cx} {pins:List (Addr × Obj)} {σ:St} {Q:List V->Hp->Prop} {Q':List Value->Shared->Prop} {M:Model} {A:Around} {E:Value->Shared->Prop} {s:Shared} (h:wpAny M A t (AP X pins σ Q) E s) (hQ:∀ u s v H,Inv X pins σ H s->Vals v u->Q v H->Q' u s):wpAny M A t Q' E s:=thn h fun u s ⟨v,H,I,r,q⟩=>hQ u s v H I r q
theorem qQ {t:Sem Bool} {X:Cx} {pins:List (Addr × Obj)} {σ:St} {Q:Bool->Hp->Prop} {Q':Bool->Shared->Prop} {M:Model} {A:Around} {E:Value->Shared->Prop} {s:Shared} (h:wpAny M A t (TP X pins σ Q) E s) (hQ:∀ u s H,Inv X pins σ H s->Q u H->Q' u s):wpAny M A t Q' E s:=thn h fun u s ⟨H,I,q⟩=>hQ u s H I q
end L2
namespace L2
open PySem PySem.Spec PyProof.Rows
section
variable {X:Cx}
def xQ (i:Nat):TE:=fun σ H Q=>∃ v,σ[i]?=some (some v)/\Q v H
def tC (v:V):TE:=fun _ H Q=>Q v H
theorem Bj {i:Nat} {x:Str} {pos:Pos} (hN:X.N[i]?=some x) (hv:Vis X.env.scope x) (hd:(x == ("__debug__":Str))=false:=by decide) (hcd:(x == ("__classdict__":Str))=false:=by decide):PE X (.Name x pos) (xQ i):=by
 intro pins s σ H Q I h;obtain ⟨v,e,h⟩:=h;obtain ⟨m,hn,hl⟩:=I.loc;obtain ⟨u,r,l⟩:=hl i x v hN e hv;have fin:EP X pins σ Q u s:=⟨v,H,I,r,h⟩;rcases l with ⟨hk,hm⟩|⟨hk,c,hc,hcell⟩
 . exact wpAny_Name (wpAny_loadName_local I.ok.kind hk hn hm fin) hd
 . rcases hk with hk|hk
   . exact wpAny_Name (wpAny_loadName_cell I.ok.kind hk hc hcell fin) hd
   . exact wpAny_Name (wpAny_loadName_free I.ok.kind hk hc hcell fin hcd) hd
theorem af {i j pos}:PE X (.Constant (.int i) j pos) (tC (.int i)):=fun _ _ _ H _ I h=>wpAny_Constant_int ⟨.int i,H,I.tok _,⟨_,rfl⟩,h⟩
theorem oq {b j pos}:PE X (.Constant (.bool b) j pos) (tC (.bl b)):=fun _ _ _ H _ I h=>Constant_bool ⟨.bl b,H,I,rfl,h⟩
theorem wL {j pos}:PE X (.Constant .none j pos) (tC .non):=fun _ _ _ H _ I h=>Constant_none ⟨.non,H,I,rfl,h⟩
theorem ao {x j pos}:PE X (.Constant (.str x) j pos) (tC (.str x)):=fun _ _ _ H _ I h=>Calls.Constant_str ⟨.str x,H,I.tok _,⟨_,rfl⟩,h⟩
def Gl (X:Cx) (x:Str):Prop:=X.env.kindOf x=some .globalImplicit
theorem jG {E:Value->Shared->Prop} {pins:List (Addr × Obj)} {s:Shared} {σ:St} {H:Hp} {x:Str} {u:Value} {pos:Pos} {Q:Value->Shared->Prop} (I:Inv X pins σ H s) (hg:Gl X x) (hm:X.mg x=some u) (h:Q u s)
   (hd:(x == ("__debug__":Str))=false:=by decide):wpAny (model X.prog X.w) X.A (eval (.Name x pos) X.env) Q E s :=
 Calls.Name_function_global I.ok.kind hg (Calls.loadGlobal_global (by rw [I.ok.glob];exact I.mod.glob.keeps I.bk) hm h) hd
theorem pN {E:Value->Shared->Prop} {pins:List (Addr × Obj)} {s:Shared} {σ:St} {H:Hp} {x:Str} {u:Value} {pos:Pos} {Q:Value->Shared->Prop} (I:Inv X pins σ H s) (hg:Gl X x) (hm:X.mg x=none) (hv:bootBuiltins x=some u) (h:Q u s)
   (hn:x≠"__name__":=by decide) (hd:(x == ("__debug__":Str))=false:=by decide):wpAny (model X.prog X.w) X.A (eval (.Name x pos) X.env) Q E s:=by
 obtain ⟨mb,h1,h2⟩:=I.mod.blt;exact Calls.Name_function_global I.ok.kind hg (Calls.loadGlobal_builtin (by rw [I.ok.glob];exact I.mod.glob.keeps I.bk) hm (by rw [I.ok.blt];exact h1.keeps I.bk) ((h2 x hn).trans hv) h) hd
theorem fL {x:Str} {v:V} {u:Value} {pos:Pos} (hg:Gl X x) (hm:X.mg x=some u) (r:RelV v u) (hd:(x == ("__debug__":Str))=false:=by decide):PE X (.Name x pos) (tC v) :=
 fun _ _ _ H _ I h=>jG I hg hm ⟨v,H,I,r,h⟩ hd
theorem uI {x:Str} {v:V} {u:Value} {pos:Pos} (hg:Gl X x) (hm:X.mg x=none) (hv:bootBuiltins x=some u) (r:RelV v u) (hn:x≠"__name__":=by decide) (hd:(x == ("__debug__":Str))=false:=by decide):PE X (.Name x pos) (tC v) :=
 fun _ _ _ H _ I h=>pN I hg hm hv ⟨v,H,I,r,h⟩ hn hd
variable {a b:Expr} {ta tb:TE} {pos:Pos}
def PC (X:Cx) (op:CmpOp) (a b:Expr) (t:TE):Prop :=
 ∀ (pins:List (Addr × Obj)) (s:Shared) (σ:St) (H:Hp) (Q:VK),Inv X pins σ H s->t σ H Q ->
   wpAny (model X.prog X.w) X.A (eval a X.env) (fun v s₁=>wpAny (model X.prog X.w) X.A (eval b X.env) (fun u s₂=>wpAny (model X.prog X.w) X.A (compareOp op v u) (EP X pins σ Q) X.xe s₂) X.xe s₁) X.xe s
theorem Bf (b:Expr) {op:CmpOp} (h:op≠.In) (h2:op≠.NotIn):behindInMarks op b=false:=by
 have e1:(op == CmpOp.In)=false:=by cases op <;> first|rfl|exact absurd rfl h
 have e2:(op == CmpOp.NotIn)=false:=by cases op <;> first|rfl|exact absurd rfl h2
 cases b <;> simp [behindInMarks,e1,e2]
def GO (ta:TE):TE:=fun σ H Q=>ta σ H fun x H1=>Q (.bl (decide (x=.non))) H1
def CV (ta:TE):TE:=fun σ H Q=>ta σ H fun x H1=>Q (.bl (!decide (x=.non))) H1
theorem RelV.none_iff {x:V} {v:Value} (r:RelV x v):(v == Value.none)=decide (x=.non):=by
 cases x with
 | non=>cases r;rfl
 | bl _=>cases r;rfl
 | int _=>obtain ⟨t,rfl⟩:=r;rfl
 | str _=>obtain ⟨t,rfl⟩:=r;rfl
 | byt _=>obtain ⟨t,rfl⟩:=r;rfl
 | flt _=>obtain ⟨t,rfl⟩:=r;rfl
 | ref _=>cases r;rfl
 | ty _=>cases r;rfl
theorem Ex {j pos'} (ha:PE X a ta):PC X .Is a (.Constant .none j pos') (GO ta):=by
 intro pins s σ H Q I h;refine bh (ha pins s σ H _ I h) fun v s1 x H1 I1 r1 q1=>?_;exact Constant_none (is_none_gen ⟨.bl _,H1,I1,by rw [r1.none_iff];rfl,q1⟩)
theorem IA {j pos'} (ha:PE X a ta):PC X .IsNot a (.Constant .none j pos') (CV ta):=by
 intro pins s σ H Q I h;refine bh (ha pins s σ H _ I h) fun v s1 x H1 I1 r1 q1=>?_;exact Constant_none (isnot_none_gen ⟨.bl _,H1,I1,by rw [r1.none_iff];rfl,q1⟩)
def tB (t:TE):TT:=fun σ H Q=>t σ H fun x H1=>∃ c,x=.bl c/\Q c H1
theorem Jp {op:CmpOp} {t:TE} (h:PC X op a b t) (h1:behindInMarks op b=false:=by first|exact Bf _ (by decide) (by decide)|rfl):PE X (.Compare a [op] [b] pos) t:=fun pins s σ H Q I hw=>wpAny_Compare1 (h pins s σ H Q I hw) h1
theorem Ak {op:CmpOp} {t:TE} (h:PC X op a b t) (h1:behindInMarks op b=false:=by first|exact Bf _ (by decide) (by decide)|rfl):PT X (.Compare a [op] [b] pos) (tB t):=by
 intro pins s σ H Q I hw;refine wpAny_isTrue_Compare1 (thn (h pins s σ H _ I hw) fun v s1 h1=>thn h1 fun u s2 h2=>thn h2 fun c s3 ⟨x,H1,I1,r1,q1⟩=>?_) h1;obtain ⟨d,rfl,q⟩:=q1;cases r1;exact wpAny_truthy_bool ⟨H1,I1,q⟩
theorem gp {e:Expr} {t:TE} (h:PE X e t) (he:∀ whole,isTrue e X.env whole=(do let v <- whole;standAt e.pos;holding [v] (truthy v)):=by intro _;rfl):PT X e (tB t):=by
 intro pins s σ H Q I hw;refine isTrue_plain (bh (h pins s σ H _ I hw) fun v s1 x H1 I1 r1 q1=>?_) (he _);obtain ⟨d,rfl,q⟩:=q1;cases r1;exact wpAny_truthy_bool ⟨H1,I1,q⟩
variable {tA tB':TT} {au:List Expr}
def FH (t u:TT):TT:=fun σ H Q=>t σ H fun c H1=>if c=true then u σ H1 Q else Q false H1
def tOr (t u:TT):TT:=fun σ H Q=>t σ H fun c H1=>if c=true then Q true H1 else u σ H1 Q
def F0 (t:TT):TT:=fun σ H Q=>t σ H fun c H1=>Q (!c) H1
theorem pH (ha:PT X a tA):PW X (.BoolOp .And [a] pos) tA:=by
 intro wh pins s σ H Q I h;refine isTrue_and (thn (ha pins s σ H Q I h) fun c s1 e=>?_);cases c with
 | true=>exact isTrue_and_nil e
 | false=>exact e
theorem jY (ha:PT X a tA):PW X (.BoolOp .Or [a] pos) tA:=by
 intro wh pins s σ H Q I h;refine isTrue_or (thn (ha pins s σ H Q I h) fun c s1 e=>?_);cases c with
 | false=>exact isTrue_or_nil e
 | true=>exact e
theorem nX (ha:PT X a tA) (hb:PW X (.BoolOp .And (b::au) pos) tB'):PW X (.BoolOp .And (a::b::au) pos) (FH tA tB'):=by
 intro wh pins s σ H Q I h;refine isTrue_and (qQ (ha pins s σ H _ I h) fun c s1 H1 I1 q1=>?_);cases c with
 | true=>exact hb wh pins s1 σ H1 Q I1 q1
 | false=>exact ⟨H1,I1,q1⟩
theorem gP (ha:PT X a tA) (hb:PW X (.BoolOp .Or (b::au) pos) tB'):PW X (.BoolOp .Or (a::b::au) pos) (tOr tA tB'):=by
 intro wh pins s σ H Q I h;refine isTrue_or (qQ (ha pins s σ H _ I h) fun c s1 H1 I1 q1=>?_);cases c with
 | true=>exact ⟨H1,I1,q1⟩
 | false=>exact hb wh pins s1 σ H1 Q I1 q1
theorem ik (ha:PT X a tA):PT X (.UnaryOp .Not a pos) (F0 tA):=by
 intro pins s σ H Q I h;exact isTrue_not (ha pins s σ H (fun c H1=>Q (!c) H1) I h)
def D2 (ta tb:TE):TE:=fun σ H Q=>ta σ H fun x H1=>∃ c,x=.bl c/\if c=true then tb σ H1 Q else Q (.bl false) H1
def FW (ta tb:TE):TE:=fun σ H Q=>ta σ H fun x H1=>∃ c,x=.bl c/\if c=true then Q (.bl true) H1 else tb σ H1 Q
def Ho (ta:TE):TE:=fun σ H Q=>ta σ H fun x H1=>∃ c,x=.bl c/\Q (.bl (!c)) H1
theorem E7 {op} {t:TE} (h:PE X a t):PE X (.BoolOp op [a] pos) t:=fun pins s σ H Q I hw=>BoolOp_one (h pins s σ H Q I hw)
theorem Jd (ha:PE X a ta) (hb:PE X (.BoolOp .And (b::au) pos) tb):PE X (.BoolOp .And (a::b::au) pos) (D2 ta tb):=by
 intro pins s σ H Q I h;refine BoolOp_and (bh (ha pins s σ H _ I h) fun v s1 x H1 I1 r1 q1=>?_);obtain ⟨c,rfl,q1⟩:=q1;cases r1;refine wpAny_truthy_bool ?_;cases c with
 | true=>exact hb pins s1 σ H1 Q I1 q1
 | false=>exact ⟨.bl false,H1,I1,rfl,q1⟩
theorem J0 (ha:PE X a ta) (hb:PE X (.BoolOp .Or (b::au) pos) tb):PE X (.BoolOp .Or (a::b::au) pos) (FW ta tb):=by
 intro pins s σ H Q I h;refine BoolOp_or (bh (ha pins s σ H _ I h) fun v s1 x H1 I1 r1 q1=>?_);obtain ⟨c,rfl,q1⟩:=q1;cases r1;refine wpAny_truthy_bool ?_;cases c with
 | false=>exact hb pins s1 σ H1 Q I1 q1
 | true=>exact ⟨.bl true,H1,I1,rfl,q1⟩
def tIf (t:TT) (ta tb:TE):TE:=fun σ H Q=>t σ H fun c H1=>if c=true then ta σ H1 Q else tb σ H1 Q
theorem FK {c:Expr} (hc:PT X c tA) (ha:PE X a ta) (hb:PE X b tb):PE X (.IfExp c a b pos) (tIf tA ta tb):=by
 intro pins s σ H Q I h;refine wpAny_IfExp (qQ (hc pins s σ H _ I h) fun d s1 H1 I1 q1=>?_);cases d with
 | true=>exact ha pins s1 σ H1 Q I1 q1
 | false=>exact hb pins s1 σ H1 Q I1 q1
end
end L2
namespace L2
open PySem PySem.Spec PyProof.Rows
def SqL (K:PySem.W.Frag) (H:Hp) (a:Addr) (xs:List V):Prop :=
 Rd H a (.lst xs) \/
   ∃ (o:Obj) (its:Array Value) (n:Nat),K.lookup a=some o/\o.cls=.type "list"/\o.dict=none/\o.data=.seq its n/\its.size<=sizeLine/\Vals xs its.toList
def SqT (K:PySem.W.Frag) (H:Hp) (a:Addr) (xs:List V):Prop :=
 Rd H a (.tup xs) \/
   ∃ (o:Obj) (its:Array Value) (n:Nat),K.lookup a=some o/\o.cls=.type "tuple"/\o.data=.seq its n/\its.size<=sizeLine/\Vals xs its.toList
def Kv:Value->Option V
 | .none=>some .non
 | .bool b=>some (.bl b)
 | .int i _=>some (.int i)
 | .str x _=>some (.str x)
 | .bytes b _=>some (.byt b)
 | .float b _=>some (.flt b)
 | .ref a=>some (.ref a)
 | .type n=>some (.ty n)
 | _=>none
theorem RelV.abs {x:V} {u:Value} (r:RelV x u):Kv u=some x:=by
 cases x with
 | non=>cases r;rfl
 | bl _=>cases r;rfl
 | int _=>obtain ⟨t,rfl⟩:=r;rfl
 | str _=>obtain ⟨t,rfl⟩:=r;rfl
 | byt _=>obtain ⟨t,rfl⟩:=r;rfl
 | flt _=>obtain ⟨t,rfl⟩:=r;rfl
 | ref _=>cases r;rfl
 | ty _=>cases r;rfl
theorem RelV.inj {x y:V} {u:Value} (r:RelV x u) (q:RelV y u):x=y:=Option.some.inj (r.abs.symm.trans q.abs)
theorem Vals.inj {xs ys:List V} {us:List Value} (h:Vals xs us) (h2:Vals ys us):xs=ys:=by
 induction h generalizing ys with
 | nil=>cases h2;rfl
 | cons r _ ih=>cases h2 with|cons r2 t2=>rw [r.inj r2,ih t2]
section
variable {X:Cx} {pins:List (Addr × Obj)} {σ:St} {H:Hp} {s:Shared} {a:Addr} {xs ys:List V}
theorem SqL.of {K:PySem.W.Frag} (h:H a=some (.lst xs)):SqL K H a xs:=.inl (.inl h)
theorem SqT.of {K:PySem.W.Frag} (h:H a=some (.tup xs)):SqT K H a xs:=.inl (.inl h)
theorem Inv.list (I:Inv X pins σ H s) (h:SqL X.K H a xs):∃ its:List Value,Vals xs its/\PlainL s.heap a its.toArray/\xs.length<=sizeLine:=by
 rcases h with h|⟨o,its,n,hk,hc,hd,hs,hz,r⟩
 . obtain ⟨z,its,n,r,e⟩:=h.ok I.hok;exact ⟨its,r,⟨_,n,e,rfl,rfl,rfl⟩,z⟩
 . refine ⟨its.toList,r,⟨o,n,I.kIn a o hk,hc,hd,by simpa using hs⟩,?_⟩;have e:=r.length;simp only [Array.length_toList] at e;omega
theorem Inv.tuple (I:Inv X pins σ H s) (h:SqT X.K H a xs):∃ its:List Value,Vals xs its/\IsTup s.heap a its.toArray/\xs.length<=sizeLine:=by
 rcases h with h|⟨o,its,n,hk,hc,hs,hz,r⟩
 . obtain ⟨z,its,r,p⟩:=h.ok I.hok;exact ⟨its,r,p,z⟩
 . refine ⟨its.toList,r,⟨o,I.kIn a o hk,hc,n,by simpa using hs⟩,?_⟩;have e:=r.length;simp only [Array.length_toList] at e;omega
theorem Inv.list_inj (I:Inv X pins σ H s) (h:SqL X.K H a xs) (h':SqL X.K H a ys):xs=ys:=by
 obtain ⟨its,r,⟨o,n,e,_,_,d⟩,_⟩:=I.list h;obtain ⟨its',r',⟨o',n',e',_,_,d'⟩,_⟩:=I.list h';rw [e] at e';cases e';rw [d] at d';injection d' with d1 _
 have:its=its':=by simpa using congrArg Array.toList d1
 subst this;exact r.inj r'
theorem Inv.tuple_inj (I:Inv X pins σ H s) (h:SqT X.K H a xs) (h':SqT X.K H a ys):xs=ys:=by
 obtain ⟨its,r,⟨o,e,_,n,d⟩,_⟩:=I.tuple h;obtain ⟨its',r',⟨o',e',_,n',d'⟩,_⟩:=I.tuple h';rw [e] at e';cases e';rw [d] at d';injection d' with d1 _
 have:its=its':=by simpa using congrArg Array.toList d1
 subst this;exact r.inj r'
end
abbrev Cx.wish (X:Cx) (E:Value->Shared->Prop):Cx:={ X with xe:=E }
abbrev Cx.nox (X:Cx):Cx:=X.wish fun _ _=>False
theorem Cx.Ok.wish {X:Cx} (ok:X.Ok) (E:Value->Shared->Prop):(X.wish E).Ok :=
 ⟨ok.mod,ok.kind,ok.glob,ok.blt,ok.above,ok.inj,ok.has,ok.cab,ok.hd,ok.frames,ok.stk,ok.exf,ok.bs,ok.bsz,ok.noex,ok.exfs,ok.funs,ok.frf⟩
theorem Cx.Ok.unwish {X:Cx} {E:Value->Shared->Prop} (ok:(X.wish E).Ok):X.Ok :=
 ⟨ok.mod,ok.kind,ok.glob,ok.blt,ok.above,ok.inj,ok.has,ok.cab,ok.hd,ok.frames,ok.stk,ok.exf,ok.bs,ok.bsz,ok.noex,ok.exfs,ok.funs,ok.frf⟩
section
variable {X:Cx} {pins:List (Addr × Obj)} {σ:St} {H:Hp} {s:Shared} {E:Value->Shared->Prop}
theorem Inv.wish (I:Inv X pins σ H s) (E:Value->Shared->Prop):Inv (X.wish E) pins σ H s:=⟨I.ok.wish E,I.os,I.bare,I.base,I.loc,I.cell,I.free,I.freeC,I.pin,I.hok,I.len⟩
theorem Inv.unwish (I:Inv (X.wish E) pins σ H s):Inv X pins σ H s:=⟨I.ok.unwish,I.os,I.bare,I.base,I.loc,I.cell,I.free,I.freeC,I.pin,I.hok,I.len⟩
theorem SP.unwish {D:Ends} {f:Flow} {s':Shared} (h:SP (X.wish E) pins D f s'):SP X pins D f s':=by
 cases f with
 | next=>obtain ⟨σ',H',I,q⟩:=h;exact ⟨σ',H',I.unwish,q⟩
 | brk=>obtain ⟨σ',H',I,q⟩:=h;exact ⟨σ',H',I.unwish,q⟩
 | cont=>obtain ⟨σ',H',I,q⟩:=h;exact ⟨σ',H',I.unwish,q⟩
 | ret u=>obtain ⟨v,σ',H',I,r,q⟩:=h;exact ⟨v,σ',H',I.unwish,r,q⟩
theorem PSs.nox {st:List Stmt} {t:TS} (h:PSs X.nox st t):PSs X st t:=fun pins s σ H D I hw =>
 wpAny_mono (h pins s σ H D (I.wish _) hw) (fun _ _ q=>q.unwish) fun _ _ z=>False.elim z
end
section
variable {X:Cx} {st:Stmt} {au:List Stmt} {t u:TS} {e:Expr} {te:TE} {pos:Pos}
def tNext:TS:=fun D σ H=>D.nx σ H
def DU (t u:TS):TS:=fun D σ H=>t { D with nx:=u D } σ H
theorem aw:PSs X [] tNext:=fun _ _ σ H _ I h=>wpAny_execs_nil ⟨σ,H,I,h⟩
theorem ai (h1:PS X st t) (h2:PSs X au u):PSs X (st::au) (DU t u):=by
 intro pins s σ H D I h;refine wpAny_execs_cons (thn (h1 pins s σ H { D with nx:=u D } I h) fun f s1 q=>?_);cases f with
 | next =>
   obtain ⟨σ',H',I',q⟩:=q;exact h2 pins s1 σ' H' D I' q
 | ret v=>exact q
 | brk=>exact q
 | cont=>exact q
theorem aj (h1:PS X st t):PSs X [st] t:=by
 intro pins s σ H D I h;refine wpAny_execs_cons (thn (h1 pins s σ H D I h) fun f s1 q=>?_);cases f with
 | next=>exact wpAny_execs_nil q
 | ret v=>exact q
 | brk=>exact q
 | cont=>exact q
theorem Inv.quiet {pins:List (Addr × Obj)} {σ:St} {H:Hp} {s:Shared} (I:Inv X pins σ H s):interactive X.env=false:=by simp [interactive,I.ok.kind]
def D9 (te:TE):TS:=fun D σ H=>te σ H fun _ H1=>D.nx σ H1
theorem bG (he:PE X e te) (hs:swapsWith e none pos.line X.env=pure false:=by rfl):PS X (.Expr e pos) (D9 te):=by
 intro pins s σ H D I h;exact wpAny_Expr_any (bh (he pins s σ H _ I h) fun v s1 x H1 I1 r1 q1=>⟨σ,H1,I1,q1⟩) I.quiet hs
def Gy (te:TE):TS:=fun D σ H=>te σ H D.rt
theorem aR (he:PE X e te):PS X (.Return (some e) pos) (Gy te):=by
 intro pins s σ H D I h;exact wpAny_Return_some (bh (he pins s σ H _ I h) fun v s1 x H1 I1 r1 q1=>⟨x,σ,H1,I1,r1,q1⟩)
def Hq:TS:=fun D _ H=>D.rt .non H
def Dh (c:TT) (t u:TS):TS:=fun D σ H=>c σ H fun b H1=>if b=true then t D σ H1 else u D σ H1
theorem aG {c:Expr} {a b:List Stmt} {tc:TT} (hc:PT X c tc) (ha:PSs X a t) (hb:PSs X b u):PS X (.If c a b pos) (Dh tc t u):=by
 intro pins s σ H D I h;refine wpAny_If (qQ (hc pins s σ H _ I h) fun d s1 H1 I1 q1=>?_);cases d with
 | true=>exact ha pins s1 σ H1 D I1 q1
 | false=>exact hb pins s1 σ H1 D I1 q1
def Jl:TS:=fun _ _ _=>False
end
abbrev TG:=V->St->Hp->(St->Hp->Prop)->Prop
abbrev TGs:=List V->St->Hp->(St->Hp->Prop)->Prop
def PG (X:Cx) (target:Expr) (t:TG):Prop :=
 ∀ (pins:List (Addr × Obj)) (s:Shared) (σ:St) (H:Hp) (v:V) (u:Value) (Q:St->Hp->Prop),Inv X pins σ H s->RelV v u->t v σ H Q ->
   wpAny (model X.prog X.w) X.A (assign target X.env u) (fun _ s'=>∃ σ' H',Inv X pins σ' H' s'/\Q σ' H') X.xe s
def PGs (X:Cx) (ts:List Expr) (t:TGs):Prop :=
 ∀ (pins:List (Addr × Obj)) (s:Shared) (σ:St) (H:Hp) (vs:List V) (us:List Value) (Q:St->Hp->Prop),Inv X pins σ H s->Vals vs us->t vs σ H Q ->
   wpAny (model X.prog X.w) X.A (assignInOrder ((assignEach ts X.env).map (·.2)) us) (fun _ s'=>∃ σ' H',Inv X pins σ' H' s'/\Q σ' H') X.xe s
abbrev CT:=V->V->V->Hp->(Hp->Prop)->Prop
def JH (X:Cx) (t:CT):Prop :=
 ∀ (pins:List (Addr × Obj)) (s:Shared) (σ:St) (H:Hp) (o i v:V) (ov iv u:Value) (Q:Hp->Prop),Inv X pins σ H s->RelV o ov->RelV i iv->RelV v u->t o i v H Q ->
   wpAny (model X.prog X.w) X.A (setItem ov iv u) (fun _ s'=>∃ H',Inv X pins σ H' s'/\Q H') X.xe s
abbrev TIp:=V->V->Hp->VK->Prop
section
variable {X:Cx} {pos:Pos}
def uD (i:Nat):TG:=fun v σ H Q=>Q (σ.set i (some v)) H
theorem bg {i:Nat} {x:Str} (hN:X.N.Nodup) (hi:X.N[i]?=some x) (hx:Loc X.env.scope x) (hf:X.fn x=true\/X.env.scope.names.lookup x=some .local:=by first|exact .inl rfl|exact .inr rfl|assumption):PG X (.Name x pos) (uD i):=by
 intro pins s σ H v u Q I r h;exact wpAny_assign_Name (qH I hN hi hx r (fun s' I'=>⟨_,H,I',h⟩) hf)
def gNil:TGs:=fun vs σ H Q=>vs=[]/\Q σ H
def Dx (t:TG) (u:TGs):TGs:=fun vs σ H Q=>∃ v r,vs=v::r/\t v σ H fun σ' H'=>u r σ' H' Q
theorem yd:PGs X [] gNil:=by
 intro pins s σ H vs us Q I r h;obtain ⟨e,h⟩:=h;subst e;cases r;exact assignInOrder_nil ⟨σ,H,I,h⟩
theorem ie {e:Expr} {es:List Expr} {t:TG} {u:TGs} (h1:PG X e t) (h2:PGs X es u)
   (hs:(assignEach (e::es) X.env).map (·.2)=assign e X.env::(assignEach es X.env).map (·.2):=by rfl):PGs X (e::es) (Dx t u):=by
 intro pins s σ H vs us Q I r h;obtain ⟨v,vr,e1,h⟩:=h;subst e1;cases r with
 | cons r rr =>
   rw [hs];refine assignInOrder_cons (thn (h1 pins s σ H _ _ _ I r h) fun _ s1 ⟨σ1,H1,I1,q1⟩=>?_);exact h2 pins s1 σ1 H1 _ _ Q I1 rr q1
def F3 (K:PySem.W.Frag) (n:Nat) (t:TGs):TG:=fun v σ H Q=>∃ a xs,v=.ref a/\SqT K H a xs/\xs.length=n/\t xs σ H Q
theorem A3 {es:List Expr} {k:Nat} {t:TGs} {n:Nat} (hc:X.calm=true) (h:PGs X es t)
   (hn:(assignEach es X.env).length=n:=by rfl) (hst:(assignEach es X.env).findIdx? (·.1)=none:=by rfl):PG X (.Tuple es k pos) (F3 X.K n t):=by
 intro pins s σ H v u Q I r hw;obtain ⟨a,xs,e1,hq,hl,hw⟩:=hw;subst e1;cases r;obtain ⟨its,rv,ht,hz⟩:=I.tuple hq;refine assign_Tuple_tuple (I.ok.hd hc) ht (by simp [hn,<- hl,rv.length]) hst fun h' hx=>?_;have I1:Inv X pins σ H { s with heap:=h' }:=I.kept (t':=s.toks) fun b o e=>hx b o (Nat.ne_of_lt (Heap.lt_size e)) e;exact h pins _ σ H xs _ Q I1 (by simpa using rv) hw
def Fu (to ti:TE) (t:CT):TG:=fun v σ H Q=>to σ H fun o H1=>ti σ H1 fun i H2=>t o i v H2 fun H3=>Q σ H3
theorem xg {o i:Expr} {to ti:TE} {t:CT} (ho:PE X o to) (hi:PE X i ti) (hs:JH X t)
   (ha:∀ v,assign (.Subscript o i pos) X.env v=(do
     let ov <- holding [v] (eval o X.env)
     let iv <- holding [v,ov] (eval i X.env)
     standAt pos
     holding [v,ov,iv] (setItem ov iv v)
     release [v,ov,iv] []):=by intro _;rfl):PG X (.Subscript o i pos) (Fu to ti t):=by
 intro pins s σ H v u Q I r h;rw [ha];refine wpAny_bind (wpAny_holding (bh (ho pins s σ H _ I h) fun ov s1 x H1 I1 r1 q1=>?_));refine wpAny_bind (wpAny_holding (bh (hi pins s1 σ H1 _ I1 q1) fun iv s2 y H2 I2 r2 q2=>?_));refine wpAny_bind (wpAny_standAt (wpAny_bind (wpAny_holding (thn (hs pins s2 σ H2 x y v ov iv u _ I2 r1 r2 r q2) fun _ s3 ⟨H3,I3,q3⟩=>?_))));exact wpAny_release ⟨σ,H3,I3,q3⟩
def xU (te:TE) (g:TG):TS:=fun D σ H=>te σ H fun x H1=>g x σ H1 D.nx
theorem tz {tg e:Expr} {te:TE} {g:TG} (he:PE X e te) (hg:PG X tg g) (hs:swapsWithSole [tg] e pos.line X.env=pure false:=by rfl) (hw:swappedStores [tg] e X.env=pure none:=by rfl)
   (h1:(assignEach [tg] X.env).map (·.2)=[assign tg X.env]:=by rfl):PS X (.Assign [tg] e pos) (xU te g):=by
 intro pins s σ H D I h;refine wpAny_Assign_stores (bh (he pins s σ H _ I h) fun v s1 x H1 I1 r1 q1=>?_) hs hw;rw [h1];exact thn (hg pins s1 σ H1 x v _ I1 r1 q1) fun _ s2 q=>q
theorem ap {i:Nat} {x:Str} {e:Expr} {te:TE} {pos':Pos} (hN:X.N.Nodup) (hi:X.N[i]?=some x) (hx:Loc X.env.scope x) (he:PE X e te) (hs:swapsWith e (some (.Name x pos')) pos.line X.env=pure false:=by rfl) (hf:X.fn x=true\/X.env.scope.names.lookup x=some .local:=by first|exact .inl rfl|exact .inr rfl|assumption) :
   PS X (.Assign [.Name x pos'] e pos) (xU te (uD i)):=by
 intro pins s σ H D I h;refine wpAny_Assign_Name (bh (he pins s σ H _ I h) fun v s1 y H1 I1 r1 q1=>?_) hs;exact qH I1 hN hi hx r1 (fun s2 I2=>⟨_,H1,I2,q1⟩) hf
def JD (i:Nat) (te:TE) (ti:TIp):TS:=fun D σ H=>∃ x,σ[i]?=some (some x)/\te σ H fun y H1=>ti x y H1 fun z H2=>D.nx (σ.set i (some z)) H2
def HH (to ti te:TE) (tget:V->V->Hp->VK->Prop) (tip:TIp) (tset:CT):TS:=fun D σ H=>to σ H fun o H1=>ti σ H1 fun i H2=>tget o i H2 fun x H3=>te σ H3 fun y H4=>tip x y H4 fun z H5=>tset o i z H5 fun H6=>D.nx σ H6
def ipI (f:Int->Int->Int):TIp:=fun x y H Q=>∃ i j,x=.int i/\y=.int j/\Q (.int (f i j)) H
end
section
variable {X:Cx} {pos:Pos}
def EZ (c:TT) (tb:TS):TS:=fun D σ H=>∃ W:Nat->St->Hp->Prop,(∃ m,W m σ H)/\∀ m σ H,W m σ H ->
 c σ H fun b H1=>if b=true then ∃ N:St->Hp->Prop,(∀ σ' H',N σ' H'->∃ m',m'<m/\W m' σ' H')/\tb { D with nx:=N,ct:=N,bk:=D.nx } σ H1 else D.nx σ H1
theorem Be {c:Expr} {body:List Stmt} {tc:TT} {tb:TS} (hp:PassesOwn (model X.prog X.w) X.A X.env X.xe) (hc:PT X c tc) (hb:PSs X body tb):PS X (.While c body [] pos) (EZ tc tb):=by
 intro pins s σ H D I h;obtain ⟨W,⟨m0,w0⟩,turn⟩:=h;refine wpAny_While (codeAny_whileLoop (fun n s'=>∃ σ' H',Inv X pins σ' H' s'/\W n σ' H') ?_ m0 ⟨σ,H,I,w0⟩);rintro n s1 ⟨σ1,H1,I1,w1⟩;refine wpAny_passesOwn hp (qQ (hc pins s1 σ1 H1 _ I1 (turn n σ1 H1 w1)) fun b s2 H2 I2 q2=>?_);cases b with
 | true =>
   obtain ⟨N,hN,q2⟩:=q2;rw [if_pos rfl];refine wpAny_passesOwn hp (thn (hb pins s2 σ1 H2 _ I2 q2) fun f s3 q3=>?_);cases f with
   | next =>
     obtain ⟨σ3,H3,I3,n3⟩:=q3;obtain ⟨m',hm,w3⟩:=hN σ3 H3 n3;exact ⟨m',hm,σ3,H3,I3,w3⟩
   | cont =>
     obtain ⟨σ3,H3,I3,n3⟩:=q3;obtain ⟨m',hm,w3⟩:=hN σ3 H3 n3;exact ⟨m',hm,σ3,H3,I3,w3⟩
   | brk=>exact q3
   | ret v=>exact q3
 | false =>
   rw [if_neg Bool.false_ne_true];exact wpAny_execs_nil ⟨σ1,H2,I2,q2⟩
end
structure It where
 go:Nat->Hp->Prop
 yld:Nat->Hp->V->Hp->Prop
 stop:Nat->Hp->Prop
def kd (X:Cx) (pins:List (Addr × Obj)) (H:Hp) (b:Addr):Prop :=
 H b=none/\b≠X.env.locals/\b ∉ X.fs/\(b∈X.ex\/X.s₀.heap.objs.size<=b)/\(∀ x c,X.env.cells.lookup x=some c->c≠b)/\∀ p∈X.pn++pins,p.1≠b
theorem Inv.fpOk {X:Cx} {pins:List (Addr × Obj)} {σ:St} {H H':Hp} {s:Shared} {b:Addr} (I:Inv X pins σ H s) (hb:s.heap.objs.size<=b) (hn:H' b=none):kd X pins H' b:=by
 refine ⟨hn,Nat.ne_of_gt (Nat.lt_of_lt_of_le I.lt hb),I.nofs hb,.inr (Nat.le_trans I.sz hb),fun x c e z=>?_,fun p hp z=>?_⟩
 . obtain ⟨v,q⟩:=I.cell x c e;exact absurd (Nat.lt_of_lt_of_le q.lt (by rw [z];exact hb)) (Nat.lt_irrefl _)
 . exact absurd (Nat.lt_of_lt_of_le (Heap.lt_size (I.pin p hp).1) (by rw [z];exact hb)) (Nat.lt_irrefl _)
structure Turn (P:Program) (w:World) (K:PySem.W.Frag) (tg:Expr) (J:It) (fp:List Addr) (it:Addr) (tn:Nat->Heap->Prop):Prop where
 mem:it∈fp
 obj:∀ i h,tn i h->∀ b∈fp,∃ o,h.get? b=some o/\∀ v,o.data≠.cell v
 keep:∀ i h h',tn i h->(∀ b∈fp,∀ o,h.get? b=some o->h'.get? b=some o)->tn i h'
 item:∀ (X:Cx),X.prog=P->X.w=w->X.K=K->X.calm=true->∀ (i:Nat) (pins:List (Addr × Obj)) (s:Shared) (σ:St) (H:Hp) (E:Value->Shared->Prop),Inv X pins σ H s->(∀ b∈fp,kd X pins H b)->tn i s.heap->J.go i H ->
   wpAny (model P w) X.A (pyNext (.ref it)) (fun r s1=>∃ u,r=some u /\
     wpAny (model P w) X.A (letOwnedTupleGo tg (.ref it) u) (fun _ s2=>∃ x H',Inv X pins σ H' s2/\RelV x u/\J.yld i H x H'/\tn (i+1) s2.heap/\∀ b∈fp,H' b=none) E s1) E s
 done:∀ (X:Cx),X.prog=P->X.w=w->X.K=K->X.calm=true->∀ (i:Nat) (pins:List (Addr × Obj)) (s:Shared) (σ:St) (H:Hp) (E:Value->Shared->Prop),Inv X pins σ H s->(∀ b∈fp,kd X pins H b)->tn i s.heap->J.stop i H ->
   wpAny (model P w) X.A (pyNext (.ref it)) (fun r s1=>r=none/\Inv X pins σ H s1) E s
 self:∀ (A:Around) (i:Nat) (s:Shared) (Q:Value->Shared->Prop) (E:Value->Shared->Prop),tn i s.heap->Q (.ref it) s->wpAny (model P w) A (pyIter (.ref it)) Q E s
abbrev TI:=St->Hp->(It->Hp->Prop)->Prop
def PIE (X:Cx) (pins:List (Addr × Obj)) (σ:St) (tg:Expr) (R:It->Hp->Prop) (itv:Value) (s2:Shared):Prop :=
 ∃ (it:Addr) (fp:List Addr) (tn:Nat->Heap->Prop) (J:It) (H':Hp),itv=.ref it/\Inv X pins σ H' s2/\Turn X.prog X.w X.K tg J fp it tn/\tn 0 s2.heap/\(∀ b∈fp,kd X pins H' b)/\R J H'
def PI (X:Cx) (tg iter:Expr) (wi:TI):Prop :=
 ∀ (pins:List (Addr × Obj)) (s:Shared) (σ:St) (H:Hp) (R:It->Hp->Prop),Inv X pins σ H s->wi σ H R ->
   wpAny (model X.prog X.w) X.A (eval iter X.env) (fun v s1=>wpAny (model X.prog X.w) X.A (pyIter v) (PIE X pins σ tg R) X.xe s1) X.xe s
theorem zX {M:Model} {A:Around} {E:Value->Shared->Prop} {s:Shared} {tg:Expr} {it:Addr} {u:Value} {o:Obj} {n:String} {vs:Array Value} {Q:Unit->Shared->Prop} (ho:s.heap.get? it=some o) (hc:o.cls=.type n) (hd:o.data=.fields vs)
   (hn:["enumerate","zip","dict_itemiterator","dict_reverseitemiterator","odict_iterator","itertools.zip_longest","itertools.pairwise"].contains n=false) (hQ:Q () s):wpAny M A (letOwnedTupleGo tg (.ref it) u) Q E s:=by
 unfold letOwnedTupleGo;cases tg <;> first
   | exact wpAny_pure hQ
   | (cases u <;> first
       | exact wpAny_pure hQ
       | (refine wpAny_bind (wpAny_load ho ?_)
          rw [hc,hd];show wpAny M A (if (["enumerate","zip","dict_itemiterator","dict_reverseitemiterator","odict_iterator","itertools.zip_longest","itertools.pairwise"].contains n && vs[0]? == some (rawInt _))=true then _ else _) Q E s;rw [if_neg (by intro h;rw [hn,Bool.false_and] at h;cases h)];exact wpAny_pure hQ))
def Itl (K:PySem.W.Frag) (a:Addr):It :=
 ⟨fun i H=>∃ xs x,SqL K H a xs/\xs[i]?=some x,fun i H x H'=>H'=H/\∀ xs,SqL K H a xs->xs[i]?=some x,fun i H=>∃ xs,SqL K H a xs/\xs.length<=i⟩
def Itt (K:PySem.W.Frag) (a:Addr):It :=
 ⟨fun i H=>∃ xs x,SqT K H a xs/\xs[i]?=some x,fun i H x H'=>H'=H/\∀ xs,SqT K H a xs->xs[i]?=some x,fun i H=>∃ xs,SqT K H a xs/\xs.length<=i⟩
def Itr (lo:Int) (n:Nat):It:=⟨fun i _=>i<n,fun i H x H'=>H'=H/\x=.int (lo+i),fun i _=>n<=i⟩
theorem EX {P:Program} {w:World} {K:PySem.W.Frag} {tg:Expr} (a it:Addr):Turn P w K tg (Itl K a) [it] it (fun i h=>h.IsListIter it a i) where
 mem:=by simp
 obj:=fun i h st b hb=>by
   have e:b=it:=by simpa using hb
   subst e;obtain ⟨o,e,c,d⟩:=st;exact ⟨o,e,fun v z=>by rw [d] at z;cases z⟩
 keep:=fun i h h' st k=>st.at fun o e=>k it (by simp) o e
 item:=by
   intro X hP hw hK hc i pins s σ H E I hf st hg;subst hP hw hK;obtain ⟨xs,x,hq,hx⟩:=hg;obtain ⟨its,rv,p,hz⟩:=I.list hq;obtain ⟨u,hu,ru⟩:=rv.get hx;obtain ⟨f0,f1,f2,f3,f4,f5⟩:=hf it (by simp);refine wpAny_pyNext_list_item st p.isList (x:=u) (by simpa using hu) fun h' st' sb=>?_;have I1:Inv X pins σ H { s with heap:=h' }:=I.turned (t':=s.toks) (fun b o hb e=>(sb.2 b hb).trans e) f0 f1 f3 f4 f5;obtain ⟨o,e,c,d⟩:=id st';exact ⟨u,rfl,zX (s:={ s with heap:=h' }) e c d (by decide) ⟨x,H,I1,ru,⟨rfl,fun ys hy=>by rw [I.list_inj hy hq];exact hx⟩,st',fun b hb=>(hf b hb).1⟩⟩
 done:=by
   intro X hP hw hK hc i pins s σ H E I hf st hg;subst hP hw hK;obtain ⟨xs,hq,hx⟩:=hg;obtain ⟨its,rv,p,hz⟩:=I.list hq;obtain ⟨f0,f1,f2,f3,f4,f5⟩:=hf it (by simp);have hl:=rv.length;exact wpAny_pyNext_list_end (I.ok.hd hc) st p.isList (by simp;omega) fun h' eb=>⟨rfl,I.turned (t':=s.toks) (fun b o hb e=>eb b o hb e) f0 f1 f3 f4 f5⟩
 self:=fun _ _ _ _ _ st h=>wpAny_pyIter_listiter st h
theorem DJ {P:Program} {w:World} {K:PySem.W.Frag} {tg:Expr} (a it:Addr):Turn P w K tg (Itt K a) [it] it (fun i h=>h.IsTupleIter it a i) where
 mem:=by simp
 obj:=fun i h st b hb=>by
   have e:b=it:=by simpa using hb
   subst e;obtain ⟨o,e,c,d⟩:=st;exact ⟨o,e,fun v z=>by rw [d] at z;cases z⟩
 keep:=fun i h h' st k=>st.at fun o e=>k it (by simp) o e
 item:=by
   intro X hP hw hK hc i pins s σ H E I hf st hg;subst hP hw hK;obtain ⟨xs,x,hq,hx⟩:=hg;obtain ⟨its,rv,p,hz⟩:=I.tuple hq;obtain ⟨u,hu,ru⟩:=rv.get hx;obtain ⟨f0,f1,f2,f3,f4,f5⟩:=hf it (by simp);refine wpAny_pyNext_tuple_item st (show s.heap.IsTuple a its.toArray from p) (x:=u) (by simpa using hu) fun h' st' sb=>?_;have I1:Inv X pins σ H { s with heap:=h' }:=I.turned (t':=s.toks) (fun b o hb e=>(sb.2 b hb).trans e) f0 f1 f3 f4 f5;obtain ⟨o,e,c,d⟩:=id st';exact ⟨u,rfl,zX (s:={ s with heap:=h' }) e c d (by decide) ⟨x,H,I1,ru,⟨rfl,fun ys hy=>by rw [I.tuple_inj hy hq];exact hx⟩,st',fun b hb=>(hf b hb).1⟩⟩
 done:=by
   intro X hP hw hK hc i pins s σ H E I hf st hg;subst hP hw hK;obtain ⟨xs,hq,hx⟩:=hg;obtain ⟨its,rv,p,hz⟩:=I.tuple hq;obtain ⟨f0,f1,f2,f3,f4,f5⟩:=hf it (by simp);have hl:=rv.length;exact wpAny_pyNext_tuple_end (I.ok.hd hc) st (show s.heap.IsTuple a its.toArray from p) (by simp;omega) fun h' eb=>⟨rfl,I.turned (t':=s.toks) (fun b o hb e=>eb b o hb e) f0 f1 f3 f4 f5⟩
 self:=fun _ _ _ _ _ st h=>wpAny_pyIter_tupleiter st h
theorem DQ {P:Program} {w:World} {K:PySem.W.Frag} {tg:Expr} (it:Addr) (lo:Int) (n:Nat):Turn P w K tg (Itr lo n) [it] it (fun i h=>IsRangeIter h it (lo+(i:Nat)*1) ((n:Int) - (i:Nat)) 1) where
 mem:=by simp
 obj:=fun i h st b hb=>by
   have e:b=it:=by simpa using hb
   subst e;exact ⟨_,st,fun v z=>by
     have z':Data.fields _=Data.cell v:=z;cases z'⟩
 keep:=fun i h h' st k=>k it (by simp) _ st
 item:=by
   intro X hP hw hK hc i pins s σ H E I hf st hg;subst hP hw hK;obtain ⟨f0,f1,f2,f3,f4,f5⟩:=hf it (by simp);have W:=Walks.range (prog:=X.prog) (w:=X.w) (I.ok.hd hc) it lo 1 n;refine W.item i s _ _ hg st fun v h' tk hv st' kk=>?_;obtain ⟨t,rfl⟩:=hv;have I1:Inv X pins σ H { s with heap:=h',toks:=tk }:=I.turned (fun b o hb e=>kk b o (by simpa using hb) e) f0 f1 f3 f4 f5;refine ⟨_,rfl,zX (s:={ s with heap:=h',toks:=tk }) (n:="range_iterator") st' rfl rfl (by decide) ⟨.int (lo+i),H,I1,⟨t,?_⟩,⟨rfl,rfl⟩,st',fun b hb=>(hf b hb).1⟩⟩;rw [Int.mul_one]
 done:=by
   intro X hP hw hK hc i pins s σ H E I hf st hg;subst hP hw hK;obtain ⟨f0,f1,f2,f3,f4,f5⟩:=hf it (by simp);exact wpAny_pyNext_range_end (I.ok.hd hc) st (by have:n<=i:=hg;omega) fun h' eb=>⟨rfl,I.turned (t':=s.toks) (fun b o hb e=>eb b o hb e) f0 f1 f3 f4 f5⟩
 self:=fun _ _ _ _ _ st h=>wpAny_pyIter_rangeiter st h
end L2
namespace L2
open PySem PySem.Spec PyProof.Rows
section
variable {X:Cx} {tg:Expr}
def Dy (K:PySem.W.Frag) (tl:TE):TI:=fun σ H R=>tl σ H fun x H1=>∃ a,x=.ref a/\(∃ xs,SqL K H1 a xs)/\R (Itl K a) H1
def FP (K:PySem.W.Frag) (tl:TE):TI:=fun σ H R=>tl σ H fun x H1=>∃ a,x=.ref a/\(∃ xs,SqT K H1 a xs)/\R (Itt K a) H1
theorem fQ {l:Expr} {tl:TE} (hl:PE X l tl):PI X tg l (Dy X.K tl):=by
 intro pins s σ H R I h;refine bh (hl pins s σ H _ I h) fun v s1 x H1 I1 r1 q1=>?_;obtain ⟨a,e,⟨xs,hq⟩,q⟩:=q1;subst e;cases r1;obtain ⟨its,rv,p,hz⟩:=I1.list hq;refine wpAny_pyIter_list p.isList ?_;refine ⟨s1.heap.objs.size,[s1.heap.objs.size],_,_,H1,rfl,I1.kept (t':=s1.toks) fun b o e=>Heap.get?_push_of_some _ e,EX a _,⟨_,Heap.get?_push_size _ rfl,rfl,rfl⟩,fun b hb=>?_,q⟩;have e:b=s1.heap.objs.size:=by simpa using hb
 subst e;exact I1.fpOk (Nat.le_refl _) (I1.hok.fresh (Nat.le_refl _))
theorem tX {l:Expr} {tl:TE} (hl:PE X l tl):PI X tg l (FP X.K tl):=by
 intro pins s σ H R I h;refine bh (hl pins s σ H _ I h) fun v s1 x H1 I1 r1 q1=>?_;obtain ⟨a,e,⟨xs,hq⟩,q⟩:=q1;subst e;cases r1;obtain ⟨its,rv,p,hz⟩:=I1.tuple hq;refine wpAny_pyIter_tuple (show s1.heap.IsTuple a its.toArray from p) ?_;refine ⟨s1.heap.objs.size,[s1.heap.objs.size],_,_,H1,rfl,I1.kept (t':=s1.toks) fun b o e=>Heap.get?_push_of_some _ e,DJ a _,⟨_,Heap.get?_push_size _ rfl,rfl,rfl⟩,fun b hb=>?_,q⟩;have e:b=s1.heap.objs.size:=by simpa using hb
 subst e;exact I1.fpOk (Nat.le_refl _) (I1.hok.fresh (Nat.le_refl _))
theorem Ap {pins:List (Addr × Obj)} {σ:St} {H:Hp} {s:Shared} {R:It->Hp->Prop} {E:Value->Shared->Prop} {lo hi:Int} {t u v:Tok} {tk:Nat} (I:Inv X pins σ H s) (h1:-(2^62)<=lo) (h2:lo<2^62) (h3:-(2^62)<=hi) (h4:hi<2^62)
   (q:R (Itr lo (hi - lo).toNat) H):wpAny (model X.prog X.w) X.A (pyIter (.ref s.heap.objs.size)) (PIE X pins σ tg R) E { s with heap:=s.heap.push { cls:=.type "range",data:=.fields #[.int lo t,.int hi u,.int 1 v] },toks:=tk }:=by
 refine wpAny_pyIter_range (IsRange.new ..) (small_one h1 h2 h3 h4) ?_;have I1:Inv X pins σ H { s with heap:=s.heap.push { cls:=.type "range",data:=.fields #[.int lo t,.int hi u,.int 1 v] },toks:=tk }:=I.kept fun b o e=>Heap.get?_push_of_some _ e;refine ⟨(s.heap.push { cls:=.type "range",data:=.fields #[.int lo t,.int hi u,.int 1 v] }).objs.size,[(s.heap.push { cls:=.type "range",data:=.fields #[.int lo t,.int hi u,.int 1 v] }).objs.size],_,_,H,rfl,
   I1.kept (t':=tk) fun b o e=>Heap.get?_push_of_some _ e,DQ _ lo (hi - lo).toNat,?_,fun b hb=>?_,q⟩
 . have e1:lo+((0:Nat):Int)*1=lo:=by simp
   have e2:(((hi - lo).toNat:Nat):Int) - ((0:Nat):Int)=Builtin.Range.rangeSize lo hi 1:=by rw [rangeSize_one];split <;> omega
   show IsRangeIter _ _ (lo+((0:Nat):Int)*1) ((((hi - lo).toNat:Nat):Int) - ((0:Nat):Int)) 1;rw [e1,e2];exact Heap.get?_push_size _ rfl
 . have e:b=(s.heap.push { cls:=.type "range",data:=.fields #[.int lo t,.int hi u,.int 1 v] }).objs.size:=by simpa using hb
   subst e;exact I1.fpOk (Nat.le_refl _) (I1.hok.fresh (Nat.le_refl _))
def DH (ta:TA):TI:=fun σ H R=>ta σ H fun vs H1=>∃ j:Int,vs=[.int j]/\-(2^62)<=j/\j<2^62/\R (Itr 0 j.toNat) H1
def DC (ta:TA):TI:=fun σ H R=>ta σ H fun vs H1=>∃ i j:Int,vs=[.int i,.int j]/\(-(2^62)<=i/\i<2^62/\-(2^62)<=j/\j<2^62)/\R (Itr i (j - i).toNat) H1
theorem yU {a:Expr} {ta:TA} {p pos:Pos} (hg:Gl X "range") (hm:X.mg "range"=none) (ha:PA X [a] ta) (hs:starEach [a] X.env=[(false,eval a X.env)]:=by rfl):PI X tg (.Call (.Name "range" p) [a] [] pos) (DH ta):=by
 intro pins s σ H R I h;refine Call_ (pN I hg hm boot_range (PyProof.Rows.callWith_type1 (rC (ha pos pins s σ H _ I h) fun us s1 vs H1 I1 r1 q1=>?_) hs rfl));obtain ⟨j,e,q1,q2,q⟩:=q1;subst e;cases r1 with
 | cons r rr =>
   cases rr;obtain ⟨t,rfl⟩:=r;exact call_range_1 (Ap I1 (by omega) (by omega) q1 q2 (by simpa using q))
theorem tM {a b:Expr} {ta:TA} {p pos:Pos} (hg:Gl X "range") (hm:X.mg "range"=none) (ha:PA X [a,b] ta) (hs:starEach [a,b] X.env=[(false,eval a X.env),(false,eval b X.env)]:=by rfl) (hs2:starEach [b] X.env=[(false,eval b X.env)]:=by rfl) :
   PI X tg (.Call (.Name "range" p) [a,b] [] pos) (DC ta):=by
 intro pins s σ H R I h;refine Call_ (pN I hg hm boot_range (PyProof.Rows.callWith_type1 (rC (ha pos pins s σ H _ I h) fun us s1 vs H1 I1 r1 q1=>?_) (by rw [hs,hs2]) (by rw [hs2];rfl)));obtain ⟨i,j,e,⟨q1,q2,q3,q4⟩,q⟩:=q1;subst e;cases r1 with
 | cons r rr =>
   cases rr with
   | cons r' rr =>
     cases rr;obtain ⟨t,rfl⟩:=r;obtain ⟨t',rfl⟩:=r';exact call_range_2 (Ap I1 q1 q2 q3 q4 q)
def JZ (wi:TI) (g:TG) (tb:TS):TS:=fun D σ H=>wi σ H fun J H1=>∃ W:Nat->Nat->St->Hp->Prop,(∃ m,W 0 m σ H1)/\∀ i m σ H,W i m σ H ->
 (J.stop i H/\D.nx σ H)\/(J.go i H/\∃ N:St->Hp->Prop,(∀ σ' H',N σ' H'->∃ m',m'<m/\W (i+1) m' σ' H')/\∀ x H',J.yld i H x H'->g x σ H' fun σ2 H2=>tb { D with nx:=N,ct:=N,bk:=D.nx } σ2 H2)
def fT (fp:List Addr) (h:Heap):List (Addr × Obj):=fp.filterMap fun b=>(h.get? b).map fun o=>(b,o)
theorem cQ {fp:List Addr} {h:Heap} {b:Addr} {o:Obj} (hb:b∈fp) (e:h.get? b=some o):(b,o)∈fT fp h:=List.mem_filterMap.mpr ⟨b,hb,by rw [e];rfl⟩
theorem Eo {fp:List Addr} {h:Heap} {p:Addr × Obj} (hp:p∈fT fp h):p.1∈fp/\h.get? p.1=some p.2:=by
 obtain ⟨b,hb,e⟩:=List.mem_filterMap.mp hp;cases q:h.get? b with
 | none=>rw [q] at e;cases e
 | some o =>
   rw [q] at e;have e':(b,o)=p:=Option.some.inj e;subst e';exact ⟨hb,q⟩
theorem Inv.pinned {pins:List (Addr × Obj)} {σ:St} {H:Hp} {s:Shared} {fp:List Addr} (I:Inv X pins σ H s) (hf:∀ b∈fp,kd X pins H b) (ho:∀ b∈fp,∃ o,s.heap.get? b=some o/\∀ v,o.data≠.cell v):Inv X (pins++fT fp s.heap) σ H s :=
 I.pins_of fun p hp=>(List.mem_append.mp hp).elim (fun z=>I.pin p (List.mem_append_right _ z)) fun z=>by
   obtain ⟨hb,e⟩:=Eo z;obtain ⟨f0,f1,f2,_⟩:=hf p.1 hb;obtain ⟨o,e',d⟩:=ho p.1 hb;rw [e] at e';cases e';exact ⟨e,f0,f1,f2,d⟩
theorem Inv.unpinned {pins pl:List (Addr × Obj)} {σ:St} {H:Hp} {s:Shared} (I:Inv X (pins++pl) σ H s):Inv X pins σ H s:=I.pins_of fun p hp=>I.pin p (List.mem_append_right _ (List.mem_append_left _ hp))
theorem e9 {iter:Expr} {body:List Stmt} {wi:TI} {g:TG} {tb:TS} {pos:Pos} (hp:PassesOwn (model X.prog X.w) X.A X.env X.xe) (hc:X.calm=true) (hi:PI X tg iter wi) (hg:PG X tg g) (hb:PSs X body tb)
   (hs:∀ x,foldedSetIterable iter X.env x=pure x:=by intro _;rfl):PS X (.For tg iter body [] pos) (JZ wi g tb):=by
 intro pins s σ H D I h;refine wpAny_For (thn (hi pins s σ H _ I h) fun v s1 h1=>thn h1 fun itv s2 h2=>?_) hs;obtain ⟨it,fp,tn,J,H2,e,I2,T,st2,f2,W,⟨m0,w0⟩,turn⟩:=h2;subst e;have stat:∀ {H':Hp},(∀ b∈fp,H' b=none)->∀ b∈fp,kd X pins H' b:=fun hn b hb=>⟨hn b hb,(f2 b hb).2⟩;refine codeAny_forLoop_any (fun n s'=>∃ i σ' H',Inv X pins σ' H' s'/\tn i s'.heap/\(∀ b∈fp,H' b=none)/\W i n σ' H') ?_ m0 ⟨0,σ,H2,I2,st2,fun b hb=>(f2 b hb).1,w0⟩;rintro n s3 ⟨i,σ3,H3,I3,st3,fr3,w3⟩;rcases turn i n σ3 H3 w3 with ⟨stop,qn⟩|⟨go,N,hN,step⟩
 . refine wpAny_passesOwn hp (thn (T.done X rfl rfl rfl hc i pins s3 σ3 H3 X.xe I3 (stat fr3) st3 stop) fun r s4 ⟨hr,I4⟩=>?_);subst hr;exact wpAny_execs_nil ⟨σ3,H3,I4,qn⟩
 . refine wpAny_passesOwn hp (thn (T.item X rfl rfl rfl hc i pins s3 σ3 H3 X.xe I3 (stat fr3) st3 go) fun r s4 ⟨u,hr,h4⟩=>?_);subst hr;refine wpAny_passesOwn hp (thn h4 fun _ s5 ⟨x,H5,I5,r5,y5,st5,fr5⟩=>?_);have I5':=I5.pinned (stat fr5) (T.obj _ _ st5);refine wpAny_passesOwn hp (thn (hg _ s5 σ3 H5 x u _ I5' r5 (step x H5 y5)) fun _ s6 ⟨σ6,H6,I6,q6⟩=>?_);refine wpAny_passesOwn hp (thn (hb _ s6 σ6 H6 _ I6 q6) fun f s7 q7=>?_);have again:∀ {σ7:St} {H7:Hp},Inv X (pins++fT fp s5.heap) σ7 H7 s7->N σ7 H7->∃ m,m<n/\∃ i σ' H',Inv X pins σ' H' s7/\tn i s7.heap/\(∀ b∈fp,H' b=none)/\W i m σ' H':=fun {σ7 H7} I7 n7=>by
     obtain ⟨m',hm,w7⟩:=hN σ7 H7 n7;refine ⟨m',hm,i+1,σ7,H7,I7.unpinned,T.keep _ _ _ st5 fun b hb o e=>(I7.pin (b,o) (List.mem_append_right _ (List.mem_append_right _ (cQ hb e)))).1,fun b hb=>?_,w7⟩;obtain ⟨o,e,d⟩:=T.obj _ _ st5 b hb;exact (I7.pin (b,o) (List.mem_append_right _ (List.mem_append_right _ (cQ hb e)))).2.1
   cases f with
   | next=>obtain ⟨σ7,H7,I7,n7⟩:=q7;exact again I7 n7
   | cont=>obtain ⟨σ7,H7,I7,n7⟩:=q7;exact again I7 n7
   | brk=>obtain ⟨σ7,H7,I7,q7⟩:=q7;exact ⟨σ7,H7,I7.unpinned,q7⟩
   | ret v=>obtain ⟨x7,σ7,H7,I7,r7,q7⟩:=q7;exact ⟨x7,σ7,H7,I7.unpinned,r7,q7⟩
end
theorem FY {K:PySem.W.Frag} {a:Addr} {xs:List V} {g:TG} {tb:TS} {D:Ends} {σ:St} {H:Hp} (Pv:Nat->St->Hp->Prop) (h0:Pv 0 σ H) (hl:∀ i σ H,i<=xs.length->Pv i σ H->SqL K H a xs)
   (hs:∀ i x σ H,xs[i]?=some x->Pv i σ H->g x σ H fun σ2 H2=>tb { D with nx:=Pv (i+1),ct:=Pv (i+1),bk:=D.nx } σ2 H2) (hd:∀ σ H,Pv xs.length σ H->D.nx σ H) :
   ∃ W:Nat->Nat->St->Hp->Prop,(∃ m,W 0 m σ H)/\∀ i m σ H,W i m σ H ->
     ((Itl K a).stop i H/\D.nx σ H)\/((Itl K a).go i H/\∃ N:St->Hp->Prop,(∀ σ' H',N σ' H'->∃ m',m'<m/\W (i+1) m' σ' H')/\∀ x H',(Itl K a).yld i H x H'->g x σ H' fun σ2 H2=>tb { D with nx:=N,ct:=N,bk:=D.nx } σ2 H2):=by
 refine ⟨fun i m σ H=>m=xs.length - i/\i<=xs.length/\Pv i σ H,⟨xs.length,by simp,Nat.zero_le _,h0⟩,?_⟩;rintro i m σ H ⟨rfl,hi,p⟩;have q:=hl i σ H hi p;by_cases hlt:i<xs.length
 . refine .inr ⟨⟨xs,xs[i],q,by simp [hlt]⟩,Pv (i+1),fun σ' H' p'=>⟨xs.length - (i+1),by omega,rfl,hlt,p'⟩,fun x H' y=>?_⟩;obtain ⟨e,y⟩:=y;subst e;exact hs i x σ _ (y xs q) p
 . have e:i=xs.length:=by omega
   subst e;exact .inl ⟨⟨xs,q,Nat.le_refl _⟩,hd σ H p⟩
theorem Cu {K:PySem.W.Frag} {a:Addr} {xs:List V} {g:TG} {tb:TS} {D:Ends} {σ:St} {H:Hp} (Pv:Nat->St->Hp->Prop) (h0:Pv 0 σ H) (hl:∀ i σ H,i<=xs.length->Pv i σ H->SqT K H a xs)
   (hs:∀ i x σ H,xs[i]?=some x->Pv i σ H->g x σ H fun σ2 H2=>tb { D with nx:=Pv (i+1),ct:=Pv (i+1),bk:=D.nx } σ2 H2) (hd:∀ σ H,Pv xs.length σ H->D.nx σ H) :
   ∃ W:Nat->Nat->St->Hp->Prop,(∃ m,W 0 m σ H)/\∀ i m σ H,W i m σ H ->
     ((Itt K a).stop i H/\D.nx σ H)\/((Itt K a).go i H/\∃ N:St->Hp->Prop,(∀ σ' H',N σ' H'->∃ m',m'<m/\W (i+1) m' σ' H')/\∀ x H',(Itt K a).yld i H x H'->g x σ H' fun σ2 H2=>tb { D with nx:=N,ct:=N,bk:=D.nx } σ2 H2):=by
 refine ⟨fun i m σ H=>m=xs.length - i/\i<=xs.length/\Pv i σ H,⟨xs.length,by simp,Nat.zero_le _,h0⟩,?_⟩;rintro i m σ H ⟨rfl,hi,p⟩;have q:=hl i σ H hi p;by_cases hlt:i<xs.length
 . refine .inr ⟨⟨xs,xs[i],q,by simp [hlt]⟩,Pv (i+1),fun σ' H' p'=>⟨xs.length - (i+1),by omega,rfl,hlt,p'⟩,fun x H' y=>?_⟩;obtain ⟨e,y⟩:=y;subst e;exact hs i x σ _ (y xs q) p
 . have e:i=xs.length:=by omega
   subst e;exact .inl ⟨⟨xs,q,Nat.le_refl _⟩,hd σ H p⟩
theorem Ee {lo:Int} {n:Nat} {g:TG} {tb:TS} {D:Ends} {σ:St} {H:Hp} (Pv:Nat->St->Hp->Prop) (h0:Pv 0 σ H)
   (hs:∀ i σ H,i<n->Pv i σ H->g (.int (lo+i)) σ H fun σ2 H2=>tb { D with nx:=Pv (i+1),ct:=Pv (i+1),bk:=D.nx } σ2 H2) (hd:∀ σ H,Pv n σ H->D.nx σ H) :
   ∃ W:Nat->Nat->St->Hp->Prop,(∃ m,W 0 m σ H)/\∀ i m σ H,W i m σ H ->
     ((Itr lo n).stop i H/\D.nx σ H)\/((Itr lo n).go i H/\∃ N:St->Hp->Prop,(∀ σ' H',N σ' H'->∃ m',m'<m/\W (i+1) m' σ' H')/\∀ x H',(Itr lo n).yld i H x H'->g x σ H' fun σ2 H2=>tb { D with nx:=N,ct:=N,bk:=D.nx } σ2 H2):=by
 refine ⟨fun i m σ H=>m=n - i/\i<=n/\Pv i σ H,⟨n,by simp,Nat.zero_le _,h0⟩,?_⟩;rintro i m σ H ⟨rfl,hi,p⟩;by_cases hlt:i<n
 . refine .inr ⟨hlt,Pv (i+1),fun σ' H' p'=>⟨n - (i+1),by omega,rfl,hlt,p'⟩,fun x H' y=>?_⟩;obtain ⟨e,y⟩:=y;subst e y;exact hs i σ _ hlt p
 . have e:i=n:=by omega
   subst e;exact .inl ⟨Nat.le_refl _,hd σ H p⟩
end L2
namespace L2
open PySem PySem.Spec PyProof.Rows
abbrev R2:=V->V->Hp->VK->Prop
def OpR (X:Cx) (f:Value->Value->Sem Value) (r:R2):Prop :=
 ∀ (pins:List (Addr × Obj)) (s:Shared) (σ:St) (H:Hp) (x y:V) (v u:Value) (Q:VK),Inv X pins σ H s->RelV x v->RelV y u->r x y H Q ->
   wpAny (model X.prog X.w) X.A (f v u) (EP X pins σ Q) X.xe s
def UnR (X:Cx) (f:Value->Sem Value) (r:V->Hp->VK->Prop):Prop :=
 ∀ (pins:List (Addr × Obj)) (s:Shared) (σ:St) (H:Hp) (x:V) (v:Value) (Q:VK),Inv X pins σ H s->RelV x v->r x H Q ->
   wpAny (model X.prog X.w) X.A (f v) (EP X pins σ Q) X.xe s
def dI (X:Cx) (f:Value) (r:List V->Hp->VK->Prop):Prop :=
 ∀ (pins:List (Addr × Obj)) (s:Shared) (σ:St) (H:Hp) (xs:List V) (us:List Value) (Q:VK),Inv X pins σ H s->Vals xs us->r xs H Q ->
   wpAny (model X.prog X.w) X.A (call f us) (EP X pins σ Q) X.xe s
def KD (X:Cx) (r:V->Hp->(Bool->Hp->Prop)->Prop):Prop :=
 ∀ (pins:List (Addr × Obj)) (s:Shared) (σ:St) (H:Hp) (x:V) (v:Value) (Q:Bool->Hp->Prop),Inv X pins σ H s->RelV x v->r x H Q ->
   wpAny (model X.prog X.w) X.A (truthy v) (TP X pins σ Q) X.xe s
def tOp (r:R2) (ta tb:TE):TE:=fun σ H Q=>ta σ H fun x H1=>tb σ H1 fun y H2=>r x y H2 Q
def tUn (r:V->Hp->VK->Prop) (ta:TE):TE:=fun σ H Q=>ta σ H fun x H1=>r x H1 Q
def rI (C:Int->Int->Prop) (g:Int->Int->V):R2:=fun x y H Q=>∃ i j,x=.int i/\y=.int j/\C i j/\Q (g i j) H
def rI0 (g:Int->Int->V):R2:=fun x y H Q=>∃ i j,x=.int i/\y=.int j/\Q (g i j) H
def rU (g:Int->V):V->Hp->VK->Prop:=fun x H Q=>∃ i,x=.int i/\Q (g i) H
section
variable {X:Cx} {a b c:Expr} {ta tb tc:TE} {pos:Pos}
theorem FI (ha:PE X a ta) (hb:PE X b tb) {pins:List (Addr × Obj)} {s:Shared} {σ:St} {H:Hp} {R:V->V->Hp->Prop} (I:Inv X pins σ H s)
   (h:ta σ H fun x H1=>tb σ H1 fun y H2=>R x y H2) {Q:Value->Shared->Prop} {f:Value->Value->Sem Value}
   (hf:∀ v u s2 x y H2,Inv X pins σ H2 s2->RelV x v->RelV y u->R x y H2->wpAny (model X.prog X.w) X.A (f v u) Q X.xe s2) :
   wpAny (model X.prog X.w) X.A (eval a X.env) (fun v s₁=>wpAny (model X.prog X.w) X.A (eval b X.env) (fun u s₂=>wpAny (model X.prog X.w) X.A (f v u) Q X.xe s₂) X.xe s₁) X.xe s:=by
 refine bh (ha pins s σ H _ I h) fun v s1 x H1 I1 r1 q1=>?_;refine bh (hb pins s1 σ H1 _ I1 q1) fun u s2 y H2 I2 r2 q2=>?_;exact hf v u s2 x y H2 I2 r1 r2 q2
theorem ak {op:Operator} {r:R2} (ho:OpR X (binaryOp op) r) (ha:PE X a ta) (hb:PE X b tb):PE X (.BinOp a op b pos) (tOp r ta tb):=by
 intro pins s σ H Q I h;exact wpAny_BinOp (FI ha hb I h fun v u s2 x y H2 I2 rx ry q=>ho pins s2 σ H2 x y v u Q I2 rx ry q)
theorem Km {op:UnaryOp} {r:V->Hp->VK->Prop} (ho:UnR X (unaryOp op) r) (ha:PE X a ta):PE X (.UnaryOp op a pos) (tUn r ta):=by
 intro pins s σ H Q I h;exact UnaryOp_ (bh (ha pins s σ H _ I h) fun v s1 x H1 I1 r1 q1=>ho pins s1 σ H1 x v Q I1 r1 q1)
theorem opI {f:Value->Value->Sem Value} {C:Int->Int->Prop} {g:Int->Int->Int}
   (rule:∀ (i j:Int) (t u:Tok) (s:Shared) (Q:Value->Shared->Prop) (E:Value->Shared->Prop),C i j->Q (.int (g i j) s.toks) { s with toks:=s.toks+1 }->wpAny (model X.prog X.w) X.A (f (.int i t) (.int j u)) Q E s) :
   OpR X f (rI C fun i j=>.int (g i j)):=by
 intro pins s σ H x y v u Q I rx ry h;obtain ⟨i,j,rfl,rfl,hc,q⟩:=h;obtain ⟨t,rfl⟩:=rx;obtain ⟨t',rfl⟩:=ry;exact rule i j t t' s _ _ hc ⟨.int (g i j),H,I.tok _,⟨_,rfl⟩,q⟩
theorem Jz {f:Value->Value->Sem Value} {g:Int->Int->Int}
   (rule:∀ (i j:Int) (t u:Tok) (s:Shared) (Q:Value->Shared->Prop) (E:Value->Shared->Prop),Q (.int (g i j) s.toks) { s with toks:=s.toks+1 }->wpAny (model X.prog X.w) X.A (f (.int i t) (.int j u)) Q E s) :
   OpR X f (rI0 fun i j=>.int (g i j)):=by
 intro pins s σ H x y v u Q I rx ry h;obtain ⟨i,j,rfl,rfl,q⟩:=h;obtain ⟨t,rfl⟩:=rx;obtain ⟨t',rfl⟩:=ry;exact rule i j t t' s _ _ ⟨.int (g i j),H,I.tok _,⟨_,rfl⟩,q⟩
theorem DK {f:Value->Value->Sem Value} {g:Int->Int->Bool}
   (rule:∀ (i j:Int) (t u:Tok) (s:Shared) (Q:Value->Shared->Prop) (E:Value->Shared->Prop),Q (.bool (g i j)) s->wpAny (model X.prog X.w) X.A (f (.int i t) (.int j u)) Q E s) :
   OpR X f (rI0 fun i j=>.bl (g i j)):=by
 intro pins s σ H x y v u Q I rx ry h;obtain ⟨i,j,rfl,rfl,q⟩:=h;obtain ⟨t,rfl⟩:=rx;obtain ⟨t',rfl⟩:=ry;exact rule i j t t' s _ _ ⟨.bl (g i j),H,I,rfl,q⟩
def Jy (i j:Int):Prop:=0<j/\j<1073741824
def Jc (i j:Int):Prop:=0<=j/\j<=1000000/\i.natAbs<2^64
def CMul (i j:Int):Prop:=(-(2^64)<i/\i<2^64)\/(-(2^64)<j/\j<2^64)
theorem CMul.ok {i j:Int} (h:CMul i j):IntMulOk i j:=by
 rcases h with ⟨h1,h2⟩|⟨h1,h2⟩
 . exact .of_left (intBits_le_64 h1 h2)
 . exact .of_right (intBits_le_64 h1 h2)
theorem bP:OpR X (binaryOp .Add) (rI0 fun i j=>.int (i+j)):=Jz fun _ _ _ _ _ _ _ q=>add_int q
theorem uy:OpR X (binaryOp .Sub) (rI0 fun i j=>.int (i - j)):=Jz fun _ _ _ _ _ _ _ q=>sub_int q
theorem lM:OpR X (binaryOp .Mult) (rI CMul fun i j=>.int (i*j)):=opI fun _ _ _ _ _ _ _ hc q=>mul_int q hc.ok
theorem bL:OpR X (binaryOp .FloorDiv) (rI Jy fun i j=>.int (i / j)):=opI fun i j _ _ _ _ _ hc q=>by
 have h1:(0:Int)<j:=hc.1;have h2:j<1073741824:=hc.2;exact floordiv_int (by omega) (by rw [Int.fdiv_eq_ediv_of_nonneg i (by omega)];exact q) (.inl (PyProof.noPylong_small (by omega)))
theorem aL:OpR X (binaryOp .Mod) (rI (fun _ j=>0<j) fun i j=>.int (i % j)):=opI fun i j _ _ _ _ _ hc q=>by
 have h1:(0:Int)<j:=hc;exact mod_int' (by omega) (by rw [Int.fmod_eq_emod_of_nonneg i (by omega)];exact q)
theorem vS:OpR X (binaryOp .Pow) (rI Jc fun i j=>.int (i^j.toNat)):=opI fun _ _ _ _ _ _ _ hc q=>pow_int_small hc.1 hc.2.1 hc.2.2 q
theorem unI {f:Value->Sem Value} {g:Int->Int}
   (rule:∀ (i:Int) (t:Tok) (s:Shared) (Q:Value->Shared->Prop) (E:Value->Shared->Prop),Q (.int (g i) s.toks) { s with toks:=s.toks+1 }->wpAny (model X.prog X.w) X.A (f (.int i t)) Q E s) :
   UnR X f (rU fun i=>.int (g i)):=by
 intro pins s σ H x v Q I rx h;obtain ⟨i,rfl,q⟩:=h;obtain ⟨t,rfl⟩:=rx;exact rule i t s _ _ ⟨.int (g i),H,I.tok _,⟨_,rfl⟩,q⟩
theorem JV:UnR X (unaryOp .USub) (rU fun i=>.int (-i)):=unI fun _ _ _ _ _ q=>neg_int q
end
def tN:V->V->Bool
 | .non,.non=>true|.non,.int _=>true|.int _,.non=>true|.non,.bl _=>true|.bl _,.non=>true|.non,.str _=>true|.str _,.non=>true
 | .int _,.int _=>true|.bl _,.bl _=>true|.str _,.str _=>true|.byt _,.byt _=>true
 | .int _,.str _=>true|.str _,.int _=>true|.bl _,.str _=>true|.str _,.bl _=>true
 | _,_=>false
def rEq:R2:=fun x y H Q=>tN x y=true/\Q (.bl (decide (x=y))) H
def rNe:R2:=fun x y H Q=>tN x y=true/\Q (.bl (!decide (x=y))) H
theorem CJ {i j:Int}:decide (V.int i=V.int j)=(i == j):=by
 rw [Bool.eq_iff_iff];simp
theorem Ec {i j:Bool}:decide (V.bl i=V.bl j)=(i == j):=by
 rw [Bool.eq_iff_iff];simp
theorem Cq {i j:Str}:decide (V.str i=V.str j)=(i == j):=by
 rw [Bool.eq_iff_iff];simp
theorem CG {i j:Array UInt8}:decide (V.byt i=V.byt j)=(i.toList == j.toList):=by
 rw [Bool.eq_iff_iff];cases i;cases j;simp
section
variable {X:Cx} {a b c:Expr} {ta tb tc:TE} {pos:Pos}
theorem bu {pins:List (Addr × Obj)} {σ:St} {H:Hp} {s:Shared} {Q:VK} {k k':Bool} (I:Inv X pins σ H s) (q:Q (.bl k) H) (e:k=k'):EP X pins σ Q (.bool k') s:=by
 subst e;exact ⟨.bl k,H,I,rfl,q⟩
theorem cA:OpR X (compareOp .Eq) rEq:=by
 intro pins s σ H x y v u Q I rx ry h;obtain ⟨hs,q⟩:=h;cases x with
 | non =>
   cases rx;cases y with
   | non=>cases ry;exact PySem.EqNone.eq_none_none (bu I q (by simp))
   | bl j=>cases ry;exact PySem.EqNone.eq_none_bool (bu I q (by simp))
   | int j=>obtain ⟨t',rfl⟩:=ry;exact PySem.EqNone.eq_none_int (bu I q (by simp))
   | str j=>obtain ⟨t',rfl⟩:=ry;exact PySem.EqNone.eq_none_str (bu I q (by simp))
   | _=>exact absurd (show false=true from hs) Bool.false_ne_true
 | bl i =>
   cases rx;cases y with
   | non=>cases ry;exact PySem.EqNone.eq_bool_none (bu I q (by simp))
   | bl j=>cases ry;exact eq_bool (bu I q Ec)
   | str j=>obtain ⟨t',rfl⟩:=ry;exact PySem.EqMixed.eq_bool_str (bu I q (by simp))
   | _=>exact absurd (show false=true from hs) Bool.false_ne_true
 | int i =>
   obtain ⟨t,rfl⟩:=rx;cases y with
   | non=>cases ry;exact PySem.EqNone.eq_int_none (bu I q (by simp))
   | int j=>obtain ⟨t',rfl⟩:=ry;exact eq_int (bu I q CJ)
   | str j=>obtain ⟨t',rfl⟩:=ry;exact PySem.EqMixed.eq_int_str (bu I q (by simp))
   | _=>exact absurd (show false=true from hs) Bool.false_ne_true
 | str i =>
   obtain ⟨t,rfl⟩:=rx;cases y with
   | non=>cases ry;exact PySem.EqNone.eq_str_none (bu I q (by simp))
   | bl j=>cases ry;exact PySem.EqMixed.eq_str_bool (bu I q (by simp))
   | int j=>obtain ⟨t',rfl⟩:=ry;exact PySem.EqMixed.eq_str_int (bu I q (by simp))
   | str j=>obtain ⟨t',rfl⟩:=ry;exact eq_str (bu I q Cq)
   | _=>exact absurd (show false=true from hs) Bool.false_ne_true
 | byt i =>
   obtain ⟨t,rfl⟩:=rx;cases y with
   | byt j=>obtain ⟨t',rfl⟩:=ry;exact PySem.W.eq_bytes (bu I q CG)
   | _=>exact absurd (show false=true from hs) Bool.false_ne_true
 | _=>cases y <;> exact absurd (show false=true from hs) Bool.false_ne_true
theorem gb:OpR X (compareOp .NotEq) rNe:=by
 intro pins s σ H x y v u Q I rx ry h;obtain ⟨hs,q⟩:=h;cases x with
 | non =>
   cases rx;cases y with
   | non=>cases ry;exact PySem.EqNone.ne_none_none (bu I q (by simp))
   | bl j=>cases ry;exact PySem.EqNone.ne_none_bool (bu I q (by simp))
   | int j=>obtain ⟨t',rfl⟩:=ry;exact PySem.EqNone.ne_none_int (bu I q (by simp))
   | str j=>obtain ⟨t',rfl⟩:=ry;exact PySem.EqNone.ne_none_str (bu I q (by simp))
   | _=>exact absurd (show false=true from hs) Bool.false_ne_true
 | bl i =>
   cases rx;cases y with
   | non=>cases ry;exact PySem.EqNone.ne_bool_none (bu I q (by simp))
   | bl j=>cases ry;exact ne_bool (bu I q (congrArg not Ec))
   | str j=>obtain ⟨t',rfl⟩:=ry;exact PySem.EqMixed.ne_bool_str (bu I q (by simp))
   | _=>exact absurd (show false=true from hs) Bool.false_ne_true
 | int i =>
   obtain ⟨t,rfl⟩:=rx;cases y with
   | non=>cases ry;exact PySem.EqNone.ne_int_none (bu I q (by simp))
   | int j=>obtain ⟨t',rfl⟩:=ry;exact ne_int (bu I q (congrArg not CJ))
   | str j=>obtain ⟨t',rfl⟩:=ry;exact PySem.EqMixed.ne_int_str (bu I q (by simp))
   | _=>exact absurd (show false=true from hs) Bool.false_ne_true
 | str i =>
   obtain ⟨t,rfl⟩:=rx;cases y with
   | non=>cases ry;exact PySem.EqNone.ne_str_none (bu I q (by simp))
   | bl j=>cases ry;exact PySem.EqMixed.ne_str_bool (bu I q (by simp))
   | int j=>obtain ⟨t',rfl⟩:=ry;exact PySem.EqMixed.ne_str_int (bu I q (by simp))
   | str j=>obtain ⟨t',rfl⟩:=ry;exact ne_str (bu I q (congrArg not Cq))
   | _=>exact absurd (show false=true from hs) Bool.false_ne_true
 | byt i =>
   obtain ⟨t,rfl⟩:=rx;cases y with
   | byt j=>obtain ⟨t',rfl⟩:=ry;exact PySem.W.ne_bytes (bu I q (congrArg not CG))
   | _=>exact absurd (show false=true from hs) Bool.false_ne_true
 | _=>cases y <;> exact absurd (show false=true from hs) Bool.false_ne_true
theorem uM:OpR X (compareOp .Lt) (rI0 fun i j=>.bl (decide (i<j))):=DK fun _ _ _ _ _ _ _ q=>lt_int q
theorem iQ:OpR X (compareOp .LtE) (rI0 fun i j=>.bl (decide (i<=j))):=DK fun _ _ _ _ _ _ _ q=>le_int q
theorem uL:OpR X (compareOp .Gt) (rI0 fun i j=>.bl (decide (j<i))):=DK fun _ _ _ _ _ _ _ q=>gt_int q
theorem Kh:OpR X (compareOp .GtE) (rI0 fun i j=>.bl (decide (j<=i))):=DK fun _ _ _ _ _ _ _ q=>ge_int q
theorem E3:OpR X (compareOp .In) (fun x y H Q=>∃ i j,x=.str i/\y=.str j/\Q (.bl (!(Builtin.Str.occurrences j i 0 j.length 1).isEmpty)) H):=by
 intro pins s σ H x y v u Q I rx ry h;obtain ⟨i,j,rfl,rfl,q⟩:=h;obtain ⟨t,rfl⟩:=rx;obtain ⟨t',rfl⟩:=ry;exact in_str (bu I q rfl)
theorem ax (b:Expr) {op:CmpOp} (h:op≠.In:=by decide) (h2:op≠.NotIn:=by decide):behindInMarks op b=false:=by
 have e1:(op == CmpOp.In)=false:=by cases op <;> first|rfl|exact absurd rfl h
 have e2:(op == CmpOp.NotIn)=false:=by cases op <;> first|rfl|exact absurd rfl h2
 cases b <;> simp [behindInMarks,e1,e2]
theorem pG {op:CmpOp} {r:R2} (ho:OpR X (compareOp op) r) (ha:PE X a ta) (hb:PE X b tb) (hm:behindInMarks op b=false):PE X (.Compare a [op] [b] pos) (tOp r ta tb):=by
 intro pins s σ H Q I h;exact wpAny_Compare1 (FI ha hb I h fun v u s2 x y H2 I2 rx ry q=>ho pins s2 σ H2 x y v u Q I2 rx ry q) hm
def z8 (t:TE):TT:=fun σ H Q=>t σ H fun x H'=>∃ k,x=.bl k/\Q k H'
theorem ar {op:CmpOp} {r:R2} (ho:OpR X (compareOp op) r) (ha:PE X a ta) (hb:PE X b tb) (hm:behindInMarks op b=false):PT X (.Compare a [op] [b] pos) (z8 (tOp r ta tb)):=by
 intro pins s σ H Q I h;refine wpAny_isTrue_Compare1 (bh (ha pins s σ H _ I h) fun v s1 x H1 I1 r1 q1=>bh (hb pins s1 σ H1 _ I1 q1) fun u s2 y H2 I2 r2 q2 =>
   bh (ho pins s2 σ H2 x y v u _ I2 r1 r2 q2) fun c s3 z H3 I3 r3 ⟨k,e,q3⟩=>?_) hm
 subst e;cases r3;exact wpAny_truthy_bool ⟨H3,I3,q3⟩
def wb (r r':R2) (ta tb tc:TE):TE:=fun σ H Q=>ta σ H fun x H1=>tb σ H1 fun y H2=>r x y H2 fun z H3=>∃ k,z=.bl k /\
 (if k=true then tc σ H3 fun w' H4=>r' y w' H4 Q else Q (.bl false) H3)
theorem Az {op op':CmpOp} {r r':R2} (ho:OpR X (compareOp op) r) (ho':OpR X (compareOp op') r') (ha:PE X a ta) (hb:PE X b tb) (hc:PE X c tc)
   (hm:lastMarks [op,op'] [b,c]=false:=by with_unfolding_all rfl):PE X (.Compare a [op,op'] [b,c] pos) (wb r r' ta tb tc):=by
 intro pins s σ H Q I h;refine Compare_chain (bh (ha pins s σ H _ I h) fun v s1 x H1 I1 r1 q1=>chain_link (bh (hb pins s1 σ H1 _ I1 q1) fun u s2 y H2 I2 r2 q2 =>
   bh (ho pins s2 σ H2 x y v u _ I2 r1 r2 q2) fun d s3 z H3 I3 r3 ⟨k,e,q3⟩=>?_)) hm
 subst e;cases r3;refine wpAny_truthy_bool ?_;cases k with
 | false=>exact ite_ff ⟨.bl false,H3,I3,rfl,q3⟩
 | true=>exact ite_tt (chain_last (thn (hc pins s3 σ H3 _ I3 q3) fun w' s4 ⟨z',H4,I4,r4,q4⟩=>ho' pins s4 σ H4 y z' u w' Q I4 r2 r4 q4))
theorem n9 {op op':CmpOp} {r r':R2} (ho:OpR X (compareOp op) r) (ho':OpR X (compareOp op') r') (ha:PE X a ta) (hb:PE X b tb) (hc:PE X c tc)
   (hm:lastMarks [op,op'] [b,c]=false:=by with_unfolding_all rfl):PT X (.Compare a [op,op'] [b,c] pos) (z8 (wb r r' ta tb tc)):=by
 intro pins s σ H Q I h;refine isTrue_chain (bh (ha pins s σ H _ I h) fun v s1 x H1 I1 r1 q1=>test_link (bh (hb pins s1 σ H1 _ I1 q1) fun u s2 y H2 I2 r2 q2 =>
   bh (ho pins s2 σ H2 x y v u _ I2 r1 r2 q2) fun d s3 z H3 I3 r3 ⟨k,e,q3⟩=>?_)) hm
 subst e;cases r3;refine wpAny_truthy_bool ?_;cases k with
 | false =>
   obtain ⟨k',e',q'⟩:=q3;cases e';exact ite_ff ⟨H3,I3,q'⟩
 | true =>
   refine ite_tt (test_last (thn (hc pins s3 σ H3 _ I3 q3) fun w' s4 ⟨z',H4,I4,r4,q4⟩=>thn (ho' pins s4 σ H4 y z' u w' _ I4 r2 r4 q4) fun d' s5 ⟨z2,H5,I5,r5,k2,e2,q5⟩=>?_));subst e2;cases r5;exact wpAny_truthy_bool ⟨H5,I5,q5⟩
def F1 (K:PySem.W.Frag) (x:V) (H:Hp) (k:Bool):Prop :=
 match x with
 | .non=>k=false
 | .bl b=>k=b
 | .int i=>k=(i != 0)
 | .str y=>y.length<=sizeLine/\k=((y.length:Int) != 0)
 | .byt y=>y.size<=sizeLine/\k=((y.size:Int) != 0)
 | .ref p=>(∃ xs,SqL K H p xs/\k=!xs.isEmpty)\/(∃ xs,SqT K H p xs/\k=!xs.isEmpty)\/∃ kvs,H p=some (.dK kvs)/\k=!kvs.isEmpty
 | _=>False
theorem Dm {κ:Type} {kvs:List (κ × V)} {vs:List (κ × Value)} (r:KV kvs vs):(!vs.isEmpty)=!kvs.isEmpty:=by
 cases r <;> rfl
theorem wF {xs:List V} {its:List Value} (r:Vals xs its):(!its.toArray.isEmpty)=!xs.isEmpty:=by
 cases r <;> simp
theorem lJ:(sizeLine:Nat)<2^63:=by rw [sizeLine_eq];decide
theorem Jo:KD X (fun x H Q=>∃ k,F1 X.K x H k/\Q k H):=by
 intro pins s σ H x v Q I rx h;obtain ⟨k,e,q⟩:=h;have hl:=lJ;have hs:sizeLine=16777216:=sizeLine_eq;cases x with
 | non =>
   cases rx;have e':k=false:=e;subst e';exact truthy_none ⟨H,I,q⟩
 | bl b =>
   cases rx;have e':k=b:=e;subst e';exact wpAny_truthy_bool ⟨H,I,q⟩
 | int i =>
   obtain ⟨t,rfl⟩:=rx;have e':k=(i != 0):=e;subst e';exact PySem.P.truthy_int ⟨H,I,q⟩
 | str y =>
   obtain ⟨t,rfl⟩:=rx;obtain ⟨hy,e'⟩:y.length<=sizeLine/\k=((y.length:Int) != 0):=e;subst e';exact PySem.P.truthy_str (by omega) ⟨H,I.tok _,q⟩
 | byt y =>
   obtain ⟨t,rfl⟩:=rx;obtain ⟨hy,e'⟩:y.size<=sizeLine/\k=((y.size:Int) != 0):=e;subst e';exact PySem.W.truthy_bytes (by omega) ⟨H,I.tok _,q⟩
 | ref p =>
   cases rx;have e':(∃ xs,SqL X.K H p xs/\k=!xs.isEmpty)\/(∃ xs,SqT X.K H p xs/\k=!xs.isEmpty)\/∃ kvs,H p=some (.dK kvs)/\k=!kvs.isEmpty:=e;rcases e' with ⟨xs,hx,e'⟩|⟨xs,hx,e'⟩|⟨kvs,hx,e'⟩
   . subst e';obtain ⟨its,r,pl,hz⟩:=I.list hx;have hlen:=r.length;exact wpAny_truthy_list pl.isList (by simp only [List.size_toArray];omega) ⟨H,I.tok _,by rw [wF r];exact q⟩
   . subst e';obtain ⟨its,r,pl,hz⟩:=I.tuple hx;have hlen:=r.length;exact truthy_tuple pl (by simp only [List.size_toArray];omega) ⟨H,I.tok _,by rw [wF r];exact q⟩
   . subst e';obtain ⟨hz,hS,vs,r,m⟩:kvs.length<=sizeLine/\(p == sysModules)=false/\∃ vs,KV kvs vs/\s.heap.DictOf (cW X.prog X.w) p vs:=I.hok p _ hx;have hlen:kvs.length=vs.length:=Paired.length r;exact wpAny_truthy_dict hS m (by omega) ⟨H,I.tok _,by rw [Dm r];exact q⟩
 | _=>exact (show False from e).elim
theorem Ao (ha:PE X a ta) (he:∀ whole,isTrue a X.env whole=(do let v <- whole;standAt a.pos;holding [v] (truthy v))) :
   PT X a (fun σ H Q=>ta σ H fun x H'=>∃ k,F1 X.K x H' k/\Q k H'):=by
 intro pins s σ H Q I h;exact isTrue_plain (bh (ha pins s σ H _ I h) fun v s1 x H1 I1 r1 q1=>Jo pins s1 σ H1 x v Q I1 r1 q1) (he _)
theorem cC:OpR X (binaryOp .Add) (fun x y H Q=>∃ i j,x=.str i/\y=.str j/\i.length+j.length<=sizeLine/\Q (.str (i++j)) H):=by
 intro pins s σ H x y v u Q I rx ry h;obtain ⟨i,j,rfl,rfl,hz,q⟩:=h;obtain ⟨t,rfl⟩:=rx;obtain ⟨t',rfl⟩:=ry;exact add_str (fun t' tk=>⟨.str (i++j),H,I.tok _,⟨_,rfl⟩,q⟩) hz
theorem iP {x:V} {us:List Value} (r:Vals [x] us):∃ u,us=[u]/\RelV x u:=by
 cases r with
 | cons r1 r2=>cases r2;exact ⟨_,rfl,r1⟩
theorem wp {x y:V} {us:List Value} (r:Vals [x,y] us):∃ u w',us=[u,w']/\RelV x u/\RelV y w':=by
 cases r with
 | cons r1 r2 =>
   cases r2 with
   | cons r3 r4=>cases r4;exact ⟨_,_,rfl,r1,r3⟩
theorem yF (hc:X.calm=true):dI X (.builtin "max") (fun xs H Q=>∃ i j,xs=[.int i,.int j]/\Q (.int (if j > i then j else i)) H):=by
 intro pins s σ H xs us Q I r h;obtain ⟨i,j,rfl,q⟩:=h;obtain ⟨u,w',rfl,⟨t,rfl⟩,⟨t',rfl⟩⟩:=wp r;refine max_two_ints (I.ok.hd hc) fun h' tk k=>⟨_,H,I.kept k,?_,q⟩;by_cases hj:j > i
 . rw [if_pos hj,if_pos hj];exact ⟨_,rfl⟩
 . rw [if_neg hj,if_neg hj];exact ⟨_,rfl⟩
theorem uz (hc:X.calm=true):dI X (.builtin "min") (fun xs H Q=>∃ i j,xs=[.int i,.int j]/\Q (.int (if j<i then j else i)) H):=by
 intro pins s σ H xs us Q I r h;obtain ⟨i,j,rfl,q⟩:=h;obtain ⟨u,w',rfl,⟨t,rfl⟩,⟨t',rfl⟩⟩:=wp r;refine min_two_ints (I.ok.hd hc) fun h' tk k=>⟨_,H,I.kept k,?_,q⟩;by_cases hj:j<i
 . rw [if_pos hj,if_pos hj];exact ⟨_,rfl⟩
 . rw [if_neg hj,if_neg hj];exact ⟨_,rfl⟩
theorem EI:dI X (.type "int") (fun xs H Q=>(∃ i,xs=[.int i]/\Q (.int i) H)\/∃ k,xs=[.bl k]/\Q (.int (if k then 1 else 0)) H):=by
 intro pins s σ H xs us Q I r h;rcases h with ⟨i,rfl,q⟩|⟨k,rfl,q⟩
 . obtain ⟨u,rfl,t,rfl⟩:=iP r;exact call_int_int ⟨.int i,H,I,⟨_,rfl⟩,q⟩
 . obtain ⟨u,rfl,r1⟩:=iP r;cases r1;exact call_int_bool ⟨.int (if k then 1 else 0),H,I.tok _,⟨_,rfl⟩,q⟩
theorem nM:dI X (.type "str") (fun xs H Q=>∃ i,xs=[.int i]/\i.natAbs.log2<1920/\Q (.str (toString i)) H):=by
 intro pins s σ H xs us Q I r h;obtain ⟨i,rfl,hz,q⟩:=h;obtain ⟨u,rfl,t,rfl⟩:=iP r;exact PySem.P.str_of_int hz ⟨.str _,H,I.tok _,⟨_,rfl⟩,q⟩
end
end L2
namespace L2
open PySem PySem.Spec PyProof.Rows
structure ObjM (h:Heap) (x dx C:Addr) (mA:Str->Option Value):Prop where
 obj:h.get? x=some (PySem.W.instObj C dx)
 ns:h.Ns1 dx mA
 ne:dx≠x
theorem yA {h:Heap} {dx:Addr} {mA:Str->Option Value} (n:h.Ns1 dx mA):∃ od,h.get? dx=some od/\∀ name,PySem.W.lookIn name od=some (mA name):=by
 obtain ⟨o,es,ep,ho,hd,hk,_,hm⟩:=n;refine ⟨o,ho,fun name=>?_⟩;have e:=hm name;unfold nsFind findBy at e;rw [<- Array.find?_toList] at e;unfold PySem.W.lookIn;rw [hd];dsimp only;split
 . rename_i y q
   rw [q] at e;exact congrArg some e
 . rename_i q
   rw [q] at e;have a:es.toList.any (·.refKey)=false:=by
     rw [List.any_eq_false];intro y hy;obtain ⟨z,t,hkey⟩:=hk y (Array.mem_toList_iff.mp hy);simp [DictEntry.refKey,hkey]
   have a':¬ es.toList.any (·.refKey)=true:=by rw [a];exact Bool.false_ne_true
   rw [if_neg a'];exact congrArg some e
theorem ObjM.look {h:Heap} {x dx C:Addr} {mA:Str->Option Value} (I:ObjM h x dx C mA):∃ od,PySem.W.InstAt h x (PySem.W.instObj C dx) C (some od)/\∀ name,PySem.W.lookIn name od=some (mA name) :=
 let ⟨od,ho,hl⟩:=yA I.ns
 ⟨od,⟨I.obj,rfl,rfl,ho⟩,hl⟩
section
variable {prog:Program} {w:World} {A:Around} {E:Value->Shared->Prop} {s:Shared} {K:PySem.W.Frag} {x dx C f:Addr} {mA:Str->Option Value} {name:Str} {v:Value}
theorem HP {expr:Bool} {Q:Value->Shared->Prop} (X:K.In s.heap) (I:ObjM s.heap x dx C mA) (hg:PySem.W.plainGet K C name=true) (hh:PySem.W.hasDictIn K C=true)
   (ha:PySem.W.findIn K (.ref C) name=some none) (hv:mA name=some v) (hv':PySem.W.handedIn v=true) (h:Q v { s with toks:=s.toks+1 }) :
   wpAny (model prog w) A (getAttr (.ref x) name expr) Q E s:=by
 obtain ⟨od,J,hl⟩:=I.look;exact PySem.W.get_value X J (PySem.W.plainGet_of hg).1 (PySem.W.findObj_own hh ha rfl (by rw [hl,hv])) hv' h
theorem Ir {ns:List Str} {Q:Unit->Shared->Prop} (X:K.In s.heap) (I:ObjM s.heap x dx C mA)
   (hs:PySem.W.findIn K (.ref C) "__setattr__"=some (some (.builtin "object.__setattr__"))) (hp:PySem.W.plainOver K C=true) (ht:PySem.W.takerIn K C name=some none) (hh:PySem.W.hasDictIn K C=true)
   (hw:PySem.Within mA ns) (hsz:ns.length<=sizeLine)
   (h:∀ h',ObjM h' x dx C (fun y=>if y=name then some v else mA y)->Heap.SameBut dx s.heap h'->Q () { s with heap:=h',toks:=s.toks+2 }) :
   wpAny (model prog w) A (setAttr (.ref x) name v) Q E s:=by
 obtain ⟨od,J,hl⟩:=I.look;refine PySem.W.set_plain X J hs (PySem.W.osa_open (s:={ s with toks:=s.toks+1 }) (r:=none) X J hp ht fun b=>?_);obtain ⟨cd,hc,hd'⟩:=PySem.W.any_some hh;have hx:s.heap.get? x=some ⟨.ref C,some dx,.plain,#[]⟩:=I.obj;refine wpAny_bind (wpAny_pure (wpAny_bind (wpAny_bind (wpAny_loadPart hx (wpAny_bind (PySem.W.Looks.here (s:={ s with toks:=s.toks+1 }) (PySem.W.looks_clsIn X hc) ?_))))));rw [hd'];refine wpAny_pure (a:=some dx) (wpAny_bind (wpAny_pure (wpAny_bind ?_)));refine wpAny_nsSet1 (s:={ s with toks:=s.toks+1 }) I.ns fun h' hn2 hs2=>?_;obtain ⟨oD,esD,epD,hoD,hdD,hcD⟩:=hn2.count (PySem.Within.cons name v hw);refine wpAny_bind (wpAny_lookBehind hoD (by rw [hdD];exact pastItsLine_dict (Nat.le_trans hcD (by rw [List.length_cons];omega))) ?_);exact wpAny_pure (h _ ⟨(hs2.2 _ (Ne.symm I.ne)).trans I.obj,hn2,I.ne⟩ hs2)
theorem Gc {R:Result->Shared->Prop} {vs:List Value} {kw:List (Str × Value)} (X:K.In s.heap) (hm:PySem.W.makesIn K C=true)
   (hi:PySem.W.findIn K (.ref C) "__init__"=some (some (.ref f))) (hf:PySem.W.typeIn K (.ref f)=some (.type "function"))
   (h:codeAny (model prog w) (A.under (.builtin "type.__call__" ⟨.ref C::vs,kw⟩)) (.call (.ref f) ⟨.ref (s.heap.objs.size+1)::vs,kw⟩) (PySem.W.InitBack (s.heap.objs.size+1) R)
     { s with heap:=(s.heap.push PySem.W.emptyDict).push (PySem.W.instObj C s.heap.objs.size) }) :
   codeAny (model prog w) A (.call (.ref C) ⟨vs,kw⟩) R s:=by
 obtain ⟨hh,g,d,t,os⟩:=s;exact PySem.W.make_core (PySem.W.makes_of X hm) (PySem.W.looks_findIn X hi) (fun self=>PySem.W.bind_fn X self hf) (.inl rfl) h
end
def gG (f:Str) (v:V):List (Str × V)->List (Str × V)
 | []=>[(f,v)]
 | (g,x)::r=>if g=f then (g,v)::r else (g,x)::gG f v r
theorem jp (f g:Str) (v:V):∀ fs:List (Str × V),(gG f v fs).lookup g=if g=f then some v else fs.lookup g
 | []=>by
   show List.lookup g [(f,v)]=_;by_cases h:g=f
   . have hb:(g == f)=true:=beq_iff_eq.mpr h;simp only [List.lookup,hb,if_pos h]
   . have hb:(g == f)=false:=beq_eq_false_iff_ne.mpr h;simp only [List.lookup,hb,if_neg h]
 | (k,x)::r=>by
   have ih:=jp f g v r;rw [show gG f v ((k,x)::r)=(if k=f then (k,v)::r else (k,x)::gG f v r) from rfl];by_cases hk:k=f
   . rw [if_pos hk];by_cases h:g=k
     . have hb:(g == k)=true:=beq_iff_eq.mpr h;simp only [List.lookup,hb,if_pos (h.trans hk)]
     . have hb:(g == k)=false:=beq_eq_false_iff_ne.mpr h;simp only [List.lookup,hb,if_neg (fun e:g=f=>h (e.trans hk.symm))]
   . rw [if_neg hk];by_cases h:g=k
     . have hb:(g == k)=true:=beq_iff_eq.mpr h;simp only [List.lookup,hb,if_neg (fun e:g=f=>hk (h.symm.trans e))]
     . have hb:(g == k)=false:=beq_eq_false_iff_ne.mpr h;simp only [List.lookup,hb];exact ih
theorem uc (f:Str) (v:V):∀ fs:List (Str × V),f∈(gG f v fs).map (·.1)/\∀ g,g∈fs.map (·.1)->g∈(gG f v fs).map (·.1)
 | []=>⟨by simp [gG],fun g h=>by simp at h⟩
 | (k,x)::r=>by
   obtain ⟨i1,i2⟩:=uc f v r;rw [show gG f v ((k,x)::r)=(if k=f then (k,v)::r else (k,x)::gG f v r) from rfl];by_cases hk:k=f
   . rw [if_pos hk];subst hk;exact ⟨by simp,fun g h=>by simpa using h⟩
   . rw [if_neg hk];refine ⟨?_,fun g h=>?_⟩
     . rw [List.map_cons];exact List.mem_cons_of_mem _ i1
     . rw [List.map_cons] at h ⊢;rcases List.mem_cons.mp h with e|e
       . exact List.mem_cons.mpr (.inl e)
       . exact List.mem_cons_of_mem _ (i2 g e)
theorem uZ (f:Str) (v:V):∀ fs:List (Str × V),(gG f v fs).length<=fs.length+1
 | []=>by simp [gG]
 | (k,x)::r=>by
   have ih:=uZ f v r;rw [show gG f v ((k,x)::r)=(if k=f then (k,v)::r else (k,x)::gG f v r) from rfl];by_cases hk:k=f
   . rw [if_pos hk,List.length_cons,List.length_cons];omega
   . rw [if_neg hk,List.length_cons,List.length_cons];omega
theorem RelO.some_of {v:V} {o:Option Value} (r:RelO (some v) o):∃ u,o=some u/\RelV v u:=by
 cases o with
 | none=>exact (show False from r).elim
 | some u=>exact ⟨u,rfl,r⟩
theorem yo {v:V} {u:Value} (r:RelV v u):PySem.W.handedIn u=true:=by
 cases v with
 | non=>cases (show u=Value.none from r);rfl
 | bl b=>cases (show u=Value.bool b from r);rfl
 | int i=>obtain ⟨t,e⟩:=(show ∃ t,u=Value.int i t from r);cases e;rfl
 | str x=>obtain ⟨t,e⟩:=(show ∃ t,u=Value.str x t from r);cases e;rfl
 | byt b=>obtain ⟨t,e⟩:=(show ∃ t,u=Value.bytes b t from r);cases e;rfl
 | flt b=>obtain ⟨t,e⟩:=(show ∃ t,u=Value.float b t from r);cases e;rfl
 | ref a=>cases (show u=Value.ref a from r);rfl
 | ty n=>cases (show u=Value.type n from r);rfl
section
variable {P:Program} {w:World} {H H':Hp} {h h':Heap} {a C dx:Addr} {fs fs':List (Str × V)}
theorem xq (hok:HOk P w H h) (e:H a=some (.ins C dx fs)):∃ mA,ObjM h a dx C mA/\(∀ f,RelO (fs.lookup f) (mA f))/\PySem.Within mA (fs.map (·.1))/\fs.length<=1000/\H dx=some (.own a):=by
 obtain ⟨d,z,ne,ob,mA,n,r,q⟩:=(show ObjOk P w H h a (.ins C dx fs) from hok a _ e);exact ⟨mA,⟨ob,n,ne⟩,r,q,z,d⟩
end
structure Cls (K:PySem.W.Frag) (C:Addr):Prop where
 pg:PySem.W.plainGet K C Str.empty=true
 hd:PySem.W.hasDictIn K C=true
 po:PySem.W.plainOver K C=true
 sa:PySem.W.findIn K (.ref C) "__setattr__"=some (some (.builtin "object.__setattr__"))
theorem Cls.get {K:PySem.W.Frag} {C:Addr} (c:Cls K C) (f:Str):PySem.W.plainGet K C f=true:=c.pg
def NoAttr (K:PySem.W.Frag) (C:Addr) (f:Str):Prop:=PySem.W.findIn K (.ref C) f=some none
theorem NoAttr.taker {K:PySem.W.Frag} {C:Addr} {f:Str} (n:NoAttr K C f):PySem.W.takerIn K C f=some none:=by
 unfold PySem.W.takerIn;rw [show PySem.W.findIn K (.ref C) f=some none from n]
 rfl
section
variable {X:Cx} {pins:List (Addr × Obj)} {σ:St} {H:Hp} {s:Shared} {a C dx:Addr} {fs:List (Str × V)} {f:Str} {v:V} {A:Around} {E:Value->Shared->Prop}
theorem CO {b:Bool} {Q:Value->Shared->Prop} (I:Inv X pins σ H s) (e:H a=some (.ins C dx fs)) (c:Cls X.K C) (n:NoAttr X.K C f) (l:fs.lookup f=some v)
   (h:∀ u s',Inv X pins σ H s'->RelV v u->Q u s'):wpAny (model X.prog X.w) A (getAttr (.ref a) f b) Q E s:=by
 obtain ⟨mA,O,r,_,_,_⟩:=xq I.hok e;obtain ⟨u,hu,ru⟩:=RelO.some_of (v:=v) (o:=mA f) (by rw [<- l];exact r f);exact HP I.kIn O (c.get f) c.hd n hu (yo ru) (h u _ (I.tok _) ru)
theorem Dc {y:V} {u:Value} {Q:Unit->Shared->Prop} (I:Inv X pins σ H s) (e:H a=some (.ins C dx fs)) (c:Cls X.K C) (n:NoAttr X.K C f) (hl:fs.length<1000) (ry:RelV y u)
   (h:∀ s',Inv X pins σ (upd H a (.ins C dx (gG f y fs))) s'->Q () s'):wpAny (model X.prog X.w) A (setAttr (.ref a) f u) Q E s:=by
 obtain ⟨mA,O,r,wi,_,ho⟩:=xq I.hok e;have hz:(fs.map (·.1)).length<=sizeLine:=by rw [List.length_map,sizeLine_eq];omega
 refine Ir I.kIn O c.sa c.po n.taker c.hd wi hz fun h' O' sb=>h _ ?_;have hd:∃ o,h'.get? dx=some o:=let ⟨o,_,_,e',_⟩:=O'.ns;⟨o,e'⟩;refine I.write (x:=a) (e:=dx) (by rw [e];exact True.intro) (.inr ho) (fun b q hb z=>(sb.2 b hb).trans z) hd ?_;refine ⟨by rw [am O.ne];exact ho,?_,O.ne,O'.obj,_,O'.ns,fun g=>?_,fun g hg=>?_⟩
 . have:=uZ f y fs;omega
 . show RelO ((gG f y fs).lookup g) (if g=f then some u else mA g);rw [jp];by_cases q:g=f
   . rw [if_pos q,if_pos q];exact ry
   . rw [if_neg q,if_neg q];exact r g
 . by_cases q:g=f
   . rw [q];exact (uc f y fs).1
   . refine (uc f y fs).2 g (wi g fun z=>hg ?_);show (if g=f then some u else mA g)=none;rw [if_neg q];exact z
theorem Inv.made (I:Inv X pins σ H s):Inv X pins σ (upd (upd H s.heap.objs.size (.own (s.heap.objs.size+1))) (s.heap.objs.size+1) (.ins C s.heap.objs.size []))
   { s with heap:=(s.heap.push PySem.W.emptyDict).push (PySem.W.instObj C s.heap.objs.size) }:=by
 have e1:(s.heap.push PySem.W.emptyDict).get? s.heap.objs.size=some PySem.W.emptyDict:=Heap.get?_push_size s.heap rfl;have e2:((s.heap.push PySem.W.emptyDict).push (PySem.W.instObj C s.heap.objs.size)).get? (s.heap.objs.size+1)=some (PySem.W.instObj C s.heap.objs.size):=by
   have:=Heap.get?_push_size (s.heap.push PySem.W.emptyDict) (o:=PySem.W.instObj C s.heap.objs.size) rfl
   rwa [Heap.size_push] at this
 have e3:(s.heap.push PySem.W.emptyDict).Ns s.heap.objs.size (fun _=>none):=⟨PySem.W.emptyDict,#[],_,e1,rfl,(fun e he=>absurd he (by simp)),fun _=>rfl⟩;have I1:=I.laid (a:=s.heap.objs.size) (o:=.own (s.heap.objs.size+1)) (h':=s.heap.push PySem.W.emptyDict) (t':=s.toks) (fun b u q=>Heap.get?_push_of_some _ q) (Nat.le_refl _) ⟨_,e1⟩;refine I1.laid (a:=s.heap.objs.size+1) (o:=.ins C s.heap.objs.size []) (t':=s.toks) (fun b u q=>Heap.get?_push_of_some _ q) (Nat.le_of_eq (Heap.size_push _ _)) ?_;have ne:s.heap.objs.size≠s.heap.objs.size+1:=Nat.ne_of_lt (Nat.lt_succ_self _);refine ⟨by rw [am ne,ag],Nat.zero_le _,ne,e2,fun _=>none,(Heap.Ns1.of_empty e3).at fun o q=>Heap.get?_push_of_some _ q,fun _=>True.intro,fun y hy=>absurd rfl hy⟩
theorem Cw {prog:Program} {w:World} {env:Env} {e:Expr} {f:Str} {pos:Pos} {s:Shared} {Q:Value->Shared->Prop} (hb:attributeBase e f env (eval e env)=eval e env)
   (h:wpAny (model prog w) A (eval e env) (fun o s₁=>wpAny (model prog w) A (getAttr o f true) Q E s₁) E s):wpAny (model prog w) A (eval (.Attribute e f pos) env) Q E s :=
 Attribute_any_ h (by rw [arm_eval_Attribute,hb])
end
def FG (K:PySem.W.Frag) (ta:TE) (f:Str):TE:=fun σ H Q=>ta σ H fun x H1=>∃ a C dx fs v,x=.ref a/\H1 a=some (.ins C dx fs)/\Cls K C/\NoAttr K C f/\fs.lookup f=some v/\Q v H1
def Gp (K:PySem.W.Frag) (ta tv:TE) (f:Str):TS:=fun D σ H=>tv σ H fun y H1=>ta σ H1 fun x H2=>∃ a C dx fs,x=.ref a/\H2 a=some (.ins C dx fs)/\Cls K C/\NoAttr K C f/\fs.length<1000 /\
 D.nx σ (upd H2 a (.ins C dx (gG f y fs)))
section
variable {X:Cx} {o e value:Expr} {f:Str} {pos pos' tpos:Pos} {ta tv:TE}
theorem EG (he:PE X e ta) (hb:attributeBase e f X.env (eval e X.env)=eval e X.env):PE X (.Attribute e f pos) (FG X.K ta f):=by
 intro pins s σ H Q I h;refine Cw hb (bh (he pins s σ H _ I h) fun u s1 x H1 I1 rx ⟨a,C,dx,fs,v,ex,ea,c,n,l,q⟩=>?_);subst ex;obtain rfl:u=Value.ref a:=rx;exact CO I1 ea c n l fun u' s2 I2 ru=>⟨v,H1,I2,ru,q⟩
theorem E6 (ha:PE X o ta) (hv:PE X value tv) (hs:swapsWith value (some (.Attribute o f pos')) pos.line X.env=pure false):PS X (.Assign [.Attribute o f pos'] value pos) (Gp X.K ta tv f):=by
 intro pins s σ H D I h;refine plainObj_wpAny_Assign_Attribute (bh (hv pins s σ H _ I h) fun u s1 y H1 I1 ry q=>bh (ha pins s1 σ H1 _ I1 q) fun ov s2 x H2 I2 rx ⟨a,C,dx,fs,ex,ea,c,n,l,q2⟩=>?_) hs;subst ex;obtain rfl:ov=Value.ref a:=rx;exact Dc I2 ea c n l ry fun s3 I3=>⟨σ,_,I3,q2⟩
end
section
variable {X:Cx} {pins:List (Addr × Obj)} {σ:St} {H:Hp} {s:Shared} {A:Around} {E:Value->Shared->Prop} {Q:Value->Shared->Prop} {c:Value} {b:Bool}
inductive TyOf (K:PySem.W.Frag) (H:Hp):V->Value->Prop where
 | non:TyOf K H .non (.type "NoneType")
 | bl (x:Bool):TyOf K H (.bl x) (.type "bool")
 | int (i:Int):TyOf K H (.int i) (.type "int")
 | str (x:Str):TyOf K H (.str x) (.type "str")
 | flt (x:UInt64):TyOf K H (.flt x) (.type "float")
 | lst {a:Addr} {xs:List V} (e:H a=some (.lst xs)):TyOf K H (.ref a) (.type "list")
 | frz {a:Addr} {o:Obj} {xs:List V} (e:H a=some (.frz o (.lst xs))):TyOf K H (.ref a) (.type "list")
 | tup {a:Addr} {xs:List V} (e:H a=some (.tup xs)):TyOf K H (.ref a) (.type "tuple")
 | dK {a:Addr} {kvs:List (Key × V)} (e:H a=some (.dK kvs)):TyOf K H (.ref a) (.type "dict")
 | dT {a:Addr} {kvs:List (List Key × V)} (e:H a=some (.dT kvs)):TyOf K H (.ref a) (.type "dict")
 | ins {a C dx:Addr} {fs:List (Str × V)} (e:H a=some (.ins C dx fs)) (cl:Cls K C) (ha:PySem.W.findIn K (.ref C) "__class__"=some (some (.builtin "object.__class__")))
     (hn:PySem.W.specialIn K (.builtin "object.__class__") "__get__"=some (some (.builtin "getset_descriptor.__get__"))) (htk:PySem.W.takesIn K (.builtin "object.__class__")=some true)
     (hm:PySem.W.mroIn K C (.type "object")=some true):TyOf K H (.ref a) (.ref C)
theorem Fc {x:V} {u t:Value} (I:Inv X pins σ H s) (rx:RelV x u) (ty:TyOf X.K H x t) (e:PySem.W.kitOne X.K t c=some b) (h:∀ tk,Q (.bool b) { s with toks:=tk }) :
   wpAny (model X.prog X.w) A (call (.builtin "isinstance") [u,c]) Q E s:=by
 cases ty with
 | non=>cases (show u=Value.none from rx);exact PySem.W.kia_one PySem.W.kitx_none I.kIn True.intro e (fun z=>nomatch z) h
 | bl y=>cases (show u=Value.bool y from rx);exact PySem.W.kia_one PySem.W.kitx_bool I.kIn True.intro e (fun z=>nomatch z) h
 | int i=>obtain ⟨t,q⟩:=(show ∃ t,u=Value.int i t from rx);cases q;exact PySem.W.kia_one PySem.W.kitx_int I.kIn True.intro e (fun z=>nomatch z) h
 | str y=>obtain ⟨t,q⟩:=(show ∃ t,u=Value.str y t from rx);cases q;exact PySem.W.kia_one PySem.W.kitx_str I.kIn True.intro e (fun z=>nomatch z) h
 | flt y=>obtain ⟨t,q⟩:=(show ∃ t,u=Value.float y t from rx);cases q;exact PySem.W.kia_one PySem.W.kitx_float I.kIn True.intro e (fun z=>nomatch z) h
 | @lst a xs ea =>
   cases (show u=Value.ref a from rx);obtain ⟨_,_,n,_,h1⟩:=(show ObjOk X.prog X.w H s.heap a (.lst xs) from I.hok a _ ea);exact PySem.W.kia_one PySem.W.kitx_list I.kIn ⟨_,h1,rfl⟩ e (fun z=>nomatch z) h
 | @frz a ob xs ea =>
   cases (show u=Value.ref a from rx);obtain ⟨_,_,_,n,_,h1⟩:=(show ObjOk X.prog X.w H s.heap a (.frz ob (.lst xs)) from I.hok a _ ea);exact PySem.W.kia_one PySem.W.kitx_list I.kIn ⟨_,h1,rfl⟩ e (fun z=>nomatch z) h
 | @tup a xs ea =>
   cases (show u=Value.ref a from rx);obtain ⟨_,_,_,p⟩:=(show ObjOk X.prog X.w H s.heap a (.tup xs) from I.hok a _ ea);obtain ⟨o,h1,h2,_⟩:=p;exact PySem.W.kia_one PySem.W.kitx_tuple I.kIn ⟨o,h1,h2⟩ e (fun z=>nomatch z) h
 | @dK a kvs ea =>
   cases (show u=Value.ref a from rx);obtain ⟨_,_,vs,_,p⟩:=(show ObjOk X.prog X.w H s.heap a (.dK kvs) from I.hok a _ ea);obtain ⟨o,es,ep,h1,h2,_⟩:=p;exact PySem.W.kia_one PySem.W.kitx_dict I.kIn ⟨o,h1,h2.1⟩ e (fun z=>nomatch z) h
 | @dT a kvs ea =>
   cases (show u=Value.ref a from rx);obtain ⟨_,_,xs,_,o,es,ep,h1,h2,_⟩:=(show ObjOk X.prog X.w H s.heap a (.dT kvs) from I.hok a _ ea);exact PySem.W.kia_one PySem.W.kitx_dict I.kIn ⟨o,h1,h2.1⟩ e (fun z=>nomatch z) h
 | @ins a C dx fs ea cl ha hn htk hm =>
   cases (show u=Value.ref a from rx);obtain ⟨mA,O,_⟩:=xq I.hok ea;obtain ⟨od,J,_⟩:=O.look;exact PySem.W.kia_one (PySem.W.kitx_own (cl.get _) cl.hd ha hn htk hm) I.kIn J e (fun z=>nomatch z) h
end
end L2
namespace L2
open PySem PySem.Spec PyProof.Rows
structure Room (k:Nat) (A:Around):Prop where
 hd:A.handled=none
 dp:A.depth+3*k+5<recursionLimit
 un:A.units+16*k+200<cLine
theorem Room.mono {j k:Nat} {A:Around} (r:Room k A) (h:j<=k):Room j A:=⟨r.hd,by have:=r.dp;omega,by have:=r.un;omega⟩
theorem Room.deeper {k:Nat} {A:Around} (r:Room (k+1) A) (env:Env):Room k (A.deeper env) :=
 ⟨r.hd,by have:=r.dp;show A.depth+1+3*k+5<_;omega,by have:=r.un;show A.units+3+16*k+200<_;omega⟩
theorem D4 {A:Around} {C:Addr} {us:List Value} {kw:List (Str × Value)}:(A.under (.builtin "type.__call__" ⟨.ref C::us,kw⟩)).depth=A.depth+1:=by
 first|rfl|simp [Around.under,Code.weight,Code.isCreation,Code.isGuard,Code.isCaller,Code.frames,Code.isFrame,guardIds]
theorem Dt {A:Around} {C:Addr} {us:List Value} {kw:List (Str × Value)}:(A.under (.builtin "type.__call__" ⟨.ref C::us,kw⟩)).units=A.units+1:=by
 first|rfl|simp [Around.under,Code.cUnits,Code.frames,Code.isFrame]
theorem Room.make {k:Nat} {A:Around} (r:Room (k+1) A) (C:Addr) (us:List Value) (kw:List (Str × Value)):Room k (A.under (.builtin "type.__call__" ⟨.ref C::us,kw⟩)) :=
 ⟨r.hd,by have:=r.dp;rw [D4];omega,by have:=r.un;rw [Dt];omega⟩
theorem Room.depth {k:Nat} {A:Around} (r:Room k A):A.depth<recursionLimit:=by have:=r.dp;omega
theorem Room.units {k:Nat} {A:Around} (r:Room k A):A.units+64<cLine:=by have:=r.un;omega
def tNil:TA:=fun _ H Q=>Q [] H
def Dw (ta:TE) (tr:TA):TA:=fun σ H Q=>ta σ H fun x H1=>tr σ H1 fun xs H2=>Q (x::xs) H2
section
variable {X:Cx} {e:Expr} {es:List Expr} {te:TE} {t:TA} {pos:Pos}
theorem ah:PA X [] tNil:=fun _ _ _ _ H Q I h=>Calls.spliced_nil ⟨[],H,I,.nil,h⟩
theorem ae (ha:PE X e te) (hr:PA X es t) (hs:starEach (e::es) X.env=(false,eval e X.env)::starEach es X.env:=by rfl):PA X (e::es) (Dw te t):=by
 intro pos pins s σ H Q I h;rw [hs];show wpAny _ _ (spliced ((false,eval e X.env)::backTo pos (starEach es X.env))) _ _ s;refine Calls.spliced_cons (bh (ha pins s σ H _ I h) fun u s1 x H1 I1 r1 q1=>?_);exact rC (hr pos pins s1 σ H1 _ I1 q1) fun us s2 xs H2 I2 r2 q2=>⟨x::xs,H2,I2,.cons r1 r2,q2⟩
def Gr (t:TA):TE:=fun σ H Q=>t σ H fun xs H1=>xs.length<=sizeLine/\∀ p,H1 p=none->Q (.ref p) (upd H1 p (.tup xs))
def Gf (t:TA):TE:=fun σ H Q=>t σ H fun xs H1=>xs.length<=sizeLine/\∀ p,H1 p=none->Q (.ref p) (upd H1 p (.lst xs))
theorem jm {x1} (h:PA X es t):PE X (.Tuple es x1 pos) (Gr t):=by
 intro pins s σ H Q I hq;refine wpAny_Tuple_spliced (rC (h pos pins s σ H _ I hq) fun us s1 xs H1 I1 r ⟨z,q⟩=>⟨by rw [<- r.length];exact z,?_⟩);have hf:H1 s1.heap.objs.size=none:=I1.hok.fresh (Nat.le_refl _);refine ⟨.ref s1.heap.objs.size,upd H1 s1.heap.objs.size (.tup xs),I1.laid (t':=s1.toks) (fun b u e=>Heap.get?_push_of_some _ e) (Nat.le_refl _) ?_,rfl,q _ hf⟩;exact ⟨z,us,r,⟨_,Heap.get?_push_size _ rfl,rfl,_,rfl⟩⟩
theorem cj (h:PA X es t):PE X (.List es pos) (Gf t):=by
 intro pins s σ H Q I hq;refine wpAny_List_spliced (rC (h pos pins s σ H _ I hq) fun us s1 xs H1 I1 r ⟨z,q⟩=>⟨by rw [<- r.length];exact z,?_⟩);have hf:H1 s1.heap.objs.size=none:=I1.hok.fresh (Nat.le_refl _);refine ⟨.ref s1.heap.objs.size,upd H1 s1.heap.objs.size (.lst xs),I1.laid (t':=s1.toks) (fun b u e=>Heap.get?_push_of_some _ e) (Nat.le_refl _) ?_,rfl,q _ hf⟩;exact ⟨z,us,0,r,Heap.get?_push_size _ rfl⟩
end
abbrev Sp:=List V->Hp->VK->XK->Prop
abbrev CXT:=List Env->Hp->Shared->XK->Value->Shared->Prop
structure Env0 (P:Program) (w:World) (K:PySem.W.Frag) (mg:Str->Option Value) (base:Heap) (A:Around) (outer:List Env) (s:Shared) (H:Hp):Prop where
 frames:A.frames=some outer
 mod:Mod K mg base
 bs:∀ b o,base.get? b=some o->s.heap.get? b=some o/\H b=none
 bsz:base.objs.size<=s.heap.objs.size
 funs:s.heap.FunFrames base outer
 frf:∀ b∈frs outer,H b=none
 hok:HOk P w H s.heap
 bare:AllBare s.gens
def CE (outer:List Env) (P:Program) (w:World) (H:Hp) (s:Shared) (Q:VK) (u:Value) (s':Shared):Prop :=
 ∃ v H',s'.os=s.os/\AllBare s'.gens/\Un (frs outer) [] H H' s.heap s'.heap/\HOk P w H' s'.heap/\RelV v u/\Q v H'
def CR (CX:CXT) (outer:List Env) (P:Program) (w:World) (H:Hp) (s:Shared) (Q:VK) (E:XK) (r:Result) (s':Shared):Prop :=
 match r with
 | .ok (.ret u)=>CE outer P w H s Q u s'
 | .ok _=>False
 | .error e=>CX outer H s E e s'
structure FnOk (P:Program) (w:World) (K:PySem.W.Frag) (mg:Str->Option Value) (base:Heap) (CX:CXT) (k:Nat) (f:Addr) (fd:FuncData) (ps:List Str) (sp:Sp):Prop where
 len:∀ vs H Q E,sp vs H Q E->vs.length=ps.length
 run:∀ (A:Around) (outer:List Env) (s:Shared) (H:Hp) (args:Args) (us:List Value) (vs:List V) (Q:VK) (E:XK),Room k A->Env0 P w K mg base A outer s H->BindsTo s fd args (ps.zip us)->Vals vs us->sp vs H Q E ->
   codeAny (model P w) A (.call (.ref f) args) (CR CX outer P w H s Q E) s
theorem Env0.make {P:Program} {w:World} {K:PySem.W.Frag} {mg:Str->Option Value} {base:Heap} {A:Around} {outer:List Env} {s:Shared} {H:Hp} (e:Env0 P w K mg base A outer s H) (C:Addr) (us:List Value) (kw:List (Str × Value)) :
   Env0 P w K mg base (A.under (.builtin "type.__call__" ⟨.ref C::us,kw⟩)) outer s H:=⟨by first|exact e.frames|(simpa [Around.under,Code.envs,Code.isFrame,pushEnvs] using e.frames),e.mod,e.bs,e.bsz,e.funs,e.frf,e.hok,e.bare⟩
section
variable {X:Cx} {pins:List (Addr × Obj)} {σ:St} {H:Hp} {s s':Shared}
theorem Inv.env0 (I:Inv X pins σ H s):Env0 X.prog X.w X.K X.mg X.base X.A X.stack s H :=
 ⟨I.ok.frames,I.ok.mod,I.bs,Nat.le_trans I.ok.bsz I.sz,I.stack,I.stkFree,I.hok,I.bare⟩
theorem Inv.after {Q:VK} {u:Value} (I:Inv X pins σ H s) (h:CE X.stack X.prog X.w H s Q u s'):EP X pins σ Q u s':=by
 obtain ⟨v,H',os,bare,un,hok,r,q⟩:=h;obtain ⟨hh,g,d,t,os'⟩:=s';obtain rfl:os'=s.os:=os;exact ⟨v,H',I.call (h':=hh) (g':=g) (d':=d) (t':=t) (ch:=[]) un hok bare (fun b z=>absurd z (by simp)),r,q⟩
end
def zW (sp:Sp) (dvs:List V) (E:XK) (t:TA):TE:=fun σ H Q=>t σ H fun vs H1=>sp (vs++dvs) H1 Q E
def HB (C:Addr) (m:Str) (sp:Sp) (dvs:List V) (E:XK) (ta:TE) (t:TA):TE:=fun σ H Q=>ta σ H fun x H1=>∃ a dx fs,x=.ref a/\H1 a=some (.ins C dx fs)/\fs.lookup m=none /\
 t σ H1 fun vs H2=>sp (x::(vs++dvs)) H2 Q E
def DL (C:Addr) (sp:Sp) (dvs:List V) (E:XK) (t:TA):TE:=fun σ H Q=>t σ H fun vs H1=>∀ x dx,H1 x=none->H1 dx=none->dx≠x ->
 sp (.ref x::(vs++dvs)) (upd (upd H1 dx (.own x)) x (.ins C dx [])) (fun v H2=>v=.non/\Q (.ref x) H2) E
def Binds (K:PySem.W.Frag) (fd:FuncData) (ps:List Str) (ds:List Value):Prop :=
 ∀ (s:Shared) (us:List Value),K.In s.heap->(us++ds).length=ps.length->BindsTo s fd ⟨us,[]⟩ (ps.zip (us++ds))
theorem Binds.all {K:PySem.W.Frag} {fd:FuncData} {ps:List Str} (h:∀ us:List Value,us.length=ps.length->bindArgs fd ⟨us,[]⟩=pure (ps.zip us)):Binds K fd ps []:=fun s us _ hl=>by
 rw [List.append_nil] at hl ⊢;exact .of_eq (h us hl)
def pU (CX:CXT) (X:Cx) (E:XK):Prop:=∀ (pins:List (Addr × Obj)) (σ:St) (H:Hp) (s:Shared) (e:Value) (s':Shared),Inv X pins σ H s->CX X.stack H s E e s'->X.xe e s'
section
variable {X:Cx} {CX:CXT} {k:Nat} {f C:Addr} {fd:FuncData} {ps:List Str} {sp:Sp} {dvs:List V} {ds:List Value} {E:XK} {x m:Str} {p pos apos:Pos} {e o:Expr} {es:List Expr} {ta:TE} {t:TA}
theorem Jq {pins:List (Addr × Obj)} {σ:St} {H:Hp} {s:Shared} {Q:VK} {us:List Value} {vs:List V} (F:FnOk X.prog X.w X.K X.mg X.base CX k f fd ps sp) (hr:Room k X.A) (hb:Binds X.K fd ps ds) (hd:Vals dvs ds) (hx:pU CX X E)
   (I:Inv X pins σ H s) (r:Vals vs us) (h:sp (vs++dvs) H Q E):wpAny (model X.prog X.w) X.A (call (.ref f) us) (EP X pins σ Q) X.xe s:=by
 have r2:Vals (vs++dvs) (us++ds):=r.append hd;have hl:(us++ds).length=ps.length:=by rw [<- r2.length];exact F.len _ _ _ _ h
 refine wpAny_call (codeAny_mono (F.run X.A X.stack s H ⟨us,[]⟩ (us++ds) (vs++dvs) Q E hr I.env0 (hb s us I.kIn hl) r2 h) fun r s' hq=>?_);cases r with
 | error e=>exact hx pins σ H s e s' I hq
 | ok fl =>
   cases fl with
   | ret u=>exact I.after hq
   | next=>exact False.elim hq
   | brk=>exact False.elim hq
   | cont=>exact False.elim hq
theorem aJ (F:FnOk X.prog X.w X.K X.mg X.base CX k f fd ps sp) (hr:Room k X.A) (hg:Gl X x) (hm:X.mg x=some (.ref f)) (hk:PySem.W.keepIn X.K (.ref f)=true) (hb:Binds X.K fd ps ds) (hd:Vals dvs ds) (hx:pU CX X E)
   (ha:PA X (e::es) t) (hdb:(x == ("__debug__":Str))=false:=by decide) (he:starEach (e::es) X.env=(false,eval e X.env)::starEach es X.env:=by rfl) (hpl:(backTo pos (starEach es X.env)).any (·.1)=false:=by rfl) :
   PE X (.Call (.Name x p) (e::es) [] pos) (zW sp dvs E t):=by
 intro pins s σ H Q I h;refine wpAny_Call_Name_kw (jG I hg hm ?_ hdb);refine PySem.W.callWith_K (h₀:=X.base) I.ok.mod.kin hk (rC (ha pos pins s σ H _ I h) fun us s1 vs H1 I1 r q=>⟨I1.kIn,?_⟩) he hpl;exact Jq F hr hb hd hx I1 r q
structure Mk (K:PySem.W.Frag) (C f:Addr):Prop where
 makes:PySem.W.makesIn K C=true
 init:PySem.W.findIn K (.ref C) "__init__"=some (some (.ref f))
 fn:PySem.W.isFn K (.ref f)=true
 kp:PySem.W.keepIn K (.ref C)=true
theorem Gb {pins:List (Addr × Obj)} {σ:St} {H:Hp} {s:Shared} {Q:VK} {us:List Value} {vs:List V} (M:Mk X.K C f) (F:FnOk X.prog X.w X.K X.mg X.base CX k f fd ps sp) (hr:Room (k+1) X.A) (hb:Binds X.K fd ps ds) (hd:Vals dvs ds)
   (hx:pU CX X E) (I:Inv X pins σ H s) (r:Vals vs us)
   (h:∀ x dx,H x=none->H dx=none->dx≠x->sp (.ref x::(vs++dvs)) (upd (upd H dx (.own x)) x (.ins C dx [])) (fun v H2=>v=.non/\Q (.ref x) H2) E) :
   wpAny (model X.prog X.w) X.A (call (.ref C) us) (EP X pins σ Q) X.xe s:=by
 have hq:=h (s.heap.objs.size+1) s.heap.objs.size (I.hok.fresh (Nat.le_succ _)) (I.hok.fresh (Nat.le_refl _)) (Nat.ne_of_lt (Nat.lt_succ_self _));have I2:=Inv.made (C:=C) I;have r2:Vals (V.ref (s.heap.objs.size+1)::(vs++dvs)) (Value.ref (s.heap.objs.size+1)::(us++ds)):=.cons rfl (r.append hd);have hl:(Value.ref (s.heap.objs.size+1)::us++ds).length=ps.length:=by
   have e:=r2.length;rw [F.len _ _ _ _ hq] at e;exact e.symm
 refine wpAny_call (Gc (f:=f) I.kIn M.makes M.init (beq_iff_eq.mp M.fn) (codeAny_mono (F.run _ X.stack _ _ ⟨Value.ref (s.heap.objs.size+1)::us,[]⟩ (Value.ref (s.heap.objs.size+1)::(us++ds)) _ _ E (hr.make C us [])
   (I2.env0.make C us []) (hb _ (Value.ref (s.heap.objs.size+1)::us) I2.kIn hl) r2 hq) fun r s' hq'=>?_))
 cases r with
 | error e=>exact hx pins σ _ _ e s' I2 hq'
 | ok fl =>
   cases fl with
   | ret u =>
     obtain ⟨v,H',I3,rv,ev,q3⟩:=I2.after hq';subst ev;exact ⟨rv,⟨V.ref (s.heap.objs.size+1),H',I3,rfl,q3⟩⟩
   | next=>exact False.elim hq'
   | brk=>exact False.elim hq'
   | cont=>exact False.elim hq'
theorem HU (M:Mk X.K C f) (F:FnOk X.prog X.w X.K X.mg X.base CX k f fd ps sp) (hr:Room (k+1) X.A) (hg:Gl X x) (hm:X.mg x=some (.ref C)) (hb:Binds X.K fd ps ds) (hd:Vals dvs ds) (hx:pU CX X E)
   (ha:PA X (e::es) t) (hdb:(x == ("__debug__":Str))=false:=by decide) (he:starEach (e::es) X.env=(false,eval e X.env)::starEach es X.env:=by rfl) (hpl:(backTo pos (starEach es X.env)).any (·.1)=false:=by rfl) :
   PE X (.Call (.Name x p) (e::es) [] pos) (DL C sp dvs E t):=by
 intro pins s σ H Q I h;refine wpAny_Call_Name_kw (jG I hg hm ?_ hdb);refine PySem.W.callWith_K (h₀:=X.base) I.ok.mod.kin M.kp (rC (ha pos pins s σ H _ I h) fun us s1 vs H1 I1 r q=>⟨I1.kIn,?_⟩) he hpl;exact Gb M F hr hb hd hx I1 r q
end
section
variable {X:Cx} {CX:CXT} {k:Nat} {f C:Addr} {fd:FuncData} {ps ks:List Str} {sp:Sp} {E:XK} {x m:Str} {p pos apos kpos:Pos} {e o:Expr} {es:List Expr} {kws:List Keyword} {te ta:TE} {t tk:TA} {nm:Option Str}
variable {g:List Value->List Value->List Value} {gV:List V->List V->List V}
end
structure FnScope (N P:List Str) (sc:Scope):Prop where
 kind:sc.kind=.function
 co:sc.isCoroutine=false
 gen:sc.isGenerator=false
 nd:N.Nodup
 pre:N.take P.length=P
 par:∀ x∈P,sc.names.lookup x=some .local\/sc.names.lookup x=some .cell
 nofree:∀ y∈sc.names,y.2≠.free
theorem yQ {kindOf:Str->Option NameKind} {x:Str}:∀ {binds:List (Str × Value)} {m:Str->Option Value},(∀ v,(x,v) ∉ binds)->bindL kindOf binds m x=m x
 | [],_,_=>rfl
 | (n,v)::r,m,h=>by
   unfold bindL;rw [yQ fun w hw=>h w (List.mem_cons_of_mem _ hw)];split
   . have:x≠n:=(by rintro rfl;exact h v List.mem_cons_self);simp [this]
   . rfl
theorem yS {kindOf:Str->Option NameKind} {x:Str}:∀ {binds:List (Str × Value)} {m:Str->Option Value},(∀ v,(x,v) ∉ binds)->bindC kindOf binds m x=m x
 | [],_,_=>rfl
 | (n,v)::r,m,h=>by
   unfold bindC;rw [yS fun w hw=>h w (List.mem_cons_of_mem _ hw)];split
   . rfl
   . have:x≠n:=(by rintro rfl;exact h v List.mem_cons_self);simp [this]
theorem yY {kindOf:Str->Option NameKind} {x:Str} {v:Value}:∀ {P:List Str} {vs:List Value} {i:Nat} {m:Str->Option Value},P.Nodup->P[i]?=some x->vs[i]?=some v->kindOf x=some .local ->
   bindL kindOf (P.zip vs) m x=some v
 | [],_,_,_,_,h,_,_=>by simp at h
 | _::_,[],_,_,_,_,h,_=>by simp at h
 | p::P,w::vs,0,m,nd,h1,h2,hk=>by
   simp at h1 h2;subst h1;subst h2;show bindL kindOf ((p,w)::P.zip vs) m p=_;unfold bindL;rw [yQ fun v hv=>(List.nodup_cons.mp nd).1 (List.of_mem_zip hv).1,if_pos hk];simp
 | p::P,w::vs,i+1,m,nd,h1,h2,hk=>by
   show bindL kindOf ((p,w)::P.zip vs) m x=_;unfold bindL;exact yY (i:=i) (List.nodup_cons.mp nd).2 (by simpa using h1) (by simpa using h2) hk
theorem yW {kindOf:Str->Option NameKind} {x:Str} {v:Value}:∀ {P:List Str} {vs:List Value} {i:Nat} {m:Str->Option Value},P.Nodup->P[i]?=some x->vs[i]?=some v->kindOf x≠some .local ->
   bindC kindOf (P.zip vs) m x=some v
 | [],_,_,_,_,h,_,_=>by simp at h
 | _::_,[],_,_,_,_,h,_=>by simp at h
 | p::P,w::vs,0,m,nd,h1,h2,hk=>by
   simp at h1 h2;subst h1;subst h2;show bindC kindOf ((p,w)::P.zip vs) m p=_;unfold bindC;rw [yS fun v hv=>(List.nodup_cons.mp nd).1 (List.of_mem_zip hv).1,if_neg hk];simp
 | p::P,w::vs,i+1,m,nd,h1,h2,hk=>by
   show bindC kindOf ((p,w)::P.zip vs) m x=_;unfold bindC;exact yW (i:=i) (List.nodup_cons.mp nd).2 (by simpa using h1) (by simpa using h2) hk
def start (N:List Str) (vs:List V):St:=vs.map some++List.replicate (N.length - vs.length) none
def jZ (CX:CXT) (P:Program) (w:World) (K:PySem.W.Frag) (mg:Str->Option Value) (base:Heap) (N:List Str) (qual:Str) (scope:Scope) (f:Addr) (cd:Value) (A:Around) (outer:List Env) (s:Shared) (H:Hp) (E:XK):Cx where
 prog:=P
 w:=w
 K:=K
 mg:=mg
 base:=base
 A:=A.deeper (envOfC qual scope s.heap.objs.size f cd)
 N:=N
 s₀:=s
 H₀:=H
 env:=envOfC qual scope s.heap.objs.size f cd
 outer:=outer
 stack:=envOfC qual scope s.heap.objs.size f cd::outer
 ex:=[]
 calm:=true
 fn:=fun _=>true
 pn:=[]
 xe:=fun e s'=>wpAny (model P w) (A.deeper (envOfC qual scope s.heap.objs.size f cd)) (leaving (envOfC qual scope s.heap.objs.size f cd) e) (fun _ s''=>CX outer H s E e s'') (fun e' s''=>CX outer H s E e' s'') s'
theorem qk {sc:Scope} {n:Nat} {x:Str} (h:sc.names.lookup x=some .cell):∃ c,(cellsFrom n sc.names []).lookup x=some c:=by
 have q:=PySem.W.cellsFrom_some sc.names n [] (.inl h);exact Option.isSome_iff_exists.mp q
theorem Fe {CX:CXT} {P:Program} {w:World} {K:PySem.W.Frag} {mg:Str->Option Value} {base:Heap} {N ps:List Str} {qual:Str} {scope:Scope} {f:Addr} {cd:Value} {A:Around} {outer:List Env} {s s1:Shared} {H:Hp} {E:XK} {us:List Value} {vs:List V}
   (S:FnScope N ps scope) (hd:A.handled=none) (e0:Env0 P w K mg base A outer s H) (hl:vs.length=ps.length) (r:Vals vs us)
   (x:InCallC s s.heap.objs.size (bindL (envOfC qual scope s.heap.objs.size f cd).kindOf (ps.zip us) fun _=>none) (cellsFrom (s.heap.objs.size+1) scope.names []) (bindC (envOfC qual scope s.heap.objs.size f cd).kindOf (ps.zip us) fun _=>none) s1) :
   Inv (jZ CX P w K mg base N qual scope f cd A outer s H E) [] (start N vs) H s1:=by
 have hpl:ps.length<=N.length:=by have:=congrArg List.length S.pre;rw [List.length_take] at this;omega
 obtain ⟨h1,tk,rfl,hk⟩:=x.done;have noA:∀ b:Addr,b ∉ (jZ CX P w K mg base N qual scope f cd A outer s H E).ex:=fun b z=>absurd (show b∈([]:List Addr) from z) (by simp);refine ⟨⟨e0.mod,S.kind,rfl,rfl,Nat.le_refl _,fun y z c h1 h2=>?_,fun y hy=>?_,fun y c _ h=>?_,fun _=>hd,Around.frames_deeper e0.frames,.inr ⟨rfl,rfl⟩,fun b z=>absurd z (noA b),e0.bs,e0.bsz,fun b _ _=>noA b,fun b z=>absurd z (noA b),e0.funs,e0.frf⟩,
   rfl,e0.bare,Un.kept hk,⟨_,x.toInCall.ns,fun i y v h1 h2 h3=>?_⟩,fun y c h=>⟨_,x.cell y c h⟩,e0.hok.fresh (Nat.le_refl _),fun y c h=>?_,fun p hp=>absurd (show p∈([]:List (Addr × Obj)) from hp) (by simp),e0.hok.kept hk,?_⟩
 . exact name_of_addr x.apart (PySem.mem_of_lookup h1) (PySem.mem_of_lookup h2)
 . have hy:scope.names.lookup y=some .cell\/scope.names.lookup y=some .free:=hy;rcases hy with hy|hy
   . exact qk hy
   . exact absurd rfl (S.nofree _ (PySem.mem_of_lookup hy))
 . exact Nat.le_of_lt (x.above y c (PySem.mem_of_lookup h))
 . have hi:i<vs.length:=by
     unfold start at h2;by_cases hi:i<vs.length
     . exact hi
     . rw [List.getElem?_append_right (by simpa using hi)] at h2;rw [List.getElem?_replicate] at h2;split at h2 <;> cases h2
   have ha:vs[i]?=some v:=by
     unfold start at h2;rw [List.getElem?_append_left (by simpa using hi),List.getElem?_map] at h2;cases e:vs[i]? with
     | none=>rw [e] at h2;cases h2
     | some a=>rw [e] at h2;cases h2;rfl
   obtain ⟨u,hu,rv⟩:=r.get ha;have hp:ps[i]?=some y:=by
     rw [<- S.pre,List.getElem?_take_of_lt (by omega)];exact h1
   have ndP:ps.Nodup:=by rw [<- S.pre];exact S.nd.sublist (List.take_sublist _ _)
   refine ⟨u,rv,?_⟩;rcases S.par y (List.mem_of_getElem? hp) with k|k
   . exact .inl ⟨k,yY ndP hp hu k⟩
   . obtain ⟨c,e⟩:=qk (n:=s.heap.objs.size+1) k;refine .inr ⟨.inl k,c,e,?_⟩;have q:=x.cell y c e;rw [yW ndP hp hu (by show scope.names.lookup y≠_;rw [k];decide)] at q;exact q
 . exact e0.hok.fresh (Nat.le_of_lt (x.above y c (PySem.mem_of_lookup h)))
 . unfold start;show _=N.length;rw [List.length_append,List.length_map,List.length_replicate];omega
theorem HD {CX:CXT} {P:Program} {w:World} {K:PySem.W.Frag} {mg:Str->Option Value} {base:Heap} {k:Nat} {f:Addr} {name qual:Str} {params:Arguments} {body:List Stmt} {scope:Scope} {dV kV doc pm cdv ct oc:Value} {an od:Option Addr}
   {osl:Array (Option Value)} {N ps:List Str} {sp:Sp} (lk:K.lookup f=some ⟨oc,od,.func (PySem.W.fnOf name qual params body scope dV kV doc pm an cdv ct),osl⟩) (hcd:PySem.W.codeIn K cdv qual=true) (S:FnScope N ps scope)
   (len:∀ vs H Q E,sp vs H Q E->vs.length=ps.length)
   (hbody:∀ (A:Around) (outer:List Env) (s:Shared) (H:Hp) (vs:List V) (Q:VK) (E:XK),Room k (A.deeper (envOfC qual scope s.heap.objs.size f cdv))->sp vs H Q E ->
     ∃ t,PSs (jZ CX P w K mg base N qual scope f cdv A outer s H E) body t/\t { nx:=fun _ H'=>Q .non H',rt:=Q } (start N vs) H) :
   FnOk P w K mg base CX (k+1) f (PySem.W.fnOf name qual params body scope dV kV doc pm an cdv ct) ps sp:=by
 refine ⟨len,fun A outer s H args us vs Q E hr e0 hb r hsp=>?_⟩;have hl:=len _ _ _ _ hsp;have KX:K.In s.heap:=e0.mod.kin.keeps fun b o e=>(e0.bs b o e).1;have lim:s.heap.NoLimit:=e0.mod.nolimit.keeps fun b o e=>(e0.bs b o e).1;have hkind:∀ y∈ps.zip us,scope.names.lookup y.1=some .local\/(scope.names.lookup y.1=some .cell/\((cellsFrom (s.heap.objs.size+1) scope.names []).lookup y.1).isSome=true):=fun ⟨n,v⟩ hy=>by
   rcases S.par n (List.of_mem_zip hy).1 with q|q
   . exact .inl q
   . exact .inr ⟨q,PySem.W.cellsFrom_some _ _ _ (.inl q)⟩
 refine codeAny_call_function hr.depth (KX _ _ lk) rfl S.co S.gen rfl (PySem.W.codeRec_of KX hcd) (hb _ _ _ _ ?_);refine wpAny_newFunctionEnv_cells S.kind hkind fun env he s1 x=>?_;subst he;refine ⟨lim.keeps x.toInCall.keep,codeAny_func ?_⟩;obtain ⟨t,ht,hq⟩:=hbody A outer s H vs Q E (hr.deeper _) hsp;have I:Inv (jZ CX P w K mg base N qual scope f cdv A outer s H E) [] (start N vs) H s1:=Fe S hr.hd e0 hl r x;refine wpAny_mono (ht [] s1 (start N vs) H _ I hq) (fun fl s' hs=>?_) fun e s' hs=>hs;have fin:∀ {σ':St} {H':Hp} {v:V} {u:Value},Inv (jZ CX P w K mg base N qual scope f cdv A outer s H E) [] σ' H' s'->RelV v u->Q v H'->CE outer P w H s Q u s' :=
   fun {σ' H' v u} J rv q=>⟨v,H',J.os,J.bare,J.base,J.hok,rv,q⟩
 cases fl with
 | ret u =>
   obtain ⟨v,σ',H',J,rv,q⟩:=hs;exact fin J rv q
 | next =>
   obtain ⟨σ',H',J,q⟩:=hs;exact fin (v:=V.non) (u:=Value.none) J rfl q
 | brk =>
   obtain ⟨_,_,_,q⟩:=hs;exact False.elim q
 | cont =>
   obtain ⟨_,_,_,q⟩:=hs;exact False.elim q
end L2
namespace L2
open PySem PySem.Spec PyProof.Rows
section
variable {X:Cx} {x:Str} {p pos:Pos} {e:Expr} {es:List Expr} {t:TA} {id T:String} {r:List V->Hp->VK->Prop}
def tCB (r:List V->Hp->VK->Prop) (t:TA):TE:=fun σ H Q=>t σ H fun vs H1=>r vs H1 Q
theorem ay (hc:dI X (.builtin id) r) (hg:Gl X x) (hm:X.mg x=none) (hv:bootBuiltins x=some (.builtin id)) (ha:PA X (e::es) t) (hn:x≠"__name__":=by decide) (hdb:(x == ("__debug__":Str))=false:=by decide)
   (he:starEach (e::es) X.env=(false,eval e X.env)::starEach es X.env:=by rfl) (hpl:(backTo pos (starEach es X.env)).any (·.1)=false:=by rfl):PE X (.Call (.Name x p) (e::es) [] pos) (tCB r t):=by
 intro pins s σ H Q I h;refine wpAny_Call_Name_kw (pN I hg hm hv ?_ hn hdb);exact PyProof.Rows.callWith_builtin1 (rC (ha pos pins s σ H _ I h) fun us s1 vs H1 I1 r1 q1=>hc pins s1 σ H1 vs us Q I1 r1 q1) he hpl
theorem dE (hc:dI X (.type T) r) (hg:Gl X x) (hm:X.mg x=none) (hv:bootBuiltins x=some (.type T)) (ha:PA X (e::es) t) (hn:x≠"__name__":=by decide) (hdb:(x == ("__debug__":Str))=false:=by decide)
   (he:starEach (e::es) X.env=(false,eval e X.env)::starEach es X.env:=by rfl) (hpl:(backTo pos (starEach es X.env)).any (·.1)=false:=by rfl):PE X (.Call (.Name x p) (e::es) [] pos) (tCB r t):=by
 intro pins s σ H Q I h;refine wpAny_Call_Name_kw (pN I hg hm hv ?_ hn hdb);exact PyProof.Rows.callWith_type1 (rC (ha pos pins s σ H _ I h) fun us s1 vs H1 I1 r1 q1=>hc pins s1 σ H1 vs us Q I1 r1 q1) he hpl
end
end L2
namespace HT
open PySem PyProof.Rows
section
open PySem.SeqAt
open PySem.AutoSeq1 (wpAny_loadPart')
open PySem.MeetsSeq PySem.MeetsSeq2 PySem.MeetsSeq3
end
section
variable {prog:Program} {w:World} {A:Around} {E:Value->Shared->Prop} {s:Shared}
def sIx (n d:Nat):Option Int->Nat
 | none=>d
 | some v=>if v<0 then (v+(n:Int)).toNat else min v.toNat n
end
end HT
namespace L2
open PySem PySem.Spec PyProof.Rows
abbrev TO:=St->Hp->(Option Int->Hp->Prop)->Prop
def PO (X:Cx) (e:Option Expr) (t:TO):Prop :=
 ∀ (pins:List (Addr × Obj)) (s:Shared) (σ:St) (H:Hp) (Q:Option Int->Hp->Prop),Inv X pins σ H s->t σ H Q ->
   wpAny (model X.prog X.w) X.A (evalPart e X.env) (fun u s'=>∃ o H',Inv X pins σ H' s'/\IsPart u o/\Q o H') X.xe s
def tNoPart:TO:=fun _ H Q=>Q none H
def uC (t:TE):TO:=fun σ H Q=>t σ H fun x H1=>∃ i,x=.int i/\Q (some i) H1
section
variable {X:Cx} {e:Expr} {te:TE} {lo hi:Option Expr} {tl th:TO} {pos p2:Pos}
theorem mF:PO X none tNoPart:=by
 intro pins s σ H Q I h;rw [evalPart_none];exact wpAny_pure ⟨none,H,I,.none,h⟩
theorem gB (h:PE X e te):PO X (some e) (uC te):=by
 intro pins s σ H Q I hw;rw [evalPart_some];refine bh (h pins s σ H _ I hw) fun u s1 x H1 I1 r1 q1=>?_;obtain ⟨i,rfl,q⟩:=q1;obtain ⟨t,rfl⟩:=r1;exact ⟨some i,H1,I1,.int i t,q⟩
def SlR (X:Cx) (r:V->Option Int->Option Int->Hp->VK->Prop):Prop :=
 ∀ (pins:List (Addr × Obj)) (s:Shared) (σ:St) (H:Hp) (x:V) (v vl vu:Value) (lo hi:Option Int) (sl:Addr) (Q:VK),Inv X pins σ H s->RelV x v->s.heap.IsSliceOf sl vl vu .none->IsPart vl lo->IsPart vu hi->r x lo hi H Q ->
   ∃ T id,typeLookup (.type T) "__getitem__"=pure (some (.builtin id))/\s.TypeIs v T/\wpAny (model X.prog X.w) X.A (getItem v (.ref sl)) (EP X pins σ Q) X.xe s
def tSl (r:V->Option Int->Option Int->Hp->VK->Prop) (te:TE) (tl th:TO):TE:=fun σ H Q=>te σ H fun x H1=>tl σ H1 fun l H2=>th σ H2 fun u H3=>r x l u H3 Q
theorem iK {r:V->Option Int->Option Int->Hp->VK->Prop} (hr:SlR X r) (he:PE X e te) (hl:PO X lo tl) (hu:PO X hi th):PE X (.Subscript e (.Slice lo hi none p2) pos) (tSl r te tl th):=by
 intro pins s σ H Q I h;refine Subscript_ (bh (he pins s σ H _ I h) fun v s1 x H1 I1 r1 q1=>?_);refine wpAny_Slice (thn (hl pins s1 σ H1 _ I1 q1) fun vl s2 ⟨l,H2,I2,pl,q2⟩=>thn (hu pins s2 σ H2 _ I2 q2) fun vu s3 ⟨u,H3,I3,pu,q3⟩=>?_);rw [evalPart_none];refine wpAny_pure ?_;have I4:Inv X pins σ H3 { s3 with heap:=s3.heap.push { cls:=.type "slice",data:=.fields #[vl,vu,.none] } }:=I3.kept (t':=s3.toks) fun b ob q=>Heap.get?_push_of_some _ q;obtain ⟨T,id,hT,ht,hg⟩:=hr pins { s3 with heap:=s3.heap.push { cls:=.type "slice",data:=.fields #[vl,vu,.none] } } σ H3 x v vl vu l u s3.heap.objs.size Q I4 r1 (Heap.IsSliceOf.new ..) pl pu q3;show wpAny (model X.prog X.w) X.A (subscriptTail e (.Slice lo hi none p2) v (.ref s3.heap.objs.size)) (EP X pins σ Q) X.xe { s3 with heap:=s3.heap.push { cls:=.type "slice",data:=.fields #[vl,vu,.none] } };exact tail_any (ops:=[.ref s3.heap.objs.size,v]) ht hT hg (by with_unfolding_all rfl)
def lV (xs:List V) (lo hi:Option Int):List V:=(xs.drop (HT.sIx xs.length 0 lo)).take (HT.sIx xs.length xs.length hi - HT.sIx xs.length 0 lo)
theorem BS (xs:List V) (lo hi:Option Int):(lV xs lo hi).length<=xs.length:=by
 unfold lV;rw [List.length_take,List.length_drop];omega
end
end L2
namespace L2
open PySem PySem.Spec PyProof.Rows
def ixN (n:Nat) (i:Int):Option Nat:=if 0<=i then (if i<n then some i.toNat else none) else if -(n:Int)<=i then some (i+n).toNat else none
def atI {α:Type} (xs:List α) (i:Int):Option α:=(ixN xs.length i).bind fun j=>xs[j]?
theorem Cr {n:Nat} {i:Int} {j:Nat} (h:ixN n i=some j):seqIndex? i n=some j/\j<n/\-(n:Int)<=i/\i<n:=by
 unfold ixN at h;by_cases h0:0<=i
 . rw [if_pos h0] at h;by_cases h1:i<n
   . rw [if_pos h1] at h;have e:i.toNat=j:=Option.some.inj h;exact ⟨by rw [seqIndex_of h0 h1,e],by omega,by omega,h1⟩
   . rw [if_neg h1] at h;cases h
 . rw [if_neg h0] at h;by_cases h1:-(n:Int)<=i
   . rw [if_pos h1] at h;have e:(i+n).toNat=j:=Option.some.inj h;exact ⟨by rw [seqIndex_neg (by omega) h1,e],by omega,h1,by omega⟩
   . rw [if_neg h1] at h;cases h
theorem yh {α:Type} {xs:List α} {i:Int} {v:α} (h:atI xs i=some v):∃ j,seqIndex? i xs.length=some j/\xs[j]?=some v/\j<xs.length/\-(xs.length:Int)<=i/\i<xs.length:=by
 unfold atI at h;cases e:ixN xs.length i with
 | none=>rw [e] at h;cases h
 | some j =>
   rw [e] at h;obtain ⟨h1,h2,h3,h4⟩:=Cr e;exact ⟨j,h1,h,h2,h3,h4⟩
theorem pM {α:Type} {xs:List α} {j:Nat} {v:α} (h:xs[j]?=some v):atI xs (j:Int)=some v:=by
 have hj:j<xs.length:=(List.getElem?_eq_some_iff.mp h).1;have e:ixN xs.length (j:Int)=some j:=by
   unfold ixN;rw [if_pos (by omega),if_pos (by omega)];simp
 unfold atI;rw [e];exact h
def HV (b:Expr):Prop:=∀ o i,subscripted b false o i=operate [o,i] (getItem o i)
def IxR (X:Cx) (r:R2):Prop :=
 ∀ (value slice:Expr) (pins:List (Addr × Obj)) (s:Shared) (σ:St) (H:Hp) (x y:V) (v u:Value) (Q:VK),Inv X pins σ H s->RelV x v->RelV y u->r x y H Q ->
   subscripted slice false v u=operate [v,u] (getItem v u)->wpAny (model X.prog X.w) X.A (subscriptTail value slice v u) (EP X pins σ Q) X.xe s
def MtR (X:Cx) (id:String) (r:V->List V->Hp->VK->Prop):Prop :=
 ∀ (pins:List (Addr × Obj)) (s:Shared) (σ:St) (H:Hp) (x:V) (xs:List V) (v:Value) (us:List Value) (Q:VK),Inv X pins σ H s->RelV x v->Vals xs us->r x xs H Q ->
   wpAny (model X.prog X.w) X.A (call (.builtin id) (v::us)) (EP X pins σ Q) X.xe s
section
variable {X:Cx} {a b:Expr} {ta tb:TE} {pos:Pos}
theorem aF {r:R2} (hr:IxR X r) (ha:PE X a ta) (hb:PE X b tb) (hs:HV b):PE X (.Subscript a b pos) (tOp r ta tb):=by
 intro pins s σ H Q I h;exact Subscript_ (FI ha hb I h fun v u s2 x y H2 I2 rx ry q=>hr a b pins s2 σ H2 x y v u Q I2 rx ry q (hs _ _))
def F6 (K:PySem.W.Frag):R2:=fun x y H Q=>∃ p xs i v,x=.ref p/\y=.int i/\SqL K H p xs/\atI xs i=some v/\Q v H
def Jt (K:PySem.W.Frag):R2:=fun x y H Q=>∃ p xs i v,x=.ref p/\y=.int i/\SqT K H p xs/\atI xs i=some v/\Q v H
def rIxS:R2:=fun x y H Q=>∃ z i c,x=.str z/\y=.int i/\z.length<=sizeLine/\atI z.cps.toList i=some c/\Q (.str ⟨#[c]⟩) H
theorem aQ:IxR X (F6 X.K):=by
 intro value slice pins s σ H x y v u Q I rx ry h hs;obtain ⟨p,xs,i,z,rfl,rfl,hq,he,q⟩:=h;cases rx;obtain ⟨t,rfl⟩:=ry;obtain ⟨its,r,pl,hz⟩:=I.list hq;obtain ⟨j,h1,h2,h3,h4,h5⟩:=yh he;obtain ⟨w,ew,rw'⟩:=r.get h2;have hl:=r.length;have hn:=lJ;have fin:EP X pins σ Q w s:=⟨z,H,I,rw',q⟩;by_cases h0:0<=i
 . have hj:i.toNat=j:=by
     rw [seqIndex_of h0 h5] at h1;exact Option.some.inj h1
   exact item_listR pl.isList h0 (by omega) (by rw [hj];simpa using ew) fin hs
 . have hj:(i+(its.toArray.size:Int)).toNat=j:=by
     rw [seqIndex_neg (by omega) h4] at h1;rw [List.size_toArray,<- hl];exact Option.some.inj h1
   exact subscriptTail_builtinR (x:=w) pl.isList.typeIs slot_list_getitem.lookup
     (wpAny_getItem_list_neg (Q:=fun r s'=>r=w/\EP X pins σ Q r s') pl.isList (by omega) (by rw [List.size_toArray] <;> omega) (by omega) (by rw [hj];simpa using ew) ⟨rfl,fin⟩) hs
theorem dR:IxR X (Jt X.K):=by
 intro value slice pins s σ H x y v u Q I rx ry h hs;obtain ⟨p,xs,i,z,rfl,rfl,hq,he,q⟩:=h;cases rx;obtain ⟨t,rfl⟩:=ry;obtain ⟨its,r,pl,hz⟩:=I.tuple hq;obtain ⟨j,h1,h2,h3,h4,h5⟩:=yh he;obtain ⟨w,ew,rw'⟩:=r.get h2;have hl:=r.length;have hn:=lJ;have fin:EP X pins σ Q w s:=⟨z,H,I,rw',q⟩;exact subscriptTail_builtinR (x:=w) pl.typeIs slot_tuple_getitem.lookup
   (getItem_tuple (j:=j) (Q:=fun r s'=>r=w/\EP X pins σ Q r s') pl (by omega) (by omega) (by rw [List.size_toArray,<- hl];exact h1) (by simpa using ew) ⟨rfl,fin⟩) hs
theorem AN:IxR X rIxS:=by
 intro value slice pins s σ H x y v u Q I rx ry h hs;obtain ⟨z,i,c,rfl,rfl,hz,he,q⟩:=h;obtain ⟨t,rfl⟩:=rx;obtain ⟨t',rfl⟩:=ry;obtain ⟨j,h1,h2,h3,h4,h5⟩:=yh he;have hl:z.cps.toList.length=z.length:=by simp [Str.length]
 rw [hl] at h1 h4 h5;have hn:=lJ;exact tail_any (typeIs_str s z t) slot_str_getitem.lookup (getItem_str (c:=c) (by
   have e1:decide (i < -(2^63:Int))=false:=decide_eq_false (by omega);have e2:decide (i ≥ 2^63)=false:=decide_eq_false (by omega);rw [e1,e2,Bool.or_false]) (by rw [h1];simpa using h2) ⟨.str ⟨#[c]⟩,H,I.tok _,⟨_,rfl⟩,q⟩) hs
theorem Dj (its:List Value) (n j:Nat) (u:Value):Obj.mapSeq (·.setIfInBounds j u) { cls:=.type "list",data:=.seq its.toArray n }={ cls:=.type "list",data:=.seq (its.set j u).toArray n }:=by
 simp [Obj.mapSeq]
theorem Inv.lst {pins:List (Addr × Obj)} {σ:St} {H:Hp} {s:Shared} {p:Addr} {xs:List V} (I:Inv X pins σ H s) (h:H p=some (.lst xs)) :
   ∃ (its:List Value) (n:Nat),Vals xs its/\s.heap.get? p=some { cls:=.type "list",data:=.seq its.toArray n }/\xs.length<=sizeLine:=by
 obtain ⟨z,its,n,r,e⟩:=I.hok p _ h;exact ⟨its,n,r,e,z⟩
theorem Inv.lstUpd {pins:List (Addr × Obj)} {σ:St} {H:Hp} {s:Shared} {p:Addr} {xs ys:List V} {its its':List Value} {n n':Nat} {f:Obj->Obj} (I:Inv X pins σ H s) (h:H p=some (.lst xs))
   (ho:s.heap.get? p=some { cls:=.type "list",data:=.seq its.toArray n }) (hf:f { cls:=.type "list",data:=.seq its.toArray n }={ cls:=.type "list",data:=.seq its'.toArray n' }) (r:Vals ys its') (hz:ys.length<=sizeLine) (t:Nat) :
   Inv X pins σ (upd H p (.lst ys)) { s with heap:=s.heap.update p f,toks:=t }:=by
 have e:(s.heap.update p f).get? p=some { cls:=.type "list",data:=.seq its'.toArray n' }:=by
   rw [Heap.get?_update_self f ho (by rw [hf] <;> rfl),hf]
 refine I.write (x:=p) (e:=p) (by rw [h];trivial) (.inl rfl) (fun b u hb q=>(Heap.get?_update_other _ _ (Ne.symm hb)).trans q) ⟨_,e⟩ ?_;exact ⟨hz,its',n',r,e⟩
def rSetL:V->V->V->Hp->(Hp->Prop)->Prop:=fun o i v H Q=>∃ p xs k j,o=.ref p/\i=.int k/\H p=some (.lst xs)/\ixN xs.length k=some j/\Q (upd H p (.lst (xs.set j v)))
theorem qC:JH X rSetL:=by
 intro pins s σ H o i v ov iv u Q I ro ri rv h;obtain ⟨p,xs,k,j,rfl,rfl,hp,hj,q⟩:=h;cases ro;obtain ⟨t,rfl⟩:=ri;obtain ⟨its,n,r,ho,hz⟩:=I.lst hp;obtain ⟨h1,h2,h3,h4⟩:=Cr hj;have hl:=r.length;have hn:=lJ;have I':Inv X pins σ (upd H p (.lst (xs.set j v))) { s with heap:=s.heap.update p (Obj.mapSeq (·.setIfInBounds j u)) } :=
   I.lstUpd hp ho (Dj its n j u) (r.set rv j) (by rw [List.length_set];exact hz) s.toks
 by_cases h0:0<=k
 . have hk:k.toNat=j:=by
     rw [seqIndex_of h0 h4] at h1;exact Option.some.inj h1
   exact PySem.W.ki_setAt ho h0 (by omega) (by rw [List.size_toArray,<- hl];exact h4) (by rw [hk];exact ⟨_,I',q⟩)
 . have hk:(k+(its.toArray.size:Int)).toNat=j:=by
     rw [seqIndex_neg (by omega) h3] at h1;rw [List.size_toArray,<- hl];exact Option.some.inj h1
   exact PySem.W.ki_setBack ho (by omega) (by rw [List.size_toArray,<- hl];exact h3) (by omega) (by rw [hk];exact ⟨_,I',q⟩)
theorem Bd (lo hi:Option Int) (n:Nat):(sliceBounds lo hi none n).1=((HT.sIx n 0 lo:Nat):Int)/\(sliceBounds lo hi none n).2.1=((HT.sIx n n hi:Nat):Int)/\(sliceBounds lo hi none n).2.2=1:=by
 refine ⟨?_,?_,rfl⟩
 . cases lo with
   | none=>simp [sliceBounds,HT.sIx]
   | some i =>
     simp only [sliceBounds,HT.sIx,Option.getD_none,show (1:Int) > 0 by decide,if_true];by_cases h:i<0
     . simp only [h,if_true] <;> omega
     . simp only [h,if_false] <;> omega
 . cases hi with
   | none=>simp [sliceBounds,HT.sIx]
   | some i =>
     simp only [sliceBounds,HT.sIx,Option.getD_none,show (1:Int) > 0 by decide,if_true];by_cases h:i<0
     . simp only [h,if_true] <;> omega
     . simp only [h,if_false] <;> omega
theorem zb (its:List Value) (lo hi:Option Int):slicePick its.toArray lo hi none=((its.drop (HT.sIx its.length 0 lo)).take (HT.sIx its.length its.length hi - HT.sIx its.length 0 lo)).toArray:=by
 obtain ⟨h1,h2,h3⟩:=Bd lo hi its.toArray.size;unfold slicePick;rw [h1,h2,h3];simp only [sliceRange_one,pick_run,List.size_toArray] <;> rfl
def IV (K:PySem.W.Frag):V->Option Int->Option Int->Hp->VK->Prop:=fun x lo hi H Q=>∃ a xs,x=.ref a/\SqL K H a xs/\∀ p,H p=none->Q (.ref p) (upd H p (.lst (lV xs lo hi)))
theorem mG:SlR X (IV X.K):=by
 intro pins s σ H x v vl vu lo hi sl Q I rx hs pl pu h;obtain ⟨a,xs,rfl,hx,q⟩:=h;cases rx;obtain ⟨its,r,ht,hz⟩:=I.list hx;have hlen:=r.length;refine ⟨"list",_,slot_list_getitem.lookup,ht.isList.typeIs,?_⟩;refine wpAny_getItem_list_slice ht.isList hs pl pu .none (by simp) ?_ (by rw [List.size_toArray] <;> omega);rw [zb,<- hlen];refine ⟨.ref s.heap.objs.size,_,I.laid (t':=s.toks) (o:=.lst (lV xs lo hi)) (fun b ob q=>Heap.get?_push_of_some _ q) (Nat.le_refl _) ?_,rfl,q _ (I.hok.fresh (Nat.le_refl _))⟩;exact ⟨Nat.le_trans (BS xs lo hi) hz,_,0,(r.drop (HT.sIx xs.length 0 lo)).take (HT.sIx xs.length xs.length hi - HT.sIx xs.length 0 lo),Heap.get?_push_size _ rfl⟩
def ms:V->Bool
 | .non=>true
 | .bl _=>true
 | .int _=>true
 | .str _=>true
 | _=>false
def eqV:V->V->Bool
 | .non,.non=>true
 | .bl a,.bl b=>a == b
 | .bl a,.int b=>(if a then 1 else 0) == b
 | .int a,.bl b=>a == (if b then 1 else 0)
 | .int a,.int b=>a == b
 | .str a,.str b=>a == b
 | _,_=>false
theorem Jh {A:Around} {s:Shared} {y x:V} {u v:Value} (ry:RelV y u) (rx:RelV x v) (fy:ms y=true) (fx:ms x=true):SeqAt.EqAt A s u v (eqV y x):=by
 cases y with
 | non =>
   cases ry;cases x with
   | non=>cases rx;exact SeqAt.EqAt.same _
   | bl b=>cases rx;exact SeqAt.EqAt.none_bool b
   | int b=>obtain ⟨t,rfl⟩:=rx;exact SeqAt.EqAt.none_int b t
   | str b=>obtain ⟨t,rfl⟩:=rx;exact SeqAt.EqAt.none_str b t
   | _=>exact absurd (show false=true from fx) Bool.false_ne_true
 | bl a =>
   cases ry;cases x with
   | non=>cases rx;exact SeqAt.EqAt.bool_none a
   | bl b=>cases rx;exact SeqAt.EqAt.bool_bool a b
   | int b=>obtain ⟨t,rfl⟩:=rx;exact SeqAt.EqAt.bool_int a b t
   | str b=>obtain ⟨t,rfl⟩:=rx;exact SeqAt.EqAt.bool_str a b t
   | _=>exact absurd (show false=true from fx) Bool.false_ne_true
 | int a =>
   obtain ⟨t',rfl⟩:=ry;cases x with
   | non=>cases rx;exact SeqAt.EqAt.int_none a t'
   | bl b=>cases rx;exact SeqAt.EqAt.int_bool a t' b
   | int b=>obtain ⟨t,rfl⟩:=rx;exact SeqAt.EqAt.int_int a t' b t
   | str b=>obtain ⟨t,rfl⟩:=rx;exact SeqAt.EqAt.int_str a t' b t
   | _=>exact absurd (show false=true from fx) Bool.false_ne_true
 | str a =>
   obtain ⟨t',rfl⟩:=ry;cases x with
   | non=>cases rx;exact SeqAt.EqAt.str_none a t'
   | bl b=>cases rx;exact SeqAt.EqAt.str_bool a t' b
   | int b=>obtain ⟨t,rfl⟩:=rx;exact SeqAt.EqAt.str_int a t' b t
   | str b=>obtain ⟨t,rfl⟩:=rx;exact SeqAt.EqAt.str_str a t' b t
   | _=>exact absurd (show false=true from fx) Bool.false_ne_true
 | _=>exact absurd (show false=true from fy) Bool.false_ne_true
def eqU (x:V) (u:Value):Bool:=match u with
 | .none=>eqV .non x
 | .bool b=>eqV (.bl b) x
 | .int i _=>eqV (.int i) x
 | .str z _=>eqV (.str z) x
 | _=>false
theorem EO {x y:V} {u:Value} (r:RelV y u) (f:ms y=true):eqU x u=eqV y x:=by
 cases y with
 | non=>cases r;rfl
 | bl b=>cases r;rfl
 | int i=>obtain ⟨t,rfl⟩:=r;rfl
 | str z=>obtain ⟨t,rfl⟩:=r;rfl
 | _=>exact absurd (show false=true from f) Bool.false_ne_true
theorem p8 {x:V}:∀ {xs:List V} {us:List Value},Vals xs us->xs.all ms=true->us.any (eqU x)=xs.any fun y=>eqV y x
 | _,_,.nil,_=>rfl
 | y::xs,u::us,.cons r t,f=>by
   rw [List.all_cons,Bool.and_eq_true] at f;rw [List.any_cons,List.any_cons,EO r f.1,p8 t f.2]
theorem nH {A:Around} {s:Shared} {x:V} {v:Value} (rx:RelV x v) (fx:ms x=true):∀ {xs:List V} {us:List Value},Vals xs us->xs.all ms=true->∀ u∈us,SeqAt.EqAt A s u v (eqU x u)
 | _,_,.nil,_=>fun u hu=>by cases hu
 | y::xs,u::us,.cons r t,f=>fun u' hu=>by
   rw [List.all_cons,Bool.and_eq_true] at f;rcases List.mem_cons.mp hu with rfl|hu
   . rw [EO r f.1];exact Jh r rx f.1 fx
   . exact nH rx fx t f.2 u' hu
def inV (x:V) (xs:List V):Bool:=xs.any fun y=>eqV y x
def rIn (K:PySem.W.Frag) (neg:Bool):R2:=fun x y H Q=>∃ p xs,y=.ref p/\(SqL K H p xs\/SqT K H p xs)/\ms x=true/\xs.all ms=true/\Q (.bl (if neg then !inV x xs else inV x xs)) H
theorem Ew:OpR X (compareOp .In) (rIn X.K false):=by
 intro pins s σ H x y v u Q I rx ry h;obtain ⟨p,xs,rfl,hq,fx,fs,q⟩:=h;cases ry;rcases hq with hq|hq
 . obtain ⟨its,r,pl,hz⟩:=I.list hq;refine SeqAt.in_listAt (eqU x) pl.isList (fun w hw=>nH rx fx r fs w (by simpa using hw)) ⟨.bl _,H,I,rfl,?_⟩;rw [show its.toArray.any (eqU x)=its.any (eqU x) by simp,p8 r fs];exact q
 . obtain ⟨its,r,pl,hz⟩:=I.tuple hq;refine SeqAt.in_tupleAt (eqU x) pl (fun w hw=>nH rx fx r fs w (by simpa using hw)) ⟨.bl _,H,I,rfl,?_⟩;rw [show its.toArray.any (eqU x)=its.any (eqU x) by simp,p8 r fs];exact q
theorem Bi:OpR X (compareOp .NotIn) (rIn X.K true):=by
 intro pins s σ H x y v u Q I rx ry h;obtain ⟨p,xs,rfl,hq,fx,fs,q⟩:=h;cases ry;rcases hq with hq|hq
 . obtain ⟨its,r,pl,hz⟩:=I.list hq;refine SeqAt.notIn_listAt (eqU x) pl.isList (fun w hw=>nH rx fx r fs w (by simpa using hw)) ⟨.bl _,H,I,rfl,?_⟩;rw [show its.toArray.any (eqU x)=its.any (eqU x) by simp,p8 r fs];exact q
 . obtain ⟨its,r,pl,hz⟩:=I.tuple hq;refine SeqAt.notIn_tupleAt (eqU x) pl (fun w hw=>nH rx fx r fs w (by simpa using hw)) ⟨.bl _,H,I,rfl,?_⟩;rw [show its.toArray.any (eqU x)=its.any (eqU x) by simp,p8 r fs];exact q
theorem AL:OpR X (compareOp .NotIn) (fun x y H Q=>∃ i j,x=.str i/\y=.str j/\Q (.bl (!(!(Builtin.Str.occurrences j i 0 j.length 1).isEmpty))) H):=by
 intro pins s σ H x y v u Q I rx ry h;obtain ⟨i,j,rfl,rfl,q⟩:=h;obtain ⟨t,rfl⟩:=rx;obtain ⟨t',rfl⟩:=ry;exact notIn_str ⟨.bl _,H,I,rfl,q⟩
theorem aN:dI X (.builtin "len") (fun xs H Q=>∃ p ys,xs=[.ref p]/\(SqL X.K H p ys\/SqT X.K H p ys)/\Q (.int ys.length) H):=by
 intro pins s σ H xs us Q I r h;obtain ⟨p,ys,rfl,hq,q⟩:=h;obtain ⟨u,rfl,rx⟩:=iP r;cases rx;have hn:=lJ;rcases hq with hq|hq
 . obtain ⟨its,r',pl,hz⟩:=I.list hq;have hlen:=r'.length;exact Calls.call_len_list pl.isList (by simp only [List.size_toArray] <;> omega) ⟨.int ys.length,H,I.tok _,⟨s.toks+1,by rw [List.size_toArray,hlen]⟩,q⟩
 . obtain ⟨its,r',pl,hz⟩:=I.tuple hq;have hlen:=r'.length;exact len_tuple pl (by simp only [List.size_toArray] <;> omega) ⟨.int ys.length,H,I.tok _,⟨s.toks+1,by rw [List.size_toArray,hlen]⟩,q⟩
theorem gZ:dI X (.builtin "len") (fun xs H Q=>∃ z,xs=[.str z]/\z.length<=sizeLine/\Q (.int z.length) H):=by
 intro pins s σ H xs us Q I r h;obtain ⟨z,rfl,hz,q⟩:=h;obtain ⟨u,rfl,t,rfl⟩:=iP r;have hn:=lJ;exact len_str (by omega) ⟨.int z.length,H,I.tok _,⟨_,rfl⟩,q⟩
theorem Ax:dI X (.type "list") (fun xs H Q=>∃ p ys,xs=[.ref p]/\(SqL X.K H p ys\/SqT X.K H p ys)/\∀ l,H l=none->Q (.ref l) (upd H l (.lst ys))):=by
 intro pins s σ H xs us Q I r h;obtain ⟨p,ys,rfl,hq,q⟩:=h;obtain ⟨u,rfl,rx⟩:=iP r;cases rx;have fin:∀ (its:List Value),Vals ys its->ys.length<=sizeLine->∀ (h':Heap) (c':Nat),(∀ b o',s.heap.get? b=some o'->h'.get? b=some o') ->
     h'.get? s.heap.objs.size=some { cls:=.type "list",dict:=none,data:=.seq its.toArray c',slots:=#[] }->EP X pins σ Q (.ref s.heap.objs.size) { s with heap:=h' }:=fun its r' hz h' c' kp e =>
   ⟨.ref s.heap.objs.size,_,I.laid (t':=s.toks) kp (Nat.le_refl _) (show ObjOk X.prog X.w _ h' _ (.lst ys) from ⟨hz,its,c',r',e⟩),rfl,q _ (I.hok.fresh (Nat.le_refl _))⟩
 rcases hq with hq|hq
 . obtain ⟨its,r',pl,hz⟩:=I.list hq;have hlen:=r'.length;obtain ⟨o,ho,hc,n,hd⟩:=pl.isList;exact call_list_seq p (.inl rfl) ho hc hd (fun h' c' kp e=>fin its r' hz h' c' kp e) (by simp only [List.size_toArray] <;> omega)
 . obtain ⟨its,r',pl,hz⟩:=I.tuple hq;have hlen:=r'.length;obtain ⟨o,ho,hc,n,hd⟩:=pl;exact call_list_seq p (.inr rfl) ho hc hd (fun h' c' kp e=>fin its r' hz h' c' kp e) (by simp only [List.size_toArray] <;> omega)
theorem gv:dI X (.type "tuple") (fun xs H Q=>∃ p ys,xs=[.ref p]/\((SqL X.K H p ys/\∀ l,H l=none->Q (.ref l) (upd H l (.tup ys)))\/(SqT X.K H p ys/\Q (.ref p) H))):=by
 intro pins s σ H xs us Q I r h;obtain ⟨p,ys,rfl,h⟩:=h;obtain ⟨u,rfl,rx⟩:=iP r;cases rx;rcases h with ⟨hq,q⟩|⟨hq,q⟩
 . obtain ⟨its,r',pl,hz⟩:=I.list hq;have hlen:=r'.length;refine call_tuple_list pl.isList (fun h' kp=>?_) (by simp only [List.size_toArray] <;> omega);have I1:Inv X pins σ H { s with heap:=h' }:=I.kept (t':=s.toks) kp;have I2:Inv X pins σ (upd H h'.objs.size (.tup ys)) { s with heap:=h'.push { cls:=.type "tuple",data:=.seq its.toArray } } :=
     I1.laid (t':=s.toks) (fun b o e=>Heap.get?_push_of_some _ e) (Nat.le_refl _) (show ObjOk X.prog X.w _ _ _ (.tup ys) from ⟨hz,its,r',IsTup.new _ _⟩)
   exact ⟨.ref h'.objs.size,_,I2,rfl,q _ (I1.hok.fresh (Nat.le_refl _))⟩
 . obtain ⟨its,r',pl,hz⟩:=I.tuple hq;exact call_tuple_same pl ⟨.ref p,H,I,rfl,q⟩
def tyV (K:PySem.W.Frag) (T:String) (x:V) (H:Hp):Prop:=match x with
 | .str _=>T="str"
 | .int _=>T="int"
 | .ref p=>(T="list"/\∃ xs,SqL K H p xs)\/(T="tuple"/\∃ o,K.lookup p=some o/\o.cls=.type "tuple"/\o.dict=none) \/
     (T="dict"/\((∃ kvs,H p=some (.dK kvs))\/∃ kvs,H p=some (.dT kvs)))\/(T="set"/\∃ S n,H p=some (.set S n))
 | _=>False
theorem Ey {pins:List (Addr × Obj)} {σ:St} {H:Hp} {s:Shared} {T:String} {x:V} {v:Value} (I:Inv X pins σ H s) (r:RelV x v) (ty:tyV X.K T x H) :
   s.TypeIs v T/\∀ a,v=.ref a->∃ ob,s.heap.get? a=some ob/\ob.dict=none:=by
 cases x with
 | str z =>
   obtain ⟨t,rfl⟩:=r;cases (show T="str" from ty);exact ⟨typeIs_str s z t,fun _ e=>nomatch e⟩
 | int i =>
   obtain ⟨t,rfl⟩:=r;cases (show T="int" from ty);exact ⟨typeIs_int s i t,fun _ e=>nomatch e⟩
 | ref p =>
   cases r;rcases ty with ⟨rfl,xs,hq⟩|⟨rfl,o,hk,hc,hd⟩|⟨rfl,hk⟩|⟨rfl,S,n,hk⟩
   . obtain ⟨its,_,pl,_⟩:=I.list hq;refine ⟨pl.isList.typeIs,fun a e=>?_⟩;cases e;obtain ⟨o,n,e,c,hd,_⟩:=pl;exact ⟨o,e,hd⟩
   . refine ⟨⟨o,I.kIn p o hk,hc⟩,fun a e=>?_⟩;cases e;exact ⟨o,I.kIn _ o hk,hd⟩
   . have z:∃ o,s.heap.get? p=some o/\o.ExactDict:=by
       rcases hk with ⟨kvs,hk⟩|⟨kvs,hk⟩
       . obtain ⟨_,_,_,_,o,_,_,e,ex,_⟩:=I.hok p _ hk;exact ⟨o,e,ex⟩
       . obtain ⟨_,_,_,_,o,_,_,e,ex,_⟩:=I.hok p _ hk;exact ⟨o,e,ex⟩
     obtain ⟨o,e,ex⟩:=z;refine ⟨⟨o,e,ex.1⟩,fun a e2=>?_⟩;cases e2;exact ⟨o,e,ex.2.1⟩
   . obtain ⟨o,_,_,_,e,ex,_⟩:=I.hok p _ hk;refine ⟨⟨o,e,ex.1⟩,fun a e2=>?_⟩;cases e2;exact ⟨o,e,ex.2.1⟩
 | _=>exact False.elim ty
def GA (K:PySem.W.Frag) (T:String) (r:V->List V->Hp->VK->Prop) (to:TE):TE:=fun σ H Q=>to σ H fun x H1=>tyV K T x H1/\r x [] H1 Q
def tBM (K:PySem.W.Frag) (T:String) (r:V->List V->Hp->VK->Prop) (to:TE) (t:TA):TE:=fun σ H Q=>to σ H fun x H1=>tyV K T x H1/\t σ H1 fun xs H2=>r x xs H2 Q
variable {o e:Expr} {es:List Expr} {to:TE} {t:TA} {name:Str} {apos cpos:Pos} {T id:String} {r:V->List V->Hp->VK->Prop}
theorem Jk (pa:PlainAttrs T) (slot:Slot T name id) (hty:typeOf (.builtin id)=pure (.type "method_descriptor")) (hm:MtR X id r) (ho:PE X o to)
   (hbase:attributeBase o name X.env (eval o X.env)=eval o X.env:=by rfl) (hline:(apos.endLine == cpos.line)=true:=by rfl):PE X (.Call (.Attribute o name apos) [] [] cpos) (GA X.K T r to):=by
 intro pins s σ H Q I h;refine wpAny_Call_method0_late hbase hline (bh (ho pins s σ H _ I h) fun v s1 x H1 I1 r1 ⟨ty,q1⟩=>?_);obtain ⟨h1,h2⟩:=Ey I1 r1 ty;exact ⟨T,id,pa,slot,hty,h1,h2,Calls.callWith_builtin rfl (PySem.evalArgs_none (hm pins s1 σ H1 x [] v [] Q I1 r1 .nil q1))⟩
theorem bN (pa:PlainAttrs T) (slot:Slot T name id) (hty:typeOf (.builtin id)=pure (.type "method_descriptor")) (hm:MtR X id r) (ho:PE X o to) (ha:PA X (e::es) t)
   (hbase:attributeBase o name X.env (eval o X.env)=eval o X.env:=by rfl)
   (hfew:((backTo cpos (starEach (e::es) X.env)).all (fun x=>!x.1) && (backToKw cpos (keywordEach [] X.env)).all (fun x=>x.1.isSome)
     && decide ((e::es).length+([]:List Keyword).length+(if ([]:List Keyword).isEmpty then 0 else 1)<30))=true:=by rfl)
   (hline:(apos.endLine == cpos.line)=true:=by rfl) (hs:starEach (e::es) X.env=(false,eval e X.env)::starEach es X.env:=by rfl) (hplain:(backTo cpos (starEach es X.env)).any (·.1)=false:=by rfl) :
   PE X (.Call (.Attribute o name apos) (e::es) [] cpos) (tBM X.K T r to t):=by
 intro pins s σ H Q I h;refine wpAny_Call_method_late hbase hfew hline rfl (bh (ho pins s σ H _ I h) fun v s1 x H1 I1 r1 ⟨ty,q1⟩=>?_);obtain ⟨h1,h2⟩:=Ey I1 r1 ty;refine ⟨T,id,pa,slot,hty,h1,h2,?_⟩;have hA:=ha cpos pins s1 σ H1 _ I1 q1;rw [hs] at hA ⊢;refine Calls.callWith_builtin (by show (false || (backTo cpos (starEach es X.env)).any (·.1))=false;rw [hplain] <;> rfl) (Calls.evalArgs_plain ?_);exact thn hA fun us s2 ⟨vs,H2,I2,r2,q2⟩=>hm pins s2 σ H2 x vs v us Q I2 r1 r2 q2
end
end L2
namespace L2
open PySem PySem.Spec PyProof.Rows
def MtM (X:Cx) (id:String) (r:V->List V->Hp->VK->Prop):Prop :=
 ∀ (pins:List (Addr × Obj)) (s:Shared) (σ:St) (H:Hp) (x:V) (xs:List V) (v:Value) (us:List Value) (Q:VK),Inv X pins σ H s->RelV x v->Vals xs us->r x xs H Q ->
   wpAny (model X.prog X.w) X.A (call (.builtin id) (v::us)) (EP X pins σ Q) X.xe s
theorem Vals.one {x:V} {us:List Value} (h:Vals [x] us):∃ u,us=[u]/\RelV x u:=by
 cases h with
 | cons r t=>cases t;exact ⟨_,rfl,r⟩
theorem Vals.two {x y:V} {us:List Value} (h:Vals [x,y] us):∃ u v,us=[u,v]/\RelV x u/\RelV y v:=by
 cases h with
 | cons r t =>
   obtain ⟨v,e,q⟩:=Vals.one t;subst e;exact ⟨_,v,rfl,r,q⟩
theorem Vals.zero:∀ {us:List Value},Vals [] us->us=[]
 | _,.nil=>rfl
theorem Vals.dropLast {xs:List V} {us:List Value} (h:Vals xs us):Vals xs.dropLast us.dropLast:=by
 induction h with
 | nil=>exact .nil
 | cons r t ih =>
   cases t with
   | nil=>exact .nil
   | cons q t'=>exact .cons r ih
theorem Vals.eraseIdx:∀ {xs:List V} {us:List Value} (i:Nat),Vals xs us->Vals (xs.eraseIdx i) (us.eraseIdx i)
 | _,_,_,.nil=>.nil
 | _,_,0,.cons _ t=>t
 | _,_,i+1,.cons r t=>.cons r (Vals.eraseIdx i t)
theorem Vals.reverse {xs:List V} {us:List Value} (h:Vals xs us):Vals xs.reverse us.reverse:=by
 induction h with
 | nil=>exact .nil
 | cons r t ih=>rw [List.reverse_cons,List.reverse_cons];exact Vals.append ih (.cons r .nil)
theorem CM {α:Type} (l:List α):l.eraseIdx (l.length - 1)=l.dropLast:=by
 induction l with
 | nil=>rfl
 | cons a r ih =>
   cases r with
   | nil=>rfl
   | cons b r =>
     have e:(a::b::r).length - 1=((b::r).length - 1)+1:=by
       have h1:(a::b::r).length=r.length+2:=rfl;have h2:(b::r).length=r.length+1:=rfl;omega
     rw [e,List.eraseIdx_cons_succ,ih]
     all_goals rfl
theorem yR {α:Type}:∀ (l:List α) (i:Nat),(l.eraseIdx i).length<=l.length
 | [],_=>Nat.le_refl _
 | _::_,0=>Nat.le_succ _
 | _::r,i+1=>Nat.succ_le_succ (yR r i)
section
variable {X:Cx} {pins:List (Addr × Obj)} {σ:St} {H:Hp} {s:Shared} {l b:Addr} {xs ys zs:List V}
theorem Inv.lset {its its':List Value} {n:Nat} {f:Array Value->Array Value} {t':Nat} (I:Inv X pins σ H s) (hH:H l=some (.lst xs))
   (e:s.heap.get? l=some { cls:=.type "list",data:=.seq its.toArray n }) (hf:f its.toArray=its'.toArray) (hv:Vals ys its') (hz:ys.length<=sizeLine) :
   Inv X pins σ (upd H l (.lst ys)) { s with heap:=s.heap.update l (Obj.mapSeq f),toks:=t' }:=by
 have q:=PySem.IsL.update e f;rw [hf] at q;refine I.write (x:=l) (e:=l) (by rw [hH];exact trivial) (.inl rfl) (fun b' u hb hu=>(Heap.get?_update_other s.heap (Obj.mapSeq f) (Ne.symm hb)).trans hu) ⟨_,q⟩ ?_;exact ⟨hz,its',_,hv,q⟩
theorem Inv.lnew {its:List Value} {t':Nat} (I:Inv X pins σ H s) (hv:Vals ys its) (hz:ys.length<=sizeLine) :
   Inv X pins σ (upd H s.heap.objs.size (.lst ys)) { s with heap:=s.heap.push { cls:=.type "list",data:=.seq its.toArray },toks:=t' } :=
 I.laid (fun _ _ q=>Heap.get?_push_of_some _ q) (Nat.le_refl _) ⟨hz,its,0,hv,Heap.get?_push_size _ rfl⟩
theorem Inv.fresh (I:Inv X pins σ H s):H s.heap.objs.size=none:=I.hok.fresh (Nat.le_refl _)
theorem Inv.lstM (I:Inv X pins σ H s) (hH:H l=some (.lst xs)):xs.length<=sizeLine/\∃ (its:List Value) (n:Nat),Vals xs its/\xs.length=its.length/\s.heap.get? l=some { cls:=.type "list",data:=.seq its.toArray n }:=by
 obtain ⟨z,its,n,r,e⟩:=I.hok l _ hH;exact ⟨z,its,n,r,r.length,e⟩
end
section
variable {X:Cx}
def rAppend:V->List V->Hp->VK->Prop:=fun x vs H Q=>∃ l xs y,x=.ref l/\vs=[y]/\H l=some (.lst xs)/\xs.length<sizeLine/\Q .non (upd H l (.lst (xs++[y])))
theorem cG:MtM X "list.append" rAppend:=by
 intro pins s σ H x vs v us Q I rx rv h;obtain ⟨l,xs,y,rfl,rfl,hH,hz,q⟩:=h;cases rx;obtain ⟨u,rfl,ru⟩:=rv.one;obtain ⟨z,its,n,r,hl,e⟩:=I.lstM hH;refine call_meets F.slot_list_append ⟨_,e,rfl⟩ F.entry_list_append (F.args_list_append_2 _ _) (PySem.list_append l its.toArray n u (by rw [List.size_toArray];omega)) ⟨e,?_⟩;refine ⟨.non,_,I.lset (its':=its++[u]) hH e (by simp) (r.append (.cons ru .nil)) ?_,rfl,q⟩;rw [List.length_append,List.length_singleton];omega
def rPop:V->List V->Hp->VK->Prop:=fun x vs H Q=>∃ l xs y,x=.ref l/\vs=[]/\H l=some (.lst xs)/\xs[xs.length - 1]?=some y/\Q y (upd H l (.lst xs.dropLast))
theorem JP:MtM X "list.pop" rPop:=by
 intro pins s σ H x vs v us Q I rx rv h;obtain ⟨l,xs,y,rfl,rfl,hH,hy,q⟩:=h;cases rx;have hus:=rv.zero;subst hus;obtain ⟨z,its,n,r,hl,e⟩:=I.lstM hH;obtain ⟨u,hu,ru⟩:=r.get hy;have hy':its.toArray[its.toArray.size - 1]?=some u:=by
   show its.toArray[its.length - 1]?=some u;rw [<- Array.getElem?_toList,<- hl];exact hu
 refine call_meets F.slot_list_pop ⟨_,e,rfl⟩ F.entry_list_pop (F.args_list_pop_1 _) (MeetsSeq.list_pop_last l its.toArray n u hy' (by rw [List.size_toArray];omega)) ⟨e,?_⟩;refine ⟨y,_,I.lset (its':=its.dropLast) hH e ?_ r.dropLast ?_,ru,q⟩
 . show its.toArray.eraseIdxIfInBounds (its.toArray.size - 1)=its.dropLast.toArray;rw [List.size_toArray,List.eraseIdxIfInBounds_toArray,CM]
 . rw [List.length_dropLast];omega
def rPopAt:V->List V->Hp->VK->Prop:=fun x vs H Q=>∃ l xs i k y,x=.ref l/\vs=[.int i]/\H l=some (.lst xs)/\-(2^63)<=i/\i<2^63/\seqIndex? i xs.length=some k/\xs[k]?=some y/\Q y (upd H l (.lst (xs.eraseIdx k)))
theorem AG:MtM X "list.pop" rPopAt:=by
 intro pins s σ H x vs v us Q I rx rv h;obtain ⟨l,xs,i,k,y,rfl,rfl,hH,h1,h2,hk,hy,q⟩:=h;cases rx;obtain ⟨u,rfl,ru⟩:=rv.one;obtain ⟨t,rfl⟩:=ru;obtain ⟨z,its,n,r,hl,e⟩:=I.lstM hH;obtain ⟨w,hw,rw'⟩:=r.get hy;refine call_meets F.slot_list_pop ⟨_,e,rfl⟩ F.entry_list_pop (F.args_list_pop_2 _ _)
   (MeetsSeq.list_pop_at l its.toArray n i t k w (fitsIndex_both h1 h2) (by rw [List.size_toArray,<- hl];exact hk) (by rw [<- Array.getElem?_toList];exact hw) (by rw [List.size_toArray];omega)) ⟨e,?_⟩
 refine ⟨y,_,I.lset (its':=its.eraseIdx k) hH e ?_ (r.eraseIdx k) ?_,rw',q⟩
 . show its.toArray.eraseIdxIfInBounds k=(its.eraseIdx k).toArray;rw [List.eraseIdxIfInBounds_toArray]
 . have:=yR xs k;omega
def rCat:R2:=fun x y H Q=>∃ l b xs zs,x=.ref l/\y=.ref b/\H l=some (.lst xs)/\H b=some (.lst zs)/\xs.length+zs.length<=sizeLine/\∀ p,H p=none->Q (.ref p) (upd H p (.lst (xs++zs)))
theorem vR:OpR X (binaryOp .Add) rCat:=by
 intro pins s σ H x y v u Q I rx ry h;obtain ⟨l,b,xs,zs,rfl,rfl,hH,hB,hz,q⟩:=h;cases rx;cases ry;obtain ⟨z,its,n,r,hl,e⟩:=I.lstM hH;obtain ⟨z2,its2,n2,r2,hl2,e2⟩:=I.lstM hB;refine PySem.P.add_list e e2 ?_ (by rw [List.size_toArray,List.size_toArray];omega);have ea:its.toArray++its2.toArray=(its++its2).toArray:=by simp
 rw [ea];exact ⟨.ref _,_,I.lnew (t':=s.toks) (r.append r2) (by rw [List.length_append];omega),rfl,q _ I.fresh⟩
end
section
variable {prog:Program} {w:World} {A:Around} {E:Value->Shared->Prop} {s:Shared}
set_option maxRecDepth 100000 in
end
section
variable {X:Cx}
end
end L2
namespace L2
open PySem PySem.Spec PyProof.Rows
section
variable {κ:Type} [DecidableEq κ]
def kx (kvs:List (κ × V)) (k:κ):Option V:=(kvs.find? fun kv=>decide (kv.1=k)).map (·.2)
def gH (kvs:List (κ × V)) (k:κ) (v:V):List (κ × V) :=
 if (kvs.any fun kv=>decide (kv.1=k))=true then kvs.map (fun kv=>if kv.1=k then (kv.1,v) else kv) else kvs++[(k,v)]
theorem qP {p:κ × V} {r:List (κ × V)} {k:κ} (e:p.1=k):kx (p::r) k=some p.2:=by simp [kx,List.find?_cons,e]
theorem rX {p:κ × V} {r:List (κ × V)} {k:κ} (e:¬ p.1=k):kx (p::r) k=kx r k:=by simp [kx,List.find?_cons,e]
theorem vv (k:κ):∀ kvs:List (κ × V),(kvs.any fun kv=>decide (kv.1=k))=(kx kvs k).isSome
 | []=>rfl
 | p::r=>by
   rw [List.any_cons];by_cases e:p.1=k
   . simp only [qP e,decide_eq_true e,Bool.true_or,Option.isSome_some]
   . rw [rX e,decide_eq_false e,Bool.false_or];exact vv k r
theorem pb (kvs:List (κ × V)) (k:κ) (v:V):(gH kvs k v).length<=kvs.length+1:=by
 unfold gH;split
 . rw [List.length_map];omega
 . rw [List.length_append,List.length_cons,List.length_nil];omega
theorem GY {kvs:List (κ × V)} {k:κ} (v:V) (h:kx kvs k=none):gH kvs k v=kvs++[(k,v)]:=by
 unfold gH;rw [vv,h];exact if_neg (by decide)
theorem RelO.isSome_eq {o:Option V} {u:Option Value} (r:RelO o u):o.isSome=u.isSome:=by
 cases o with
 | none=>cases u with
   | none=>rfl
   | some _=>exact (show False from r).elim
 | some _=>cases u with
   | none=>exact (show False from r).elim
   | some _=>rfl
theorem KV.val {kvs:List (κ × V)} {vs:List (κ × Value)} (r:KV kvs vs) (k:κ):RelO (kx kvs k) (valueAt vs k):=by
 unfold KV at r
 induction r with
 | nil=>exact True.intro
 | @cons p q ps qs h t ih =>
   obtain ⟨h1,h2⟩:=h;by_cases e:p.1=k
   . have e':q.1=k:=h1.symm.trans e;have b:valueAt (q::qs) k=some q.2:=(by simp [valueAt,List.find?_cons,e']);rw [qP e,b];exact h2
   . have e':¬ q.1=k:=fun z=>e (h1.trans z);have b:valueAt (q::qs) k=valueAt qs k:=(by simp [valueAt,List.find?_cons,e']);rw [rX e,b];exact ih
theorem KV.any {kvs:List (κ × V)} {vs:List (κ × Value)} (r:KV kvs vs) (k:κ):(kvs.any fun kv=>decide (kv.1=k))=vs.any fun kv=>decide (kv.1=k):=by
 unfold KV at r
 induction r with
 | nil=>rfl
 | cons h t ih=>rw [List.any_cons,List.any_cons,ih,h.1]
theorem KV.repl {kvs:List (κ × V)} {vs:List (κ × Value)} (r:KV kvs vs) (k:κ) {y:V} {u:Value} (ry:RelV y u) :
   KV (kvs.map fun kv=>if kv.1=k then (kv.1,y) else kv) (vs.map fun kv=>if kv.1=k then (kv.1,u) else kv):=by
 unfold KV at r ⊢
 induction r with
 | nil=>exact .nil
 | @cons p q ps qs h t ih =>
   rw [List.map_cons,List.map_cons];refine .cons ?_ ih;obtain ⟨h1,h2⟩:=h;by_cases e:p.1=k
   . rw [if_pos e,if_pos (h1.symm.trans e)];exact ⟨h1,ry⟩
   . rw [if_neg e,if_neg (fun z=>e (h1.trans z))];exact ⟨h1,h2⟩
theorem KV.put {kvs:List (κ × V)} {vs:List (κ × Value)} (r:KV kvs vs) (k:κ) {y:V} {u:Value} (ry:RelV y u):KV (gH kvs k y) (stored vs k u):=by
 unfold gH stored;rw [r.any k];by_cases e:(vs.any fun kv=>decide (kv.1=k))=true
 . rw [if_pos e,if_pos e];exact r.repl k ry
 . rw [if_neg e,if_neg e];exact Paired.snoc r ⟨rfl,ry⟩
theorem KV.length {kvs:List (κ × V)} {vs:List (κ × Value)} (r:KV kvs vs):kvs.length=vs.length:=Paired.length r
end
theorem zS {P:Program} {w:World} {k:Key} {u:Value} (r:RelV (kV k) u):(cW P w).is k u=true:=by
 cases k with
 | inl i=>obtain ⟨t,e⟩:=(show ∃ t,u=Value.int i t from r);subst e;exact Cb P w i t
 | inr x=>obtain ⟨t,e⟩:=(show ∃ t,u=Value.str x t from r);subst e;exact BI P w x t
theorem yV {P:Program} {w:World}:∀ {ks:List Key} {us:List Value},Vals (ks.map kV) us->ItemsAre (cW P w) ks us
 | [],_,r=>by rw [List.map_nil] at r;cases r;exact .nil
 | k::ks,_,r=>by
   rw [List.map_cons] at r;cases r with
   | cons h t=>exact .cons (zS h) (yV t)
abbrev KT (H:Hp):List (List Key × V)->List (List Key × Addr × Value)->Prop:=Paired fun p q=>p.1=q.1/\H q.2.1=some (.tup (p.1.map kV))/\RelV p.2 q.2.2
theorem KT.val {H:Hp} {kvs:List (List Key × V)} {xs:List (List Key × Addr × Value)} (r:KT H kvs xs) (k:List Key):RelO (kx kvs k) ((atKey xs k).map (·.2)):=by
 induction r with
 | nil=>exact True.intro
 | @cons p q ps qs h t ih =>
   obtain ⟨h1,_,h2⟩:=h;by_cases e:p.1=k
   . have e':q.1=k:=h1.symm.trans e;have b:atKey (q::qs) k=some q.2:=(by simp [atKey,List.find?_cons,e']);rw [qP e,b];exact h2
   . have e':¬ q.1=k:=fun z=>e (h1.trans z);have b:atKey (q::qs) k=atKey qs k:=(by simp [atKey,List.find?_cons,e']);rw [rX e,b];exact ih
theorem KT.repl {H:Hp} {kvs:List (List Key × V)} {xs:List (List Key × Addr × Value)} (r:KT H kvs xs) (k:List Key) {y:V} {u:Value} (ry:RelV y u) :
   KT H (kvs.map fun kv=>if kv.1=k then (kv.1,y) else kv) (xs.map (putAt k u)):=by
 induction r with
 | nil=>exact .nil
 | @cons p q ps qs h t ih =>
   rw [List.map_cons,List.map_cons];refine .cons ?_ ih;obtain ⟨h1,h2,h3⟩:=h;unfold putAt;by_cases e:p.1=k
   . rw [if_pos e,if_pos (h1.symm.trans e)];exact ⟨h1,h2,ry⟩
   . rw [if_neg e,if_neg (fun z=>e (h1.trans z))];exact ⟨h1,h2,h3⟩
theorem KT.put {H:Hp} {kvs:List (List Key × V)} {xs:List (List Key × Addr × Value)} (r:KT H kvs xs) (k:List Key) {b:Addr} {y:V} {u:Value} (hb:H b=some (.tup (k.map kV))) (ry:RelV y u) :
   KT H (gH kvs k y) (storedH xs k b u):=by
 have e:(kvs.any fun kv=>decide (kv.1=k))=(atKey xs k).isSome:=by
   rw [vv,(r.val k).isSome_eq,Option.isSome_map]
 unfold gH storedH;rw [e];by_cases q:(atKey xs k).isSome=true
 . rw [if_pos q,if_pos q];exact r.repl k ry
 . rw [if_neg q,if_neg q];exact Paired.snoc r ⟨rfl,hb,ry⟩
theorem KT.keeps {H H':Hp} {kvs:List (List Key × V)} {xs:List (List Key × Addr × Value)} (r:KT H kvs xs) (ht:∀ b ys,H b=some (.tup ys)->H' b=some (.tup ys)):KT H' kvs xs :=
 Paired.mapP r fun _ _ z=>⟨z.1,ht _ _ z.2.1,z.2.2⟩
section
variable {P:Program} {w:World} {H:Hp} {h:Heap} {a:Addr}
theorem HJ {u:HO} (ok:HOk P w H h) (e:Rd H a u):ObjOk P w H h a u:=e.ok ok
theorem DY {kvs:List (Key × V)} (ok:HOk P w H h) (e:Rd H a (.dK kvs)):kvs.length<=sizeLine/\(a == sysModules)=false/\∃ vs,KV kvs vs/\h.DictOf (cW P w) a vs :=
 show ObjOk P w H h a (.dK kvs) from HJ ok e
theorem HK {kvs:List (Key × V)} (ok:HOk P w H h) (e:H a=some (.dK kvs)):kvs.length<=sizeLine/\(a == sysModules)=false/\∃ vs,KV kvs vs/\h.DictOf (cW P w) a vs:=DY ok (.inl e)
theorem Aj {ks:List Key} (ok:HOk P w H h) (e:H a=some (.tup (ks.map kV))):(tupleKind (cW P w)).is h ks a:=by
 obtain ⟨_,its,r,o,h1,h2,n,h3⟩:=(show ObjOk P w H h a (.tup (ks.map kV)) from ok a _ e);exact ⟨o,its.toArray,n,h1,h2,h3,by simpa using yV r⟩
theorem Hz {kvs:List (List Key × V)} (ok:HOk P w H h) (e:Rd H a (.dT kvs)):kvs.length<=sizeLine/\(a == sysModules)=false /\
   ∃ xs,KT H kvs xs/\h.DictOfH (tupleKind (cW P w)) a xs:=by
 obtain ⟨z,y,xs,r,o,es,ep,h1,h2,h3,h4,h5⟩:=(show ObjOk P w H h a (.dT kvs) from HJ ok e);refine ⟨z,y,xs,r,o,es,ep,h1,h2,h3,h4,fun x hx=>?_,h5⟩;have all:∀ {l:List (List Key × V)} {m:List (List Key × Addr × Value)},KT H l m->∀ x∈m,(tupleKind (cW P w)).is h x.1 x.2.1:=by
   intro l m q
   induction q with
   | nil=>intro x hx;exact nomatch hx
   | @cons p q ps qs hq t ih =>
     intro x hx;rcases List.mem_cons.mp hx with e|hx
     . subst e;exact Aj ok (by rw [<- hq.1];exact hq.2.1)
     . exact ih x hx
 exact all r x hx
theorem Ke {kvs:List (List Key × V)} (ok:HOk P w H h) (e:H a=some (.dT kvs)):kvs.length<=sizeLine/\(a == sysModules)=false /\
   ∃ xs,KT H kvs xs/\h.DictOfH (tupleKind (cW P w)) a xs:=Hz ok (.inl e)
end
def DGet (H:Hp) (a:Addr) (y:V) (r:Option V):Prop :=
 (∃ kvs k,Rd H a (.dK kvs)/\y=kV k/\r=kx kvs k)\/∃ kvs k b,Rd H a (.dT kvs)/\y=.ref b/\H b=some (.tup (k.map kV))/\r=kx kvs k
def DPut (H:Hp) (a:Addr) (y v:V) (H':Hp):Prop :=
 (∃ kvs k,H a=some (.dK kvs)/\y=kV k/\kvs.length<sizeLine/\H'=upd H a (.dK (gH kvs k v))) \/
 ∃ kvs k b,H a=some (.dT kvs)/\y=.ref b/\H b=some (.tup (k.map kV))/\kvs.length<sizeLine/\H'=upd H a (.dT (gH kvs k v))
theorem DGet.k {H:Hp} {a:Addr} {kvs:List (Key × V)} {k:Key} (e:H a=some (.dK kvs)):DGet H a (kV k) (kx kvs k):=.inl ⟨kvs,k,.inl e,rfl,rfl⟩
theorem DPut.k {H:Hp} {a:Addr} {kvs:List (Key × V)} {k:Key} {v:V} (e:H a=some (.dK kvs)) (hl:kvs.length<sizeLine):DPut H a (kV k) v (upd H a (.dK (gH kvs k v))):=.inl ⟨kvs,k,e,rfl,hl,rfl⟩
section
variable {X:Cx} {pins:List (Addr × Obj)} {σ:St} {H:Hp} {s:Shared} {a:Addr} {y v:V} {u r:Value} {o:Option V} {A:Around} {E:Value->Shared->Prop}
theorem Inv.big (I:Inv X pins σ H s):sysModules<s.heap.objs.size:=by
 have h:mainGlobals<s.heap.objs.size:=(I.mod.glob.keeps I.bk).lt;exact Nat.lt_trans (by decide) h
theorem Ij {Q:Value->Shared->Prop} (hu:A.units+1<cLine) (I:Inv X pins σ H s) (g:DGet H a y o) (ry:RelV y u) (h:∀ s',Inv X pins σ H s'->Q (.bool (!o.isSome)) s') :
   wpAny (model X.prog X.w) A (compareOp .NotIn u (.ref a)) Q E s:=by
 rcases g with ⟨kvs,k,e,ey,l⟩|⟨kvs,k,b,e,ey,eb,l⟩
 . subst ey;obtain ⟨z,hd,vs,rel,dd⟩:=DY I.hok e;refine wpAny_notIn_of (zS ry) hd dd.mapOf ?_;rw [<- (rel.val k).isSome_eq,<- l];exact h _ (I.tok _)
 . subst ey;cases (show u=Value.ref b from ry);obtain ⟨z,hd,xs,rel,dd⟩:=Hz I.hok e;refine wpAny_notIn_heap (tupleKind_room_in1 hu) (Aj I.hok eb) hd dd ?_;have q:=(rel.val k).isSome_eq;rw [Option.isSome_map] at q;rw [<- q,<- l];exact h _ (I.tok _)
theorem yb {h':Heap} {t':Nat} {ob:HO} (I:Inv X pins σ H s) (mu:Mut (H a)) (hs:Heap.SameBut a s.heap h') (he:∃ q,h'.get? a=some q) (new:ObjOk X.prog X.w (upd H a ob) h' a ob) :
   Inv X pins σ (upd H a ob) { s with heap:=h',toks:=t' } :=
 I.write (x:=a) (e:=a) mu (.inl rfl) (fun b q hb z=>(hs.2 b hb).trans z) he new
theorem EL {P:Program} {w:World} {H':Hp} {h':Heap} {kvs:List (Key × V)} {vs:List (Key × Value)} (z:kvs.length<=sizeLine) (hd:(a == sysModules)=false) (rel:KV kvs vs) (dd:h'.DictOf (cW P w) a vs) :
   ObjOk P w H' h' a (.dK kvs):=⟨z,hd,vs,rel,dd⟩
theorem Ez {H':Hp} {Q:Unit->Shared->Prop} (hu:A.units+1<cLine) (I:Inv X pins σ H s) (g:DPut H a y v H') (ry:RelV y u) (rv:RelV v r) (h:∀ s',Inv X pins σ H' s'->Q () s') :
   wpAny (model X.prog X.w) A (setItem (.ref a) u r) Q E s:=by
 rcases g with ⟨kvs,k,e,ey,l,eH⟩|⟨kvs,k,b,e,ey,eb,l,eH⟩
 . subst ey eH;obtain ⟨z,hd,vs,rel,dd⟩:=HK I.hok e;have hz:vs.length<=sizeLine:=by rw [<- rel.length];exact z
   have hl:(gH kvs k v).length<=sizeLine:=by have:=pb kvs k v;omega
   refine wpAny_setItem_pairs (hsz:=hz) (zS ry) dd fun h' dd' hs=>h _ ?_;have he:∃ q,h'.get? a=some q:=let ⟨q,_,_,hq,_⟩:=dd';⟨q,hq⟩;exact yb I (by rw [e];exact True.intro) hs he (EL hl hd (rel.put k rv) dd')
 . subst ey eH;cases (show u=Value.ref b from ry);obtain ⟨z,hd,xs,rel,dd⟩:=Ke I.hok e;have hz:xs.length<=sizeLine:=by rw [<- Paired.length rel];exact z
   have hl:(gH kvs k v).length<=sizeLine:=by have:=pb kvs k v;omega
   refine wpAny_setItem_heap (hsz:=hz) (tupleKind_room_in1 hu) (Aj I.hok eb) dd fun h' dd' hs=>h _ ?_;obtain ⟨q,es,ep,hq,h2,h3,h4,_,h5⟩:=dd';refine yb I (by rw [e];exact True.intro) hs ⟨q,hq⟩ ⟨hl,hd,_,(rel.put k eb rv).keeps fun c ys ec=>?_,q,es,ep,hq,h2,h3,h4,h5⟩;rw [am (uH ec e (fun z=>nomatch z))];exact ec
end
section
variable {X:Cx} {pins:List (Addr × Obj)} {σ:St} {H:Hp} {s:Shared} {a:Addr} {kvs:List (Key × V)} {k:Key} {u:Value} {A:Around} {E:Value->Shared->Prop}
theorem Kb {Q:Value->Shared->Prop} (I:Inv X pins σ H s) (e:Rd H a (.dK kvs)) (h:∀ t s',Inv X pins σ H s'->Q (.int kvs.length t) s'):wpAny (model X.prog X.w) A (call (.builtin "len") [.ref a]) Q E s:=by
 obtain ⟨z,hd,vs,rel,dd⟩:=DY I.hok e;refine call_len_dict hd dd (by rw [<- rel.length];rw [sizeLine_eq] at z;omega) ?_;rw [<- rel.length];exact h _ _ (I.tok _)
end
def Hn (td ty:TE):TE:=fun σ H Q=>td σ H fun x H1=>ty σ H1 fun y H2=>∃ a v,x=.ref a/\DGet H2 a y (some v)/\Q v H2
def JY (ty td:TE):TE:=fun σ H Q=>ty σ H fun y H1=>td σ H1 fun x H2=>∃ a o,x=.ref a/\DGet H2 a y o/\Q (.bl o.isSome) H2
def xD (ty td:TE):TE:=fun σ H Q=>ty σ H fun y H1=>td σ H1 fun x H2=>∃ a o,x=.ref a/\DGet H2 a y o/\Q (.bl (!o.isSome)) H2
def Dd (td ty tv:TE):TS:=fun D σ H=>tv σ H fun v H1=>td σ H1 fun x H2=>ty σ H2 fun y H3=>∃ a H4,x=.ref a/\DPut H3 a y v H4/\D.nx σ H4
section
variable {X:Cx} {o i e value:Expr} {pos pos' tpos:Pos} {td ty tv:TE}
theorem EA (hu:X.A.units+1<cLine) (hi:PE X i ty) (ho:PE X o td):PC X .NotIn i o (xD ty td):=by
 intro pins s σ H Q I h;refine bh (hi pins s σ H _ I h) fun iv s1 y H1 I1 ry q1=>bh (ho pins s1 σ H1 _ I1 q1) fun u s2 x H2 I2 rx ⟨a,ov,ex,g,q2⟩=>?_;subst ex;obtain rfl:u=Value.ref a:=rx;exact Ij hu I2 g ry fun s3 I3=>⟨.bl (!ov.isSome),H2,I3,rfl,q2⟩
theorem IE (hu:X.A.units+1<cLine) (ho:PE X o td) (hi:PE X i ty) (hv:PE X value tv) (hs:swapsWith value (some (.Subscript o i pos')) pos.line X.env=pure false) :
   PS X (.Assign [.Subscript o i pos'] value pos) (Dd td ty tv):=by
 intro pins s σ H D I h;refine wpAny_Assign_Subscript (bh (hv pins s σ H _ I h) fun r s1 v H1 I1 rv q1=>bh (ho pins s1 σ H1 _ I1 q1) fun u s2 x H2 I2 rx q2=>bh (hi pins s2 σ H2 _ I2 q2) fun iv s3 y H3 I3 ry ⟨a,H4,ex,g,q3⟩=>?_) hs;subst ex;obtain rfl:u=Value.ref a:=rx;exact Ez hu I3 g ry rv fun s4 I4=>⟨σ,H4,I4,q3⟩
end
theorem GJ {P:Program} {w:World} {H:Hp} (h:Heap) (hb:sysModules<h.objs.size):ObjOk P w H (h.push { cls:=.type "dict",data:=.dict #[] }) h.objs.size (.dK []) :=
 ⟨Nat.zero_le _,beq_eq_false_iff_ne.mpr (Ne.symm (Nat.ne_of_lt hb)),[],.nil,Heap.DictOf.new h⟩
def Fg:TE:=fun _ H Q=>∀ p,H p=none->Q (.ref p) (upd H p (.dK []))
def En:TE:=fun _ H Q=>∀ p,H p=none->Q (.ref p) (upd H p (.dT []))
section
variable {X:Cx} {pos:Pos}
end
def qc:List (TE × TE)->St->Hp->(List (V × V)->Hp->Prop)->Prop
 | [],_,H,Q=>Q [] H
 | (tk,tv)::r,σ,H,Q=>tk σ H fun x H1=>tv σ H1 fun y H2=>qc r σ H2 fun ps H3=>Q ((x,y)::ps) H3
abbrev VV:List (V × V)->List (Value × Value)->Prop:=Paired fun p q=>RelV p.1 q.1/\RelV p.2 q.2
def PPs (X:Cx) (pos:Pos) (keys:List (Option Expr)) (values:List Expr) (trs:List (TE × TE)):Prop :=
 ∀ (pins:List (Addr × Obj)) (s:Shared) (σ:St) (H:Hp) (Q:List (V × V)->Hp->Prop),Inv X pins σ H s->qc trs σ H Q ->
   wpAny (model X.prog X.w) X.A (evalPairs (pairTrees keys values X.env pos)) (fun vs s'=>∃ ps H',Inv X pins σ H' s'/\VV ps vs/\Q ps H') X.xe s
theorem Ig {X:Cx} {pos:Pos}:PPs X pos [] [] []:=fun pins s σ H Q I h=>pairTrees_nil_walk ⟨[],H,I,.nil,h⟩
theorem FL {X:Cx} {pos:Pos} {k v:Expr} {ks:List (Option Expr)} {vs:List Expr} {tk tv:TE} {trs:List (TE × TE)} (hk:PE X k tk) (hv:PE X v tv) (hr:PPs X pos ks vs trs) :
   PPs X pos (some k::ks) (v::vs) ((tk,tv)::trs):=fun pins s σ H Q I h =>
 pairTrees_cons_walk (bh (hk pins s σ H _ I h) fun u s1 x H1 I1 rx q1=>bh (hv pins s1 σ H1 _ I1 q1) fun w2 s2 y H2 I2 ry q2 =>
   thn (hr pins s2 σ H2 _ I2 q2) fun ws s3 ⟨ps,H3,I3,rel,q3⟩=>⟨(x,y)::ps,H3,I3,.cons ⟨rx,ry⟩ rel,q3⟩)
def pF (kvs more:List (Key × V)):List (Key × V):=more.foldl (fun acc kv=>gH acc kv.1 kv.2) kvs
theorem KV.merge:∀ {more:List (Key × V)} {rs:List (Key × Value)} {kvs:List (Key × V)} {vs:List (Key × Value)},KV more rs->KV kvs vs->KV (pF kvs more) (merged vs rs):=by
 intro more rs kvs vs r;unfold KV at r
 induction r generalizing kvs vs with
 | nil=>intro q;exact q
 | @cons p q ps qs h t ih =>
   intro r0;have e:KV (gH kvs p.1 p.2) (stored vs q.1 q.2):=by
     have:=r0.put p.1 h.2;rw [<- h.1];exact this
   exact ih e
theorem sv:∀ (more kvs:List (Key × V)),(pF kvs more).length<=kvs.length+more.length
 | [],kvs=>by show kvs.length<=kvs.length+0;omega
 | p::r,kvs=>by
   have h1:=sv r (gH kvs p.1 p.2);have h2:=pb kvs p.1 p.2;show (pF (gH kvs p.1 p.2) r).length<=_;rw [List.length_cons];omega
theorem wN {P:Program} {w:World}:∀ {kvs:List (Key × V)} {ws:List (Value × Value)},VV (kvs.map fun kv=>(kV kv.1,kv.2)) ws->∃ rs,Carries (cW P w) ws rs/\KV kvs rs
 | [],_,r=>by rw [List.map_nil] at r;cases r;exact ⟨[],True.intro,.nil⟩
 | p::kvs,_,r=>by
   rw [List.map_cons] at r;cases r with
   | @cons a b as bs h t =>
     obtain ⟨rs,c,q⟩:=wN (P:=P) (w:=w) t;obtain ⟨b1,b2⟩:=b;exact ⟨(p.1,b2)::rs,⟨zS h.1,rfl,c⟩,.cons ⟨rfl,h.2⟩ q⟩
def Dr (trs:List (TE × TE)):TE:=fun σ H Q=>∀ p,H p=none->qc trs σ (upd H p (.dK [])) fun ps H2=>H2 p=some (.dK [])/\∃ kvs:List (Key × V),ps=kvs.map (fun kv=>(kV kv.1,kv.2))/\kvs.length<=15/\Q (.ref p) (upd H2 p (.dK (pF [] kvs)))
theorem Iy {X:Cx} {pos:Pos} {keys:List (Option Expr)} {values:List Expr} {trs:List (TE × TE)} (h:PPs X pos keys values trs) (hall:keys.all (·.isSome)=true) (hl:keys.length=values.length) (h0:keys≠[])
   (h15:keys.length<=15):PE X (.Dict keys values pos) (Dr trs):=by
 intro pins s σ H Q I q;have hn:=I.hok.fresh (Nat.le_refl s.heap.objs.size);have I1:=I.laid (a:=s.heap.objs.size) (o:=.dK []) (h':=s.heap.push { cls:=.type "dict",data:=.dict #[] }) (t':=s.toks) (fun _ _ q=>Heap.get?_push_of_some _ q) (Nat.le_refl _) (GJ s.heap I.big);refine wpAny_Dict_walk (knd:=cW X.prog X.w) hall hl h0 h15 (thn (h pins _ σ _ _ I1 (q _ hn)) fun ws s2 ⟨ps,H2,I2,rel,e,kvs,ep,lk,q2⟩=>?_);subst ep;obtain ⟨rs,c,rk⟩:=wN (P:=X.prog) (w:=X.w) rel;obtain ⟨z,hd,vs0,r0,dd⟩:=HK I2.hok e;cases r0;refine ⟨rs,c,dd,fun h' dd' hs=>⟨.ref s.heap.objs.size,_,?_,rfl,q2⟩⟩;have hz:(pF [] kvs).length<=sizeLine:=by
   have h1:=sv kvs [];rw [List.length_nil] at h1;rw [sizeLine_eq];omega
 have he:∃ q,h'.get? s.heap.objs.size=some q:=let ⟨q,_,_,hq,_⟩:=dd';⟨q,hq⟩;exact yb I2 (by rw [e];exact True.intro) hs he (EL hz hd (rk.merge .nil) dd')
section
variable {X:Cx} {pins:List (Addr × Obj)} {σ:St} {H:Hp} {s:Shared} {a:Addr} {y d:V} {u r:Value} {o:Option V} {A:Around} {E:Value->Shared->Prop}
end
section
variable {X:Cx} {o e f:Expr} {apos cpos:Pos} {td ty tx:TE}
end
section
variable {X:Cx} {pins:List (Addr × Obj)} {σ:St} {H:Hp} {s:Shared} {a:Addr} {kvs:List (Key × V)} {A:Around} {E:Value->Shared->Prop}
end
section
variable {X:Cx} {pins:List (Addr × Obj)} {σ:St} {H:Hp} {s:Shared} {a:Addr} {y:V} {u:Value} {A:Around} {E:Value->Shared->Prop}
end
end L2
namespace Att
open PySem PySem.W PySem.Calls PyProof.Rows
theorem xm {P:Params} {h:Heap}:∀ (ns:List Int) (vs:List Value),WellAll P h vs (ns.map WData.int)->IntsAre vs ns:=by
 intro ns
 induction ns with
 | nil =>
   intro vs w;rw [List.map_nil] at w;cases w;exact .nil
 | cons n ns ih =>
   intro vs w;rw [List.map_cons] at w;cases w with
   | cons a b =>
     cases a;exact .cons _ _ (ih _ b)
theorem EV {l:OpenLaw} {n:Nat} (hn:l.most=some n) {P:Params} {h:Heap} {args:List WData} {vals:List Value}
   (hpre:l.row.toRowW.claim.pre args=true) (hwl:WellAll P h vals args) :
   ∃ a vs ns,vals=[Value.ref a]/\args=[WData.list (ns.map WData.int)]/\h.get? a=some { cls:=.type "list",data:=.seq vs.toArray }/\IntsAre vs ns/\ns.length<=n:=by
 have hsh:WShape.hasAll [] args [.list .int]=true:=(pre_splitW hpre).1;have hc:l.pre.holds [] { args:=args }=true:=(pre_splitW hpre).2;obtain ⟨d,r,rfl,h1,h2⟩:=hasAllW_cons hsh;obtain rfl:=hasAllW_nil h2;obtain ⟨xs,rfl,h3⟩:=hasW_list h1;obtain ⟨ns,rfl⟩:=items_int h3;have hlen:ns.length<=n:=by
   unfold OpenLaw.pre at hc;have h4:(WTm.not (.lt (.lit (.int (n:Int))) (.len (.arg 0)))).holds [] { args:=[.list (ns.map .int)] }=true:=by
     have h4:=(holds_andW hc).1;rw [hn] at h4;exact h4
   have h5:=condW_of h4 (w_not (w_lt w_lit (w_len_list (w_arg rfl))));rw [List.length_map] at h5;refine Nat.le_of_not_lt fun q=>?_;have q':(n:Int)<((ns.length:Nat):Int):=by omega
   first
     | (rw [decide_eq_true q'] at h5;exact absurd h5 (by decide))
     | (simp at h5;omega)
 cases hwl with
 | cons w1 w2 =>
   cases w2;cases w1 with
   | list ho hall=>exact ⟨_,_,ns,rfl,rfl,ho,xm ns _ hall,hlen⟩
theorem Ef (l:OpenLaw) (args:List WData):l.row.toRowW.claim.post args (.bool true) args=true :=
 postW_of (r:=l.row.toRowW) (X:=(true == true))
   (show WShape.has [] (.bool true) .bool=true by first|rfl|decide|simp [WShape.has,WShape.arms,WShape.armsAll])
   (show (WTm.eq .res (.lit (.bool true))).value [] { args:=args,res:=some (.bool true),after:=args }=some (.bool (true == true)) from w_eq_bool (w_res rfl) w_lit) rfl
theorem attach_call {l:OpenLaw} {n:Nat} {q:Program} {loose:List Str} {XP:(Str->Option Value)->Heap->Prop} {YP:World->Heap->Prop} {d:DefRec}
   (hn:l.most=some n) (hdf:d.params.defaults=[])
   (call:∀ (w:World) (s₀ s₁:Shared) (mg mb:Str->Option Value) (fa:Addr) (o:Obj) (pm cd doc:Value) (a:Addr) (vs:List Value) (ns:List Int),
     Ground q loose [] XP w s₀ mg mb s₁.heap->YP w s₁.heap ->
     s₁.heap.get? fa=some o->o.data=.func (docDef d.name d.params d.body d.scope pm cd doc)->s₁.heap.CodeRec cd d.name->mg d.name=some (.ref fa) ->
     s₁.heap.get? a=some { cls:=.type "list",data:=.seq vs.toArray }->IntsAre vs ns->ns.length<=n->s₁.gens=#[] ->
     codeAny (model l.prog w) callerA (.call (.ref fa) ⟨[.ref a],[]⟩) (fun r s'=>r=.ok (.ret (.bool true))/\OldK s₁.heap s'.heap/\s'.os=s₁.os/\AllBare s'.gens) s₁) :
   WalkO q loose XP YP l.row.toRowW d [] (fun f vs=>PySem.call f vs):=by
 intro w s₀ s₁ mg mb G Y fa o pm cd doc dV kV ho hd hcd hD hmg hg args vals as hpre hlay hrd hwl hlo;obtain rfl:dV=.none:=Dflts.none hD hdf;obtain rfl:kV=.none:=Dflts.noKw hD;obtain ⟨a,vs,ns,rfl,rfl,hobj,hints,hlen⟩:=EV hn hpre hwl;refine enter_call (codeAny_mono (call w s₀ s₁ mg mb fa o pm cd doc a vs ns G Y ho (fd_plain hd) hcd hmg hobj hints hlen hg) fun r s' hq=>?_);obtain ⟨rfl,h2,h3,h4⟩:=hq;exact ⟨.inl ⟨.bool true,.bool true,[],rfl,fun _=>rfl,.bool true,Ef l _,fun _=>⟨List.Pairwise.nil,fun _ hm=>(nomatch hm)⟩⟩,h2,h3,h4⟩
section
variable {prog:Program} {w:World} {A:Around} {E:Value->Shared->Prop} {s:Shared} {K:Frag}
end
end Att
namespace L2
open PySem PySem.Spec PyProof.Rows
theorem yZ:∀ {vs:List Value} {ns:List Int},IntsAre vs ns->Vals (ns.map V.int) vs
 | _,_,.nil=>.nil
 | _,_,.cons n t h=>.cons ⟨t,rfl⟩ (yZ h)
def GH (H:Hp):Prop:=∀ b,H b=none\/∃ o xs,H b=some (.frz o (.lst xs))
theorem FJ {P:Program} {w:World} {K:PySem.W.Frag} {mg mb:Str->Option Value} {CX:CXT} {k:Nat} {fa a:Addr} {fd:FuncData} {x:Str} {sp:Sp} {s₁:Shared} {vs:List Value} {ns:List Int}
   (KX:K.In s₁.heap) (hns:s₁.heap.Ns mainGlobals mg) (hb:s₁.heap.Ns builtinsNs mb) (hbb:∀ x:Str,x≠"__name__"->mb x=bootBuiltins x) (hlim:s₁.heap.NoLimit) (hg:s₁.gens=#[])
   (ha:s₁.heap.get? a=some { cls:=.type "list",data:=.seq vs.toArray }) (hi:IntsAre vs ns) (hl:ns.length<=sizeLine) (hr:Room k callerA)
   (F:∀ base:Heap,K.In base->base.Ns mainGlobals mg->FnOk P w K mg base CX k fa fd [x] sp) (hbind:∀ (s:Shared) (u:Value),BindsTo s fd ⟨[u],[]⟩ [(x,u)])
   (hsp:∀ H:Hp,GH H->SqL K H a (ns.map V.int)->sp [.ref a] H (fun v _=>v=.bl true) fun _ _ _=>False)
   (hCX:∀ H e s',CX [] H s₁ (fun _ _ _=>False) e s'->False) :
   codeAny (model P w) callerA (.call (.ref fa) ⟨[.ref a],[]⟩) (fun r s'=>r=.ok (.ret (.bool true))/\OldK s₁.heap s'.heap/\s'.os=s₁.os/\AllBare s'.gens) s₁:=by
 have rv:=yZ hi;have lenV:=hi.length;have core:∀ H:Hp,GH H->SqL K H a (ns.map V.int)->HOk P w H s₁.heap->(∀ b,H b≠none->b=a)->(H a≠none->K.lookup a=none) ->
     codeAny (model P w) callerA (.call (.ref fa) ⟨[.ref a],[]⟩) (fun r s'=>r=.ok (.ret (.bool true))/\OldK s₁.heap s'.heap/\s'.os=s₁.os/\AllBare s'.gens) s₁:=by
   intro H hO hS hok hA hK;have base_of:∀ {b:Addr} {o:Obj},s₁.heap.get? b=some o->H b=none->(rF s₁.heap H).get? b=some o:=fun e n=>Gi e n;have noA:∀ {b:Addr} {o:Obj} {es:Array DictEntry} {ep:Nat},s₁.heap.get? b=some o->o.data=.dict es ep->H b=none:=fun {b o es ep} e d=>by
     cases q:H b with
     | none=>rfl
     | some u =>
       have e':b=a:=hA b (by rw [q];simp);subst e';rw [ha] at e;cases e;have d':Data.seq vs.toArray _=Data.dict es ep:=d;cases d'
   have nsK:∀ {b:Addr} {m:Str->Option Value},s₁.heap.Ns b m->(rF s₁.heap H).Ns b m:=fun {b m} ⟨o,es,ep,e,d,r⟩=>⟨o,es,ep,base_of e (noA e d),d,r⟩;have hKb:K.In (rF s₁.heap H):=fun b o e=>base_of (KX b o e) (by
     cases q:H b with
     | none=>rfl
     | some u =>
       have e':b=a:=hA b (by rw [q];simp);subst e';rw [hK (by rw [q];simp)] at e;cases e)
   have hM:Mod K mg (rF s₁.heap H):=⟨hKb,nsK hns,⟨mb,nsK hb,hbb⟩,let ⟨mc,h1,h2⟩:=hlim;⟨mc,nsK h1,h2⟩⟩;have e0:Env0 P w K mg (rF s₁.heap H) callerA [] s₁ H:=⟨rfl,hM,fun b o e=>HS e,Nat.le_of_eq (Et _ _),trivial,fun b hb=>absurd (show b∈([]:List Addr) from hb) (by simp),hok,.of_eq hg⟩;refine codeAny_mono ((F _ hKb (nsK hns)).run callerA [] s₁ H ⟨[.ref a],[]⟩ [.ref a] [.ref a] _ _ hr e0 (hbind s₁ (.ref a)) (.cons rfl .nil) (hsp H hO hS)) fun r s' h=>?_;cases r with
   | error e=>exact (hCX H e s' h).elim
   | ok fl =>
     cases fl with
     | next=>exact False.elim h
     | brk=>exact False.elim h
     | cont=>exact False.elim h
     | ret u =>
       obtain ⟨v,H',os,bare,un,hok',r',q⟩:=h;have q':v=.bl true:=q;subst q';obtain rfl:u=Value.bool true:=r';refine ⟨rfl,OldK.of_keep fun b o e=>?_,os,bare⟩;cases q:H b with
       | none=>exact un.keep b o e q (by intro z;exact absurd (show b∈([]:List Addr) from z) (by simp)) (by simp)
       | some u =>
         rcases hO b with z|⟨ob,xs,z⟩
         . rw [q] at z;cases z
         . have z2:=un.frzs b ob _ z;obtain ⟨e1,_⟩:=hok b _ z;obtain ⟨e2,_⟩:=hok' b _ z2;rw [e] at e1;cases e1;exact e2
 cases hk:K.lookup a with
 | some o =>
   have e:=KX a o hk;rw [ha] at e;cases e;refine core (fun _=>none) (fun _=>.inl rfl) (.inr ⟨_,vs.toArray,_,hk,rfl,rfl,rfl,by rw [List.size_toArray,lenV];exact hl,by simpa using rv⟩) (fun b u z=>by have z':(none:Option HO)=some u:=z;cases z') (fun b z=>absurd rfl z) fun z=>absurd rfl z
 | none =>
   refine core (fun b=>if b=a then some (.frz { cls:=.type "list",data:=.seq vs.toArray } (.lst (ns.map V.int))) else none) (fun b=>?_) (.inl (.inr ⟨{ cls:=.type "list",data:=.seq vs.toArray },if_pos rfl⟩)) (fun b u z=>?_) (fun b z=>?_) fun _=>hk
   . by_cases hb:b=a
     . exact .inr ⟨_,_,if_pos hb⟩
     . exact .inl (if_neg hb)
   . by_cases hb:b=a
     . have z':=(if_pos hb).symm.trans z;cases z';subst hb;exact ⟨ha,by rw [List.length_map];exact hl,vs,_,rv,ha⟩
     . have z':=(if_neg hb).symm.trans z;cases z'
   . by_cases hb:b=a
     . exact hb
     . exact absurd (if_neg hb) z
end L2
namespace L2
open PySem PySem.Spec PyProof.Rows
theorem walk_of {l:PySem.W.OpenLaw} {n k:Nat} {q:Program} {loose:List Str} {XP:(Str->Option Value)->Heap->Prop} {YP:World->Heap->Prop} {d:DefRec} {K:Params->PySem.W.Frag} {CX:World->CXT} {sp:World->Sp} {x:Str}
   (hn:l.most=some n) (hn2:n<=sizeLine) (hdf:d.params.defaults=[]) (hr:Room k callerA)
   (hY:∀ (w:World) (h:Heap),YP w h->(K w.params).In h)
   (F:∀ (w:World) (mg:Str->Option Value) (fa:Addr) (h:Heap),(K w.params).In h->h.Ns mainGlobals mg->mg d.name=some (.ref fa) ->
     ∃ fd:FuncData,(∀ (s:Shared) (u:Value),BindsTo s fd ⟨[u],[]⟩ [(x,u)]) /\
       ∀ base:Heap,(K w.params).In base->base.Ns mainGlobals mg->FnOk l.prog w (K w.params) mg base (CX w) k fa fd [x] (sp w))
   (hsp:∀ (w:World) (H:Hp) (a:Addr) (ns:List Int),ns.length<=n->GH H->SqL (K w.params) H a (ns.map V.int)->sp w [.ref a] H (fun v _=>v=.bl true) fun _ _ _=>False)
   (hCX:∀ (w:World) (H:Hp) (s:Shared) (e:Value) (s':Shared),CX w [] H s (fun _ _ _=>False) e s'->False) :
   PySem.W.WalkO q loose XP YP l.row.toRowW d [] (fun f vs=>PySem.call f vs):=by
 refine Att.attach_call hn hdf fun w s₀ s₁ mg mb fa o pm cd doc a vs ns G Y ho hd hcd hmg hobj hints hlen hg=>?_;have KX:=hY w _ Y;obtain ⟨fd,hb,hF⟩:=F w mg fa _ KX G.T.g hmg;exact FJ KX G.T.g G.T.b G.T.builtins G.T.nolimit hg hobj hints (Nat.le_trans hlen hn2) hr hF hb (fun H hO hS=>hsp w H a ns hlen hO hS) fun H e s'=>hCX w H s₁ e s'
end L2
namespace L2
open PySem PySem.Spec PyProof.Rows
def Cv (s:Stmt) (j:Nat):Stmt:=match s with
 | .ClassDef _ _ _ body _ _ _ _ _ _ _=>body.getD j (.Pass ⟨0,0,0,0⟩)
 | _=>.Pass ⟨0,0,0,0⟩
def aM (s:Stmt):Arguments:=match s with
 | .FunctionDef _ a _ _ _ _ _ _ _ _=>a
 | _=>{ posonlyargs:=[],args:=[],vararg:=none,kwonlyargs:=[],kw_defaults:=[],kwarg:=none,defaults:=[] }
def aE (s:Stmt):List Stmt:=match s with
 | .FunctionDef _ _ b _ _ _ _ _ _ _=>b
 | _=>[]
def aa (s:Stmt):Scope:=match s with
 | .FunctionDef _ _ _ _ _ _ sc _ _ _=>sc
 | _=>{ kind:=.function,names:=[],isGenerator:=false,isCoroutine:=false }
abbrev CX0:CXT:=fun _ _ _ _ _ _=>False
abbrev E0:XK:=fun _ _ _=>False
structure Fun (K:PySem.W.Frag) (x qual:Str) (st:Stmt) (f:Addr) (fd:FuncData):Prop where
 ex:∃ (oc:Value) (od:Option Addr) (kV doc pm:Value) (an:Option Addr) (cdv ct:Value) (osl:Array (Option Value)),
   fd=PySem.W.fnOf x qual (aM st) (aE st) (aa st) .none kV doc pm an cdv ct/\K.lookup f=some ⟨oc,od,.func fd,osl⟩/\PySem.W.codeIn K cdv qual=true
 kp:PySem.W.keepIn K (.ref f)=true
section
variable {P:Program} {w:World} {K:PySem.W.Frag} {mg:Str->Option Value} {base:Heap}
theorem Fun.binds {x qual:Str} {st:Stmt} {f:Addr} {fd:FuncData} {ps:List Str} (F:Fun K x qual st f fd)
   (h:∀ (kV doc pm:Value) (an:Option Addr) (cdv ct:Value) (us:List Value),us.length=ps.length->bindArgs (PySem.W.fnOf x qual (aM st) (aE st) (aa st) .none kV doc pm an cdv ct) ⟨us,[]⟩=pure (ps.zip us)):Binds K fd ps []:=by
 obtain ⟨oc,od,kV,doc,pm,an,cdv,ct,osl,rfl,lk,hcd⟩:=F.ex;exact .all (h kV doc pm an cdv ct)
theorem bB {x qual:Str} {st:Stmt} {f:Addr} {oc:Value} {od an:Option Addr} {osl:Array (Option Value)} {kV doc pm cdv ct:Value} (l:K.lookup f=some ⟨oc,od,.func (PySem.W.fnOf x qual (aM st) (aE st) (aa st) .none kV doc pm an cdv ct),osl⟩)
   (c:PySem.W.codeIn K cdv qual=true) (k:PySem.W.keepIn K (.ref f)=true):Fun K x qual st f (PySem.W.fnOf x qual (aM st) (aE st) (aa st) .none kV doc pm an cdv ct):=⟨⟨oc,od,kV,doc,pm,an,cdv,ct,osl,rfl,l,c⟩,k⟩
end
theorem Ki {A:Around} {k:Nat} (hr:Room k A):A.units+1<cLine:=Nat.lt_of_le_of_lt (Nat.add_le_add_left (by decide:1<=64) _) hr.units
section
variable {X:Cx}
theorem pv (i:Nat) {x:Str} {pos:Pos} (hN:X.N[i]?=some x:=by rfl) (hv:Vis X.env.scope x:=by first|exact Or.inl rfl|exact Or.inr (Or.inl rfl)|exact Or.inr (Or.inr rfl)) (hd:(x == ("__debug__":Str))=false:=by decide)
   (hcd:(x == ("__classdict__":Str))=false:=by decide):PE X (.Name x pos) (xQ i):=Bj hN hv hd hcd
end
theorem KC {A B:Prop} (h:B):if false=true then A else B:=by
 rw [if_neg Bool.false_ne_true];exact h
theorem Kz {A B:Prop} (h:A):if true=true then A else B:=by
 rw [if_pos rfl];exact h
def Same (H H':Hp):Prop:=∀ b o,H b=some o->H' b=some o
theorem Same.refl (H:Hp):Same H H:=fun _ _ h=>h
theorem Same.trans {H H1 H2:Hp} (a:Same H H1) (b:Same H1 H2):Same H H2:=fun c o h=>b c o (a c o h)
theorem Same.free {H H':Hp} (e:Same H H') {l:Addr} (h:H' l=Option.none):H l=Option.none:=by
 cases q:H l with
 | none=>rfl
 | some o =>
   rw [e l o q] at h;cases h
theorem Same.seq {K:PySem.W.Frag} {H H':Hp} {a:Addr} {xs:List V} (e:Same H H') (h:SqL K H a xs):SqL K H' a xs:=by
 rcases h with (h|⟨o,h⟩)|h
 . exact .inl (.inl (e _ _ h))
 . exact .inl (.inr ⟨o,e _ _ h⟩)
 . exact .inr h
end L2
namespace L2
open PySem PySem.Spec PyProof.Rows
section
variable {X:Cx}
theorem Ev:dI X (.builtin "len") (fun xs H Q=>∃ a kvs,xs=[V.ref a]/\H a=some (.dK kvs)/\Q (.int kvs.length) H):=by
 intro pins s σ H xs us Q I r h;obtain ⟨a,kvs,rfl,ha,q⟩:=h;obtain ⟨u,rfl,ru⟩:=iP r;cases ru;exact Kb I (.inl ha) fun t s' I'=>⟨.int kvs.length,H,I',⟨t,rfl⟩,q⟩
end
section
variable {κ:Type} [DecidableEq κ]
end
end L2
set_option Elab.async false
set_option linter.all false
set_option maxRecDepth 100000
namespace L2
open PySem PySem.Spec PyProof.Rows
def Cx.comp (X:Cx) (Nc:List Str) (scope:Scope) (cl:List (Str × Addr)) (C:Addr) (s₂:Shared) (H₁:Hp) (fp:List Addr):Cx where
 prog:=X.prog
 w:=X.w
 K:=X.K
 mg:=X.mg
 base:=X.base
 A:=X.A
 N:=Nc
 s₀:=s₂
 H₀:=H₁
 env:=compEnvC scope cl C X.env
 outer:=X.stack
 stack:=X.stack
 ex:=fp
 fn:=fun _=>false
 calm:=X.calm
 pn:=[]
 xe:=fun _ _=>False
structure CompTxt (X:Cx) (Nc:List Str) (own:Nat) (js:List Nat) (scope:Scope) (cl:List (Str × Addr)):Prop where
 clos:closureFor scope X.env=pure cl
 kind:scope.kind=.function
 nocell:∀ y∈scope.names,y.2≠.cell
 names:∀ y∈scope.names,y.2=.local->scope.names.lookup y.1=some .local
 cells:∀ x c,cl.lookup x=some c->X.env.cells.lookup x=some c
 has:∀ x,((relabel scope X.env).names.lookup x=some .cell\/(relabel scope X.env).names.lookup x=some .free)->∃ c,cl.lookup x=some c
 len:Nc.length=own+js.length
 outer:∀ i x,Nc[own+i]?=some x->∃ j,js[i]?=some j/\X.N[j]?=some x/\X.env.scope.names.lookup x=some .cell/\(relabel scope X.env).names.lookup x=some .cell
def fZ (own:Nat) (js:List Nat) (σ:St):St:=List.replicate own none++js.map fun j=>(σ[j]?).getD none
def wk (own:Nat) (js:List Nat) (wi:TI) (g:TG) (tc:TT) (te:TE):TE:=fun σ H Q=>wi σ H fun J H1=>∀ p,H1 p=none ->
 ∃ W:Nat->Nat->List V->St->Hp->Prop,(∃ m,W 0 m [] (fZ own js σ) (upd H1 p (.lst [])))/\∀ i m ys σc Hc,W i m ys σc Hc ->
   (J.stop i Hc/\Q (.ref p) Hc)\/(J.go i Hc/\∀ x H',J.yld i Hc x H'->g x σc H' fun σ2 H2=>tc σ2 H2 fun b H3 =>
     if b=true then te σ2 H3 fun y H4=>H4 p=some (.lst ys)/\ys.length<sizeLine/\∃ m',m'<m/\W (i+1) m' (ys++[y]) σ2 (upd H4 p (.lst (ys++[y])))
     else ∃ m',m'<m/\W (i+1) m' ys σ2 H3)
def PTs (X:Cx) (ifs:List Expr) (t:TT):Prop :=
 ∀ (pins:List (Addr × Obj)) (s:Shared) (σ:St) (H:Hp) (Q:Bool->Hp->Prop),Inv X pins σ H s->t σ H Q ->
   wpAny (model X.prog X.w) X.A (forIn ifs true fun c r=>if r=true then do let ok <- isTrue c X.env (eval c X.env);pure (ForInStep.yield ok) else pure (ForInStep.yield r)) (TP X pins σ Q) X.xe s
def tYes:TT:=fun _ H Q=>Q true H
theorem jD {X:Cx}:PTs X [] tYes:=fun pins s σ H Q I h=>wpAny_tests_nil ⟨H,I,h⟩
section
variable {prog:Program} {w:World} {A:Around} {E:Value->Shared->Prop} {R:Result->Shared->Prop} {s:Shared}
theorem u8 {elt target iter:Expr} {ifs:List Expr} {scope:Scope} {pos:Pos} {it acc:Value} {env:Env} (I:Nat->Shared->Prop)
   (turn:∀ n s,I n s->wpAny (model prog w) A (pyNext it) (fun r s₁=>match r with
     | none=>R (.ok .next) s₁
     | some v=>wpAny (model prog w) A (letOwnedTupleGo target it v) (fun _ s₁'=>wpAny (model prog w) A (assign target env v) (fun _ s₂ =>
         wpAny (model prog w) A (forIn ifs true fun c r=>if r=true then do let ok <- isTrue c env (eval c env);pure (ForInStep.yield ok) else pure (ForInStep.yield r)) (fun ok s₃ =>
           if ok=true then wpAny (model prog w) A (eval elt env) (fun x s₄ =>
             wpAny (model prog w) A (call (.builtin "list.append") [acc,x]) (fun _ s₅=>∃ m,m<n/\I m s₅) (fun _ _=>False) s₄) (fun _ _=>False) s₃
           else ∃ m,m<n/\I m s₃) (fun _ _=>False) s₂) (fun _ _=>False) s₁') (fun _ _=>False) s₁) (fun _ _=>False) s)
   (n:Nat) (h:I n s) :
   codeAny (model prog w) A (.compLoop (.ListComp elt [⟨target,iter,ifs,0⟩] scope pos) 0 it acc env) R s:=by
 refine codeAny_loop rfl I (fun n s hI=>?_) n h;show wpAny _ A ((compTurn (.ListComp elt [⟨target,iter,ifs,0⟩] scope pos) 0 it acc env).onRaise (fun x=>do noteFrame x env;theTreesLotGoes x)) _ _ s;refine wpAny_noted ?_;rw [compTurn_list];refine wpAny_bind (wpAny_standAt (wpAny_bind (wpAny_mono (turn n s hI) (fun r s₁ h₁=>?_) fun _ _ h'=>h'.elim)));cases r with
 | none=>exact wpAny_pure h₁
 | some v =>
   refine wpAny_bind (wpAny_mono h₁ (fun _ s₁' h₁'=>?_) fun _ _ h'=>h'.elim);refine wpAny_bind (wpAny_mono h₁' (fun _ s₂ h₂=>wpAny_bind (wpAny_mono h₂ (fun ok s₃ h₃=>?_) fun _ _ h'=>h'.elim)) fun _ _ h'=>h'.elim);cases ok with
   | true =>
     rw [if_pos rfl] at h₃;simp only [if_true];exact wpAny_bind (wpAny_bind (wpAny_mono h₃ (fun x s₄ h₄=>wpAny_bind (wpAny_mono h₄ (fun _ s₅ h₅=>wpAny_pure (wpAny_pure ⟨rfl,h₅⟩)) fun _ _ h'=>h'.elim)) fun _ _ h'=>h'.elim))
   | false =>
     rw [if_neg Bool.false_ne_true] at h₃;simp only [Bool.false_eq_true,if_false]
     first
       | exact wpAny_pure ⟨rfl,h₃⟩
       | exact wpAny_bind (wpAny_pure (wpAny_pure ⟨rfl,h₃⟩))
end
end L2
set_option Elab.async false
set_option linter.all false
set_option maxRecDepth 100000
namespace L2
open PySem PySem.Spec PyProof.Rows
section
variable {X:Cx} {Nc:List Str} {own:Nat} {js:List Nat} {scope:Scope} {cl:List (Str × Addr)}
theorem qb {pins:List (Addr × Obj)} {σ:St} {H₁:Hp} {s₂:Shared} {C:Addr} {fp:List Addr} (T:CompTxt X Nc own js scope cl) (I:Inv X pins σ H₁ s₂) (hC:s₂.heap.objs.size<=C)
   (f1:∀ b∈fp,kd X pins H₁ b) (hlt:∀ b∈fp,b<s₂.heap.objs.size):(X.comp Nc scope cl C s₂ H₁ fp).Ok where
 mod:=I.ok.mod
 kind:=by show (relabel scope X.env).kind=_;exact T.kind
 glob:=I.ok.glob
 blt:=I.ok.blt
 above:=hC
 inj:=fun x y c h1 h2=>I.ok.inj x y c (T.cells x c h1) (T.cells y c h2)
 has:=fun x h=>T.has x h
 cab:=fun x c h=>by cases h
 hd:=I.ok.hd
 frames:=I.ok.frames
 stk:=.inl rfl
 exf:=fun b hb=>⟨Nat.ne_of_lt (Nat.lt_of_lt_of_le (hlt b hb) hC),fun x c h=>(f1 b hb).2.2.2.2.1 x c (T.cells x c h)⟩
 bs:=I.bs
 bsz:=Nat.le_trans I.ok.bsz I.sz
 noex:=fun b o e hb=>by
   rcases (f1 b hb).2.2.2.1 with z|z
   . exact I.ok.noex b o e z
   . exact absurd (Nat.lt_of_lt_of_le (Heap.lt_size (I.ok.bs b o e).1) z) (Nat.lt_irrefl _)
 exfs:=fun b hb hs=>by
   rcases List.mem_cons.mp (I.stkSub b hs) with z|z
   . exact (f1 b hb).2.1 z
   . exact (f1 b hb).2.2.1 z
 funs:=I.stack
 frf:=I.stkFree
theorem qx {pins:List (Addr × Obj)} {σ:St} {H₁:Hp} {s₂:Shared} {C D:Addr} {fp:List Addr} {h₁:Heap} {t:Nat} {m:Str->Option Value} (T:CompTxt X Nc own js scope cl) (I:Inv X pins σ H₁ s₂) (hC:s₂.heap.objs.size<=C)
   (hD:s₂.heap.objs.size<=D) (hDC:D≠C) (f1:∀ b∈fp,kd X pins H₁ b) (hlt:∀ b∈fp,b<s₂.heap.objs.size) (old:∀ b o,s₂.heap.get? b=some o->h₁.get? b=some o) (hns:h₁.Ns C m)
   (hacc:∃ n,h₁.get? D=some { cls:=.type "list",data:=.seq ([]:List Value).toArray n }) :
   Inv (X.comp Nc scope cl C s₂ H₁ fp) [] (fZ own js σ) (upd H₁ D (.lst [])) { s₂ with heap:=h₁,toks:=t }:=by
 obtain ⟨na,hacc⟩:=hacc;have cellK:∀ c v,s₂.heap.IsCell c v->h₁.IsCell c v:=fun c v ⟨o,ho,hd⟩=>⟨o,old c o ho,hd⟩;refine ⟨qb T I hC f1 hlt,rfl,I.bare,Un.laid old hD (I.hok.fresh hD),⟨m,hns,fun i x v e1 e2 e3=>?_⟩,fun x c e=>?_,?_,fun x c e=>?_,fun p hp=>(by cases hp),I.hok.laid old hD ?_,?_⟩
 . have hN:Nc[i]?=some x:=e1;have hσ:(fZ own js σ)[i]?=some (some v):=e2;unfold fZ at hσ;by_cases hi:i<own
   . rw [List.getElem?_append_left (by simpa using hi),List.getElem?_replicate] at hσ;simp [hi] at hσ
   . obtain ⟨k,rfl⟩:∃ k,i=own+k:=⟨i - own,by omega⟩;rw [List.getElem?_append_right (by simp)] at hσ;simp only [List.length_replicate,Nat.add_sub_cancel_left,List.getElem?_map] at hσ;obtain ⟨j,hj,hx,hk,hr⟩:=T.outer k x hN;rw [hj] at hσ;replace hσ:some (σ[j]?.getD none)=some (some v):=hσ;have hσj:σ[j]?=some (some v):=by
       cases q:σ[j]? with
       | none=>rw [q] at hσ;simp at hσ
       | some y=>rw [q] at hσ;simpa using hσ
     obtain ⟨m0,hn0,hl0⟩:=I.loc;obtain ⟨u,ru,lk⟩:=hl0 j x v hx hσj (.inr (.inl hk));refine ⟨u,ru,.inr ⟨.inl hr,?_⟩⟩;rcases lk with ⟨z,_⟩|⟨_,c,hc,hcell⟩
     . have z':X.env.scope.names.lookup x=some .local:=z;rw [hk] at z';cases z'
     . obtain ⟨c',hc'⟩:=T.has x (.inl hr);have:=T.cells x c' hc';rw [hc] at this;cases this;exact ⟨c,hc',cellK c _ hcell⟩
 . obtain ⟨v,z⟩:=I.cell x c (T.cells x c e);exact ⟨v,cellK c v z⟩
 . show upd H₁ D (.lst []) C=none;rw [am (Ne.symm hDC)];exact I.hok.fresh hC
 . have e':=T.cells x c e;obtain ⟨v,o,ho,_⟩:=I.cell x c e';rw [am (Nat.ne_of_lt (Nat.lt_of_lt_of_le (Heap.lt_size ho) hD))];exact I.freeC x c e'
 . exact ⟨Nat.zero_le _,[],na,.nil,hacc⟩
 . show (fZ own js σ).length=Nc.length;rw [T.len];simp [fZ]
theorem lN {pins:List (Addr × Obj)} {σ σc:St} {H₁ H':Hp} {s₂ s':Shared} {C:Addr} {fp:List Addr} {h':Heap} (I:Inv X pins σ H₁ s₂) (hC:s₂.heap.objs.size<=C)
   (f1:∀ b∈fp,kd X pins H₁ b) (I':Inv (X.comp Nc scope cl C s₂ H₁ fp) [] σc H' s') (hs:Heap.SameBut C s'.heap h'):Inv X pins σ H' { s' with heap:=h' }:=by
 have u:Un (frs X.stack) fp H₁ H' s₂.heap s'.heap:=I'.base;have ne:∀ b o,s₂.heap.get? b=some o->b≠C:=fun b o e=>Nat.ne_of_lt (Nat.lt_of_lt_of_le (Heap.lt_size e) hC);have k:∀ b o,b≠C->s'.heap.get? b=some o->h'.get? b=some o:=fun b o n e=>hs.extBut b o n e;have u':Un (frs X.stack) fp H₁ H' s₂.heap h':=⟨fun b o e n hb hx=>k b o (ne b o e) (u.keep b o e n hb hx),fun b o e n hb hx=>let ⟨sl,q⟩:=u.slot b o e n hb hx;⟨sl,k b _ (ne b o e) q⟩,
   u.free,fun b o e hx=>let ⟨o',q⟩:=u.there b o e hx;⟨o',k b o' (ne b o e) q⟩,u.tups,u.frzs,u.tbls⟩
 have hfree:H' C=none:=I'.free;have hok':HOk X.prog X.w H' h':=fun a o e=>(I'.hok a o e).stay (fun b v hb q=>k b v (fun z=>by
   rcases hb with y|y
   . rw [y] at z;rw [z,hfree] at e;cases e
   . rw [z,hfree] at y;cases y) q) (fun _ q=>q) fun _ _ q=>q
 exact I.call' (s':={ s' with heap:=h' }) (ch:=fp) I'.os u' hok' I'.bare fun b hb=>⟨(f1 b hb).2.2.2.1,(f1 b hb).2.1,(f1 b hb).2.2.2.2.1,(f1 b hb).2.2.2.2.2⟩
theorem yg {elt target iter:Expr} {ifs:List Expr} {pos:Pos} {wi:TI} {g:TG} {tc:TT} {te:TE} (hc:X.calm=true) (T:CompTxt X Nc own js scope cl)
   (hi:PI X target iter wi) (hg:∀ C s₂ H₁ fp,PG (X.comp Nc scope cl C s₂ H₁ fp) target g) (ht:∀ C s₂ H₁ fp,PTs (X.comp Nc scope cl C s₂ H₁ fp) ifs tc)
   (he:∀ C s₂ H₁ fp,PE (X.comp Nc scope cl C s₂ H₁ fp) elt te) (hs:∀ x,foldedSetIterable iter X.env x=pure x:=by intro _;rfl) :
   PE X (.ListComp elt [⟨target,iter,ifs,0⟩] scope pos) (wk own js wi g tc te):=by
 intro pins s σ H Q I h;rw [eval_ListComp];refine wpAny_comprehension_free (use:=none) rfl hs T.clos T.kind T.names (thn (hi pins s σ H _ I h) fun v s1 h1=>thn h1 fun itv s2 h2=>?_);obtain ⟨it,fp,tn,J,H1,rfl,I1,Tn,st,f1,R⟩:=h2;have hfp:∀ b∈fp,b<s2.heap.objs.size:=fun b hb=>let ⟨o,e,_⟩:=Tn.obj _ _ st b hb;Heap.lt_size e;refine wpAny_newObj_type (wpAny_newFunctionEnv T.nocell (by intro y hy;simp at hy) (fun h₁ hns₁ hsb₁=>?_) T.kind);dsimp only at hns₁ hsb₁ ⊢;generalize hH2:s2.heap.push { cls:=.type "list",dict:=none,data:=.seq ([]:List Value).toArray }=H2 at hns₁ hsb₁ ⊢;have hC:H2.objs.size=s2.heap.objs.size+1:=by rw [<- hH2,Heap.size_push]
 have hDC:s2.heap.objs.size≠H2.objs.size:=by rw [hC];exact Nat.ne_of_lt (Nat.lt_succ_self _)
 have hCle:s2.heap.objs.size<=H2.objs.size:=by rw [hC];exact Nat.le_succ _
 have below:∀ b,b<s2.heap.objs.size->b≠H2.objs.size:=fun b hb=>by rw [hC];exact Nat.ne_of_lt (Nat.lt_succ_of_lt hb)
 have old:∀ b o,s2.heap.get? b=some o->h₁.get? b=some o:=fun b o e=>hsb₁.extBut b o (below b (Heap.lt_size e)) (Heap.get?_push_of_some _ (hH2 ▸ Heap.get?_push_of_some _ e));have hacc:∃ n,h₁.get? s2.heap.objs.size=some { cls:=.type "list",data:=.seq ([]:List Value).toArray n }:=⟨_,hsb₁.extBut _ _ hDC (Heap.get?_push_of_some _ (hH2 ▸ Heap.get?_push_size _ rfl))⟩;have st₁:tn 0 h₁:=Tn.keep _ _ _ st fun b _ o e=>old b o e;obtain ⟨W,⟨m0,w0⟩,turn⟩:=R s2.heap.objs.size I1.fresh;have Ic:=qx (t:=s2.toks+([]:List (Str × Value)).length) T I1 hCle (Nat.le_refl _) hDC f1 hfp old hns₁ hacc;generalize hXc:X.comp Nc scope cl H2.objs.size s2 H1 fp=Xc at Ic;have stat:∀ {H':Hp},(∀ b∈fp,H' b=none)->∀ b∈fp,kd Xc [] H' b:=fun {H'} hn b hb=>by
   subst hXc;exact ⟨hn b hb,below b (hfp b hb),(qb T I1 hCle f1 hfp).exfs b hb,.inl hb,fun x c e=>(f1 b hb).2.2.2.2.1 x c (T.cells x c e),fun p hp=>by cases hp⟩
 have fr0:∀ b∈fp,upd H1 s2.heap.objs.size (.lst []) b=none:=fun b hb=>by
   rw [am (Nat.ne_of_lt (hfp b hb))];exact (f1 b hb).1
 have calmc:Xc.calm=true:=by subst hXc;exact hc
 have loop:∀ s₃:Shared,s₃={ s2 with heap:=h₁,toks:=s2.toks+([]:List (Str × Value)).length } ->
     codeAny (model X.prog X.w) X.A (.compLoop (.ListComp elt [⟨target,iter,ifs,0⟩] scope pos) 0 (.ref it) (.ref s2.heap.objs.size) (compEnvC scope cl H2.objs.size X.env))
       (compPost (model X.prog X.w) X.A X.xe none (EP X pins σ Q) (.ref s2.heap.objs.size) H2.objs.size) s₃:=by
   rintro s₃ rfl;refine u8 (fun n s'=>∃ i ys σ' H',Inv Xc [] σ' H' s'/\tn i s'.heap/\(∀ b∈fp,H' b=none)/\W i n ys σ' H') ?_ m0 ⟨0,[],_,_,Ic,st₁,fr0,w0⟩;rintro n s3 ⟨i,ys,σ3,H3,I3,st3,fr3,w3⟩;rcases turn i n ys σ3 H3 w3 with ⟨stop,q⟩|⟨go,step⟩
   . subst hXc;refine thn (Tn.done (X.comp Nc scope cl H2.objs.size s2 H1 fp) rfl rfl rfl hc i [] s3 σ3 H3 _ I3 (stat fr3) st3 stop) fun r s4 ⟨hr,I4⟩=>?_;subst hr;obtain ⟨m4,hn4,_⟩:=id I4.loc;exact ⟨m4,hn4,fun h' hs'=>⟨.ref s2.heap.objs.size,H3,lN I1 hCle f1 I4 hs',rfl,q⟩⟩
   . subst hXc;refine thn (Tn.item (X.comp Nc scope cl H2.objs.size s2 H1 fp) rfl rfl rfl hc i [] s3 σ3 H3 _ I3 (stat fr3) st3 go) fun r s4 ⟨u,hr,h4⟩=>?_;subst hr;refine thn h4 fun _ s5 ⟨x,H5,I5,r5,y5,st5,fr5⟩=>?_;have I5':=I5.pinned (stat fr5) (Tn.obj _ _ st5);have back:∀ {σ7:St} {H7:Hp} {s7:Shared},Inv (X.comp Nc scope cl H2.objs.size s2 H1 fp) ([]++fT fp s5.heap) σ7 H7 s7->Inv (X.comp Nc scope cl H2.objs.size s2 H1 fp) [] σ7 H7 s7/\tn (i+1) s7.heap/\∀ b∈fp,H7 b=none:=fun {σ7 H7 s7} I7=>by
       refine ⟨I7.unpinned,Tn.keep _ _ _ st5 fun b hb o e=>(I7.pin (b,o) (List.mem_append_right _ (List.mem_append_right _ (cQ hb e)))).1,fun b hb=>?_⟩;obtain ⟨o,e,d⟩:=Tn.obj _ _ st5 b hb;exact (I7.pin (b,o) (List.mem_append_right _ (List.mem_append_right _ (cQ hb e)))).2.1
     refine thn (hg _ _ _ _ _ s5 σ3 H5 x u _ I5' r5 (step x H5 y5)) fun _ s6 ⟨σ6,H6,I6,q6⟩=>?_;refine qQ (ht _ _ _ _ _ s6 σ6 H6 _ I6 q6) fun ok s7 H7 I7 q7=>?_;cases ok with
     | false =>
       rw [if_neg Bool.false_ne_true] at q7 ⊢;obtain ⟨m',hm,w7⟩:=q7;obtain ⟨J1,J2,J3⟩:=back I7;exact ⟨m',hm,i+1,ys,σ6,H7,J1,J2,J3,w7⟩
     | true =>
       rw [if_pos rfl] at q7 ⊢;refine bh (he _ _ _ _ _ s7 σ6 H7 _ I7 q7) fun y s8 yv H8 I8 r8 ⟨hp8,hl8,m',hm,w8⟩=>?_;refine thn (cG _ s8 σ6 H8 (.ref s2.heap.objs.size) [yv] _ [y] (fun v' H'=>W (i+1) m' (ys++[yv]) σ6 H') I8 rfl (.cons r8 .nil) ⟨_,ys,yv,rfl,rfl,hp8,hl8,w8⟩) fun v9 s9 ⟨_,H9,I9,_,w9⟩=>?_;obtain ⟨J1,J2,J3⟩:=back I9;exact ⟨m',hm,i+1,ys++[yv],σ6,H9,J1,J2,J3,w9⟩
 exact codeAny_compStart_list (loop _ rfl) (Tn.self _ 0 _ _ _ st₁ (loop _ rfl))
end
end L2
set_option Elab.async false
set_option linter.all false
set_option maxRecDepth 100000
namespace L2
open PySem PySem.Spec PyProof.Rows
section
variable {X:Cx}
def rInsert:V->List V->Hp->VK->Prop:=fun x vs H Q=>∃ (l:Addr) (xs:List V) (i:Int) (y:V),x=.ref l/\vs=[.int i,y]/\H l=some (.lst xs)/\0<=i/\i<=xs.length/\xs.length<sizeLine/\Q .non (upd H l (.lst (xs.take i.toNat++y::xs.drop i.toNat)))
theorem lv:MtM X "list.insert" rInsert:=by
 intro pins s σ H x vs v us Q I rx rv h;obtain ⟨l,xs,i,y,rfl,rfl,hH,h0,hk,hz,q⟩:=h;cases rx;obtain ⟨u1,u2,rfl,⟨t,rfl⟩,ru⟩:=rv.two;obtain ⟨z,its,n,r,hl,e⟩:=I.lstM hH;have hn:=lJ;have hf:Builtin.List.listFitsIndex i=true:=by
   unfold Builtin.List.listFitsIndex;rw [Bool.and_eq_true];exact ⟨decide_eq_true (by omega),decide_eq_true (by omega)⟩
 have hf':¬ (!Builtin.List.listFitsIndex i)=true:=by rw [hf];decide
 have hzz:its.toArray.size<=sizeLine:=by rw [List.size_toArray,<- hl];exact z
 refine call_meets PySem.F.slot_list_insert ⟨_,e,rfl⟩ PySem.F.entry_list_insert (PySem.F.args_list_insert_3 _ _ _) (PySem.AutoSeq1.list_insert_list_int_val_1 l its.toArray n i t u2 hf' hzz) ⟨e,?_⟩;refine ⟨.non,_,I.lset (its':=its.take i.toNat++u2::its.drop i.toNat) hH e ?_ ((r.take i.toNat).append (.cons ru (r.drop i.toNat))) ?_,rfl,q⟩
 . show (its.toArray.extract 0 (if i<0 then (i+(its.toArray.size:Int)).toNat else min i.toNat its.toArray.size)).push u2++its.toArray.extract (if i<0 then (i+(its.toArray.size:Int)).toNat else min i.toNat its.toArray.size)=_;have e0:(if i<0 then (i+(its.toArray.size:Int)).toNat else min i.toNat its.toArray.size)=i.toNat:=by
     rw [if_neg (by omega),List.size_toArray];omega
   rw [e0];exact PySem.W.kl_ins_eq its i.toNat u2
 . rw [List.length_append,List.length_cons,List.length_take,List.length_drop];omega
def HL (K:PySem.W.Frag):List V->Hp->VK->Prop:=fun xs H Q=>∃ x c t b,xs=[x,c]/\TyOf K H x t/\(∀ cv,RelV c cv->PySem.W.kitOne K t cv=some b)/\Q (.bl b) H
theorem uU:dI X (.builtin "isinstance") (HL X.K):=by
 intro pins s σ H xs us Q I r h;obtain ⟨x,c,t,b,rfl,ty,hk,q⟩:=h;obtain ⟨u,cv,rfl,ru,rc⟩:=wp r;exact Fc I ru ty (hk cv rc) fun tk=>⟨.bl b,H,I.tok tk,rfl,q⟩
theorem Hl (hc:X.calm=true):dI X (.builtin "all") (fun xs H Q=>∃ (p:Addr) (bs:List Bool),xs=[.ref p]/\SqL X.K H p (bs.map V.bl)/\Q (.bl (bs.all id)) H):=by
 intro pins s σ H xs us Q I r h;obtain ⟨p,bs,rfl,hp,q⟩:=h;obtain ⟨u,rfl,ru⟩:=iP r;cases ru;obtain ⟨its,rv,pl,hz⟩:=I.list hp;have hl:=pl.isList;have hlt:=pl.lt;have hh:X.A.in1.handled=none:=I.ok.hd hc;have hlen:its.length=bs.length:=by rw [<- rv.length,List.length_map]
 refine call_all_walk (wpAny_pyIter_list hl ?_);refine ⟨s.heap.objs.size,[s.heap.objs.size,p],[s.heap.objs.size],its.toArray.size,_,_,fun i=>(bs[i]?).getD true,rfl,Walks.list (A:=X.A.in1) hh _ p (Nat.ne_of_lt hlt) its.toArray,
   ⟨⟨_,Heap.get?_push_size _ rfl,rfl,rfl⟩,hl.push _⟩,fun i v s' Q' E' hP hQ=>?_,fun h' tk hk=>?_⟩
 . have hi:its[i]?=some v:=by simpa using hP
   have hib:i<bs.length:=by rw [<- hlen];exact (List.getElem?_eq_some_iff.mp hi).1
   obtain ⟨u,hu,ru⟩:=rv.get (i:=i) (x:=V.bl bs[i]) (by rw [List.getElem?_map,List.getElem?_eq_getElem hib];rfl);rw [hi] at hu;cases hu;cases ru;replace hQ:Q' (bs[i]?.getD true) s':=hQ;rw [List.getElem?_eq_getElem hib] at hQ;exact wpAny_truthy_bool hQ
 . have e:((List.range its.toArray.size).all fun i=>(bs[i]?).getD true)=bs.all id:=by
     rw [List.size_toArray,hlen];rw [Bool.eq_iff_iff,List.all_eq_true,List.all_eq_true]
     constructor
     . intro z b hb;obtain ⟨i,hi,rfl⟩:=List.getElem_of_mem hb;have:=z i (List.mem_range.mpr hi);rw [List.getElem?_eq_getElem hi] at this;exact this
     . intro z i hi;have hi':=List.mem_range.mp hi;rw [List.getElem?_eq_getElem hi'];exact z _ (List.getElem_mem hi')
   have kk:∀ b o,s.heap.get? b=some o->h'.get? b=some o:=fun b o eb=>hk b o (fun hm=>by rw [List.mem_singleton.mp hm] at eb;exact Nat.lt_irrefl _ (Heap.lt_size eb)) (Heap.get?_push_of_some _ eb);rw [e];exact ⟨.bl _,H,I.kept (t':=tk) kk,rfl,q⟩
end
mutual
inductive Deep (K:PySem.W.Frag) (H:Hp):V->PyData->Prop
 | non:Deep K H .non .none
 | bl (b:Bool):Deep K H (.bl b) (.bool b)
 | int (i:Int):Deep K H (.int i) (.int i)
 | str {x:Str}:PyData.canLay0 (.str x)=true->Deep K H (.str x) (.str x)
 | lst {a:Addr} {xs:List V} {ds:List PyData}:SqL K H a xs->DeepAll K H xs ds->Deep K H (.ref a) (.list ds)
 | tup {a:Addr} {xs:List V} {ds:List PyData}:SqT K H a xs->DeepAll K H xs ds->Deep K H (.ref a) (.tuple ds)
inductive DeepAll (K:PySem.W.Frag) (H:Hp):List V->List PyData->Prop
 | nil:DeepAll K H [] []
 | cons {x:V} {d:PyData} {xs:List V} {ds:List PyData}:Deep K H x d->DeepAll K H xs ds->DeepAll K H (x::xs) (d::ds)
end
mutual
theorem Deep.reads {X:Cx} {pins:List (Addr × Obj)} {σ:St} {H:Hp} {s:Shared} (I:Inv X pins σ H s):∀ {x:V} {d:PyData} {u:Value},Deep X.K H x d->RelV x u->(∃ as,Reads s.heap u d as)/\d.canLay0=true
 | _,_,_,.non,r=>by cases (show _=Value.none from r);exact ⟨⟨_,.none⟩,by simp [PyData.canLay0]⟩
 | _,_,_,.bl b,r=>by cases (show _=Value.bool b from r);exact ⟨⟨_,.bool b⟩,by simp [PyData.canLay0]⟩
 | _,_,_,.int i,r=>by obtain ⟨t,e⟩:=(show ∃ t,_=Value.int i t from r);cases e;exact ⟨⟨_,.int i t⟩,by simp [PyData.canLay0]⟩
 | _,_,_,.str (x:=x) h,r=>by obtain ⟨t,e⟩:=(show ∃ t,_=Value.str x t from r);cases e;exact ⟨⟨_,.str x t⟩,h⟩
 | _,_,_,.lst (a:=a) h hs,r=>by
   cases (show _=Value.ref a from r);obtain ⟨its,rv,⟨o,n,e,c,_,dd⟩,hz⟩:=I.list h;obtain ⟨⟨as,ra⟩,cl⟩:=DeepAll.reads I hs rv;exact ⟨⟨_,.list e c dd (by simpa using ra)⟩,by simpa [PyData.canLay0] using cl⟩
 | _,_,_,.tup (a:=a) h hs,r=>by
   cases (show _=Value.ref a from r);obtain ⟨its,rv,⟨o,e,c,n,dd⟩,hz⟩:=I.tuple h;obtain ⟨⟨as,ra⟩,cl⟩:=DeepAll.reads I hs rv;exact ⟨⟨_,.tuple e c dd (by simpa using ra)⟩,by simpa [PyData.canLay0] using cl⟩
theorem DeepAll.reads {X:Cx} {pins:List (Addr × Obj)} {σ:St} {H:Hp} {s:Shared} (I:Inv X pins σ H s):∀ {xs:List V} {ds:List PyData} {us:List Value},DeepAll X.K H xs ds->Vals xs us->(∃ as,ReadsAll s.heap us ds as)/\PyData.canLayAll0 ds=true
 | _,_,_,.nil,.nil=>⟨⟨_,.nil⟩,by simp [PyData.canLayAll0]⟩
 | _,_,_,.cons h hs,.cons r rs=>by
   obtain ⟨⟨as,ra⟩,c1⟩:=Deep.reads I h r;obtain ⟨⟨bs,rb⟩,c2⟩:=DeepAll.reads I hs rs;exact ⟨⟨_,.cons ra rb⟩,by simp [PyData.canLayAll0,c1,c2]⟩
end
section
variable {X:Cx}
def IY (K:PySem.W.Frag):R2:=fun x y H Q=>∃ d e,Deep K H x d/\Deep K H y e/\d.depth<=40/\Q (.bl (PyData.eqv d e)) H
def KF (K:PySem.W.Frag):R2:=fun x y H Q=>∃ d e,Deep K H x d/\Deep K H y e/\d.depth<=40/\Q (.bl (!PyData.eqv d e)) H
theorem EU (hu:X.A.units+64<cLine):OpR X (compareOp .Eq) (IY X.K):=by
 intro pins s σ H x y v u Q I rx ry h;obtain ⟨d,e,hd,he,hp,q⟩:=h;obtain ⟨⟨as,ra⟩,ca⟩:=hd.reads I rx;obtain ⟨⟨bs,rb⟩,cb⟩:=he.reads I ry;exact PySem.SeqAt.compareEq_reads ra rb ca cb (by omega) ⟨.bl _,H,I,rfl,q⟩
theorem JE (hu:X.A.units+64<cLine):OpR X (compareOp .NotEq) (KF X.K):=by
 intro pins s σ H x y v u Q I rx ry h;obtain ⟨d,e,hd,he,hp,q⟩:=h;obtain ⟨⟨as,ra⟩,ca⟩:=hd.reads I rx;obtain ⟨⟨bs,rb⟩,cb⟩:=he.reads I ry;exact PySem.SeqAt.compareNe_reads ra rb ca cb (by omega) ⟨.bl _,H,I,rfl,q⟩
end
end L2
set_option Elab.async false
set_option linter.all false
set_option maxRecDepth 100000
namespace L2
open PySem PySem.Spec PyProof.Rows
section
variable {P:Program} {w:World} {A:Around} {E:Value->Shared->Prop} {s:Shared}
end
end L2
set_option Elab.async false
set_option linter.all false
set_option maxRecDepth 100000
namespace L2
open PySem PySem.Spec PyProof.Rows
section
variable {P:Program} {w:World} {A:Around} {E:Value->Shared->Prop} {s:Shared} {l1 l2:Addr} {ob1 ob2:Obj} {src1 src2:Heap->Array Value->Prop} {at1 at2:Addr->Nat->Heap->Prop}
end
def SqX (K:PySem.W.Frag):Bool->Hp->Addr->List V->Prop
 | true,H,a,xs=>SqL K H a xs
 | false,H,a,xs=>SqT K H a xs
def Itz (K:PySem.W.Frag) (c d:Bool) (a b:Addr):It :=
 ⟨fun i H=>∃ xs ys x y,SqX K c H a xs/\SqX K d H b ys/\xs[i]?=some x/\ys[i]?=some y,
  fun i H v H'=>∃ p x y,H p=none/\v=.ref p/\H'=upd H p (.tup [x,y])/\(∀ xs,SqX K c H a xs->xs[i]?=some x)/\∀ ys,SqX K d H b ys->ys[i]?=some y,
  fun i H=>∃ xs ys,SqX K c H a xs/\SqX K d H b ys/\(xs.length<=i\/ys.length<=i)⟩
end L2
set_option Elab.async false
set_option linter.all false
set_option maxRecDepth 100000
namespace L2
open PySem PySem.Spec PyProof.Rows
section
variable {X:Cx} {pins:List (Addr × Obj)} {σ:St} {H H2:Hp} {s s2:Shared} {a:Addr} {o:HO}
end
section
variable {P:Program} {w:World} {A:Around} {E:Value->Shared->Prop} {s:Shared}
end
end L2
set_option Elab.async false
set_option linter.all false
set_option maxRecDepth 100000
namespace L2
open PySem PySem.Spec PyProof.Rows
section
variable {P:Program} {w:World} {A:Around} {E:Value->Shared->Prop} {s:Shared} {R:Result->Shared->Prop}
end
section
variable {X:Cx} {e:Expr} {te:TE} {p1 p2 pos pos2:Pos}
end
end L2
set_option Elab.async false
set_option linter.all false
set_option maxRecDepth 100000
namespace L2
open PySem PySem.Spec PyProof.Rows
section
variable {X:Cx}
def Jv (K:PySem.W.Frag) (c d:Bool) (ta:TA):TI:=fun σ H R=>ta σ H fun vs H1=>∃ a b,vs=[.ref a,.ref b]/\(∃ xs,SqX K c H1 a xs)/\(∃ ys,SqX K d H1 b ys)/\R (Itz K c d a b) H1
end
end L2
set_option linter.all false
namespace Pb
structure Road where
 a:Int
 b:Int
 t:Int
 u:Int
 deriving DecidableEq
def lF (m:Int) (rs:List Road):Prop:=∀ S:Int->Prop,S 0->(∀ r∈rs,(S r.a↔S r.b))->∀ v,0<=v->v<m->S v
structure RoadOk (m:Int) (r:Road):Prop where
 a0:0<=r.a
 a1:r.a<m
 b0:0<=r.b
 b1:r.b<m
 ne:r.a≠r.b
 t0:2<=r.t
 t1:r.t<=1000000
 u0:2<=r.u
 u1:r.u<=1000000
structure Good (m:Int) (rs:List Road):Prop where
 m1:1<=m
 m24:m<=24
 len:(rs.length:Int)=m - 1
 ok:∀ r∈rs,RoadOk m r
 jn:lF m rs
theorem vk {α:Type} [DecidableEq α]:∀ {l l':List α},l.Nodup->(∀ x∈l,x∈l')->l.length<=l'.length
 | [],_,_,_=>Nat.zero_le _
 | x::r,l',hn,hs=>by
   obtain ⟨h1,h2⟩:=List.nodup_cons.mp hn;have hx:x∈l':=hs x List.mem_cons_self;have:r.length<=(l'.erase x).length:=vk h2 fun y hy=>(List.mem_erase_of_ne (fun (e:y=x)=>h1 (by rw [<- e];exact hy))).mpr (hs y (List.mem_cons_of_mem _ hy));rw [List.length_erase_of_mem hx] at this;have hp:0<l'.length:=List.length_pos_of_mem hx;rw [List.length_cons];omega
def below (n:Nat):List Int:=(List.range n).map fun (k:Nat)=>(k:Int)
theorem yD {n:Nat} {v:Int}:v∈below n↔0<=v/\v<n:=by
 unfold below;rw [List.mem_map]
 constructor
 . rintro ⟨k,hk,rfl⟩;have:=List.mem_range.mp hk;omega
 . rintro ⟨h0,h1⟩;exact ⟨v.toNat,List.mem_range.mpr (by omega),by omega⟩
theorem tS (n:Nat):(below n).length=n:=by simp [below]
theorem Cc (n:Nat):(below n).Nodup:=by
 unfold below;refine List.Pairwise.map _ (fun a b h=>?_) (List.nodup_range (n:=n));intro e;exact h (by omega)
theorem eU {m:Int} {l:List Int} (hm:0<=m) (hn:l.Nodup) (h:∀ x∈l,0<=x/\x<m):(l.length:Int)<=m:=by
 have:=vk (l':=below m.toNat) hn fun x hx=>yD.mpr ⟨(h x hx).1,by have:=(h x hx).2;omega⟩;rw [tS] at this;omega
theorem AF {m:Int} {l:List Int} (hm:0<=m) (h:∀ v,0<=v->v<m->v∈l):m<=(l.length:Int):=by
 have:=vk (l:=below m.toNat) (l':=l) (Cc _) fun x hx=>by
   obtain ⟨h0,h1⟩:=yD.mp hx;exact h x h0 (by omega)
 rw [tS] at this;omega
def uJ (p:Int) (r:Road):List Int:=(if r.a=p then [r.b] else [])++(if r.b=p then [r.a] else [])
def cY (rs:List Road) (p:Int):List Int:=rs.flatMap (uJ p)
theorem li {rs:List Road} {p e:Int}:e∈cY rs p↔∃ r∈rs,(r.a=p/\r.b=e)\/(r.b=p/\r.a=e):=by
 unfold cY uJ;rw [List.mem_flatMap]
 constructor
 . rintro ⟨r,hr,h⟩;refine ⟨r,hr,?_⟩;rcases List.mem_append.mp h with h|h
   . by_cases c:r.a=p
     . rw [if_pos c] at h;exact .inl ⟨c,(List.mem_singleton.mp h).symm⟩
     . rw [if_neg c] at h;cases h
   . by_cases c:r.b=p
     . rw [if_pos c] at h;exact .inr ⟨c,(List.mem_singleton.mp h).symm⟩
     . rw [if_neg c] at h;cases h
 . rintro ⟨r,hr,h⟩;refine ⟨r,hr,List.mem_append.mpr ?_⟩;rcases h with ⟨h1,h2⟩|⟨h1,h2⟩
   . exact .inl (by rw [if_pos h1,h2];exact List.mem_singleton.mpr rfl)
   . exact .inr (by rw [if_pos h1,h2];exact List.mem_singleton.mpr rfl)
theorem Hj (rs:List Road) (p:Int):(cY rs p).length<=2*rs.length:=by
 unfold cY
 induction rs with
 | nil=>simp
 | cons r rs ih =>
   rw [List.flatMap_cons,List.length_append,List.length_cons];have:(uJ p r).length<=2:=by
     unfold uJ;rw [List.length_append];by_cases c:r.a=p <;> by_cases d:r.b=p <;> simp [c,d]
   omega
theorem oW (rs:List Road) (r:Road) (p:Int):cY (rs++[r]) p=cY rs p++uJ p r:=by
 unfold cY;rw [List.flatMap_append];simp
def vW (c:List Int × List Int) (e:Int):List Int × List Int:=if e∈c.1 then c else (c.1++[e],c.2++[e])
structure JInv (m:Int) (rs:List Road) (ks ws:List Int):Prop where
 nd:ks.Nodup
 zero:0∈ks
 rng:∀ k∈ks,0<=k/\k<m
 sub:∀ w∈ws,w∈ks
 cl:∀ k∈ks,k ∉ ws->∀ e∈cY rs k,e∈ks
 wl:ws.length<=ks.length
theorem q9 {l:List Int} {e:Int} (h:l.Nodup) (he:e ∉ l):(l++[e]).Nodup:=by
 rw [List.nodup_append];refine ⟨h,by simp,fun a ha b hb=>?_⟩;rw [List.mem_singleton.mp hb];exact fun z=>he (z ▸ ha)
structure JMid (m:Int) (rs:List Road) (p:Int) (es ks ws ks0:List Int) (n0:Nat):Prop where
 nd:ks.Nodup
 zero:0∈ks
 rng:∀ k∈ks,0<=k/\k<m
 sub:∀ w∈ws,w∈ks
 cl:∀ k∈ks,k ∉ ws->k=p\/∀ e∈cY rs k,e∈ks
 seen:∀ e∈es,e∈ks
 pin:p∈ks
 mu:ks.length+n0=ks0.length+ws.length
 up:ks0.length<=ks.length
 wl:ws.length<=ks.length
theorem JMid.start {m:Int} {rs:List Road} {ks ws:List Int} {p:Int} (h:JInv m rs ks (ws++[p])):JMid m rs p [] ks ws ks ws.length where
 nd:=h.nd
 zero:=h.zero
 rng:=h.rng
 sub:=fun w hw=>h.sub w (List.mem_append_left _ hw)
 cl:=fun k hk hw=>by
   by_cases e:k=p
   . exact .inl e
   . exact .inr (h.cl k hk fun z=>by
       rcases List.mem_append.mp z with z|z
       . exact hw z
       . exact e (List.mem_singleton.mp z))
 seen:=fun e he=>by cases he
 pin:=h.sub p (List.mem_append_right _ (List.mem_singleton.mpr rfl))
 mu:=rfl
 up:=Nat.le_refl _
 wl:=by have:=h.wl;rw [List.length_append] at this;simp at this;omega
theorem JMid.step {m:Int} {rs:List Road} {p:Int} {es ks ws ks0:List Int} {n0:Nat} {e:Int} (h:JMid m rs p es ks ws ks0 n0) (h0:0<=e) (h1:e<m) :
   JMid m rs p (es++[e]) (vW (ks,ws) e).1 (vW (ks,ws) e).2 ks0 n0:=by
 unfold vW;by_cases c:e∈ks
 . rw [if_pos c];refine ⟨h.nd,h.zero,h.rng,h.sub,h.cl,fun x hx=>?_,h.pin,h.mu,h.up,h.wl⟩;rcases List.mem_append.mp hx with z|z
   . exact h.seen x z
   . rw [List.mem_singleton.mp z];exact c
 . rw [if_neg c];dsimp only;refine ⟨q9 h.nd c,List.mem_append_left _ h.zero,fun k hk=>?_,fun w hw=>?_,fun k hk hw=>?_,fun x hx=>?_,List.mem_append_left _ h.pin,?_,by have:=h.up;simp;omega,by have:=h.wl;simp;exact this⟩
   . rcases List.mem_append.mp hk with z|z
     . exact h.rng k z
     . rw [List.mem_singleton.mp z];exact ⟨h0,h1⟩
   . rcases List.mem_append.mp hw with z|z
     . exact List.mem_append_left _ (h.sub w z)
     . exact List.mem_append_right _ z
   . rcases List.mem_append.mp hk with z|z
     . rcases h.cl k z fun y=>hw (List.mem_append_left _ y) with y|y
       . exact .inl y
       . exact .inr fun x hx=>List.mem_append_left _ (y x hx)
     . exact absurd (List.mem_append_right _ z) hw
   . rcases List.mem_append.mp hx with z|z
     . exact List.mem_append_left _ (h.seen x z)
     . exact List.mem_append_right _ z
   . have:=h.mu;simp only [List.length_append,List.length_cons,List.length_nil];omega
theorem JMid.done {m:Int} {rs:List Road} {p:Int} {ks ws ks0:List Int} {n0:Nat} (h:JMid m rs p (cY rs p) ks ws ks0 n0):JInv m rs ks ws where
 nd:=h.nd
 zero:=h.zero
 rng:=h.rng
 sub:=h.sub
 cl:=fun k hk hw=>by
   rcases h.cl k hk hw with z|z
   . rw [z];exact h.seen
   . exact z
 wl:=h.wl
theorem JInv.start {m:Int} {rs:List Road} (hm:1<=m):JInv m rs [0] [0] where
 nd:=by simp
 zero:=by simp
 rng:=fun k hk=>by rw [List.mem_singleton.mp hk];omega
 sub:=fun w hw=>hw
 cl:=fun k hk hw=>absurd hk hw
 wl:=by simp
theorem JInv.all {m:Int} {rs:List Road} {ks:List Int} (h:JInv m rs ks []) (hm:1<=m) (j:lF m rs):(ks.length:Int)=m:=by
 have up:=eU (by omega) h.nd h.rng;have:∀ v,0<=v->v<m->v∈ks:=j (fun v=>v∈ks) h.zero fun r hr=>by
   constructor
   . intro ha;exact h.cl r.a ha (by simp) r.b (li.mpr ⟨r,hr,.inl ⟨rfl,rfl⟩⟩)
   . intro hb;exact h.cl r.b hb (by simp) r.a (li.mpr ⟨r,hr,.inr ⟨rfl,rfl⟩⟩)
 have:=AF (by omega) this;omega
theorem F9 {m:Int} {rs:List Road} (h:∀ r∈rs,RoadOk m r) {p e:Int} (he:e∈cY rs p):0<=e/\e<m:=by
 obtain ⟨r,hr,z⟩:=li.mp he;have k:=h r hr;rcases z with ⟨_,rfl⟩|⟨_,rfl⟩
 . exact ⟨k.b0,k.b1⟩
 . exact ⟨k.a0,k.a1⟩
structure Row where
 k:Int
 un:Int
 t:Int
 u:Int
 sw:Int
 sp:Int
structure RowOk (r:Row):Prop where
 u0:0<=r.un
 u1:r.un<r.k
 t0:2<=r.t
 t1:r.t<=1000000
 v0:2<=r.u
 v1:r.u<=1000000
 s0:0<=r.sp
 s1:r.sp<r.k
structure Rows (n:Nat) (rows:List Row):Prop where
 len:rows.length=n
 ok:∀ (i:Nat) (r:Row),rows[i]?=some r->r.k=(i:Int)+1/\RowOk r
structure Labels (n:Nat) (ls:List Int):Prop where
 len:ls.length=n
 nd:ls.Nodup
 all:∀ v:Int,0<=v->v<n->v∈ls
 rng:∀ v∈ls,0<=v/\v<n
theorem Labels.nil:Labels 0 []:=⟨rfl,by simp,fun v h0 h1=>(by omega),fun v h=>(by cases h)⟩
theorem mw {α:Type} {l:List α} {k:Nat} {x y:α}:y∈l.take k++x::l.drop k↔y=x\/y∈l:=by
 rw [List.mem_append,List.mem_cons]
 constructor
 . rintro (h|h|h)
   . exact .inr (List.mem_of_mem_take h)
   . exact .inl h
   . exact .inr (List.mem_of_mem_drop h)
 . rintro (h|h)
   . exact .inr (.inl h)
   . rw [<- List.take_append_drop k l] at h;rcases List.mem_append.mp h with z|z
     . exact .inl z
     . exact .inr (.inr z)
theorem Labels.put {n:Nat} {ls:List Int} (h:Labels n ls) (k:Nat) (hk:k<=n):Labels (n+1) (ls.take k++(n:Int)::ls.drop k) where
 len:=by
   rw [List.length_append,List.length_cons,List.length_take,List.length_drop,h.len];omega
 nd:=by
   have p:(ls.take k++(n:Int)::ls.drop k).Perm ((n:Int)::ls):=by
     refine List.perm_middle.trans ?_;rw [List.take_append_drop]
   refine p.nodup_iff.mpr (List.nodup_cons.mpr ⟨fun z=>?_,h.nd⟩);have:=(h.rng _ z).2;omega
 all:=fun v h0 h1=>by
   rw [mw];by_cases e:v=n
   . exact .inl e
   . exact .inr (h.all v h0 (by omega))
 rng:=fun v hv=>by
   rcases mw.mp hv with z|z
   . omega
   . have:=h.rng v z;omega
def iJ (ls:List Int) (r:Row):Road:=if r.sw=1 then ⟨ls.getD r.un.toNat 0,ls.getD r.k.toNat 0,r.t,r.u⟩ else ⟨ls.getD r.k.toNat 0,ls.getD r.un.toNat 0,r.t,r.u⟩
structure Put (ls:List Int) (rows:List Row) (rs:List Road):Prop where
 len:rs.length=rows.length
 of:∀ r∈rs,∃ w∈rows,r=iJ ls w
 to:∀ w∈rows,iJ ls w∈rs
theorem Put.nil (ls:List Int):Put ls [] []:=⟨rfl,fun r h=>(by cases h),fun r h=>(by cases h)⟩
theorem Put.step {ls:List Int} {rows:List Row} {rs:List Road} (h:Put ls rows rs) (w:Row) (k:Nat):Put ls (rows++[w]) (rs.take k++iJ ls w::rs.drop k) where
 len:=by
   rw [List.length_append,List.length_cons,List.length_take,List.length_drop,List.length_append,h.len];simp;omega
 of:=fun r hr=>by
   rcases mw.mp hr with z|z
   . exact ⟨w,by simp,z⟩
   . obtain ⟨w',hw,e⟩:=h.of r z;exact ⟨w',List.mem_append_left _ hw,e⟩
 to:=fun w' hw=>by
   rw [mw];rcases List.mem_append.mp hw with z|z
   . exact .inr (h.to w' z)
   . exact .inl (by rw [List.mem_singleton.mp z])
theorem mI {ls:List Int} {n:Nat} (h:Labels n ls) {i:Nat} (hi:i<n):ls[i]?=some (ls.getD i 0):=by
 have:i<ls.length:=by rw [h.len];exact hi
 simp [List.getD,List.getElem?_eq_getElem this]
theorem AH {ls:List Int} {n:Nat} (h:Labels n ls) {i:Nat} (hi:i<n):ls.getD i 0∈ls:=List.mem_of_getElem? (mI h hi)
theorem FT {ls:List Int} {n:Nat} (h:Labels n ls) {i j:Nat} (hi:i<n) (hj:j<n) (e:ls.getD i 0=ls.getD j 0):i=j:=by
 have h1:i<ls.length:=by rw [h.len];exact hi
 have h2:j<ls.length:=by rw [h.len];exact hj
 have e1:=mI h hi;have e2:=mI h hj;rw [e] at e1;have e3:ls[i]'h1=ls[j]'h2:=by
   rw [List.getElem?_eq_getElem h1] at e1;rw [List.getElem?_eq_getElem h2] at e2;exact Option.some.inj (e1.trans e2.symm)
 have nd:=List.pairwise_iff_getElem.mp h.nd;rcases Nat.lt_trichotomy i j with z|z|z
 . exact absurd e3 (nd i j h1 h2 z)
 . exact z
 . exact absurd e3.symm (nd j i h2 h1 z)
theorem HM {n:Nat} {ls:List Int} {rows:List Row} {rs:List Road} (h1:1<=n) (h24:n<=24) (L:Labels n ls) (W:Rows (n - 1) rows) (P:Put ls rows rs):Good n rs where
 m1:=by omega
 m24:=by omega
 len:=by rw [P.len,W.len];omega
 ok:=fun r hr=>by
   obtain ⟨w,hw,rfl⟩:=P.of r hr;obtain ⟨i,hi⟩:=List.getElem?_of_mem hw;obtain ⟨ek,ok⟩:=W.ok i w hi;have hil:i<rows.length:=(List.getElem?_eq_some_iff.mp hi).1;rw [W.len] at hil;have hk:w.k.toNat<n:=by omega
   have hu:w.un.toNat<n:=by have:=ok.u0;have:=ok.u1;omega
   have r1:=L.rng _ (AH L hk);have r2:=L.rng _ (AH L hu);have ne:ls.getD w.k.toNat 0≠ls.getD w.un.toNat 0:=fun e=>by
     have:=FT L hk hu e;have:=ok.u0;have:=ok.u1;omega
   unfold iJ;by_cases c:w.sw=1
   . rw [if_pos c];exact ⟨r2.1,r2.2,r1.1,r1.2,ne.symm,ok.t0,ok.t1,ok.v0,ok.v1⟩
   . rw [if_neg c];exact ⟨r1.1,r1.2,r2.1,r2.2,ne,ok.t0,ok.t1,ok.v0,ok.v1⟩
 jn:=by
   intro S s0 hS;have key:∀ i:Nat,i<n->(S (ls.getD i 0)↔S (ls.getD 0 0)):=by
     intro i
     induction i using Nat.strongRecOn with
     | ind i ih =>
       intro hi;by_cases z:i=0
       . rw [z]
       . have hil:i - 1<rows.length:=(by rw [W.len];omega);obtain ⟨ek,ok⟩:=W.ok (i - 1) rows[i - 1] (List.getElem?_eq_getElem hil);have hm:=P.to rows[i - 1] (List.getElem_mem hil);have hr:=hS _ hm;have hk:(rows[i - 1]).k.toNat=i:=(by omega);have hu:(rows[i - 1]).un.toNat<i:=(by have:=ok.u0;have:=ok.u1;omega);have hh:=ih _ hu (by omega);unfold iJ at hr;rw [hk] at hr;by_cases c:(rows[i - 1]).sw=1
         . rw [if_pos c] at hr;exact hr.symm.trans hh
         . rw [if_neg c] at hr;exact hr.trans hh
   have at_:∀ v,0<=v->v<(n:Int)->∃ i,i<n/\ls.getD i 0=v:=fun v h0 h1=>by
     obtain ⟨i,hi⟩:=List.getElem?_of_mem (L.all v h0 h1);have hil:i<n:=(by have:=(List.getElem?_eq_some_iff.mp hi).1;rw [L.len] at this;exact this);refine ⟨i,hil,?_⟩;have:=mI L hil;rw [hi] at this;exact (Option.some.inj this).symm
   intro v h0 hv;obtain ⟨i,hi,rfl⟩:=at_ v h0 hv;obtain ⟨j,hj,ej⟩:=at_ 0 (by omega) (by omega);refine (key i hi).mpr ((key j hj).mp ?_);rw [ej];exact s0
end Pb
set_option linter.all false
namespace Pb
section
variable {m:Int} {row:List Int} {rs rs':List Road}
end
end Pb
set_option Elab.async false
set_option linter.all false
set_option maxRecDepth 100000
namespace L2
open PySem PySem.Spec PyProof.Rows
def bH (CX:CXT):Prop:=∀ outer H s e s',¬ CX outer H s E0 e s'
theorem db {CX:CXT} (q:bH CX) {X:Cx}:pU CX X E0:=fun _ _ _ _ _ _ _ h=>(q _ _ _ _ _ h).elim
structure Df (K:PySem.W.Frag) (mg:Str->Option Value) (x:Str) (st:Stmt) (ps:List Str) (f:Addr) (fd:FuncData):Prop where
 F:Fun K x x st f fd
 m:mg x=some (.ref f)
 b:Binds K fd ps []
section
variable {P:Program} {w:World} {K:PySem.W.Frag} {mg:Str->Option Value} {base:Heap} {CX:CXT}
theorem Fun.okC {x qual:Str} {st:Stmt} {f:Addr} {fd:FuncData} {N ps:List Str} {k:Nat} {sp:Sp} (F:Fun K x qual st f fd) (S:FnScope N ps (aa st)) (len:∀ vs H Q E,sp vs H Q E->vs.length=ps.length)
   (hbody:∀ (cdv:Value) (A:Around) (outer:List Env) (s:Shared) (H:Hp) (vs:List V) (Q:VK) (E:XK),Room k (A.deeper (envOfC qual (aa st) s.heap.objs.size f cdv))->sp vs H Q E ->
     ∃ t,PSs (jZ CX P w K mg base N qual (aa st) f cdv A outer s H E).nox (aE st) t/\t { nx:=fun _ H'=>Q .non H',rt:=Q } (start N vs) H):FnOk P w K mg base CX (k+1) f fd ps sp:=by
 obtain ⟨oc,od,kV,doc,pm,an,cdv,ct,osl,rfl,lk,hcd⟩:=F.ex;refine HD lk hcd S len fun A outer s H vs Q E hr hsp=>?_;obtain ⟨t,h,q⟩:=hbody cdv A outer s H vs Q E hr hsp;exact ⟨t,h.nox,q⟩
end
structure NmL (sc:Scope) (x:Str):Prop where
 l:sc.names.lookup x=some .local
 d:(x == ("__debug__":Str))=false
 c:(x == ("__classdict__":Str))=false
structure NmC (sc:Scope) (x:Str):Prop where
 l:sc.names.lookup x=some .cell
 d:(x == ("__debug__":Str))=false
 c:(x == ("__classdict__":Str))=false
structure NmG (sc:Scope) (x:Str):Prop where
 g:sc.names.lookup x=some .globalImplicit
 d:(x == ("__debug__":Str))=false
 n:x≠"__name__"
theorem us1 {us:List Value} (h:us.length=1):∃ a0,us=[a0]:=List.length_eq_one_iff.mp h
theorem us2 {us:List Value} (h:us.length=2):∃ a0 a1,us=[a0,a1]:=by
 cases us with
 | nil=>cases h
 | cons a0 t =>
   obtain ⟨a1,e⟩:=us1 (Nat.succ.inj h);subst e;exact ⟨a0,a1,rfl⟩
theorem us3 {us:List Value} (h:us.length=3):∃ a0 a1 a2,us=[a0,a1,a2]:=by
 cases us with
 | nil=>cases h
 | cons a0 t =>
   obtain ⟨a1,a2,e⟩:=us2 (Nat.succ.inj h);subst e;exact ⟨a0,a1,a2,rfl⟩
theorem us4 {us:List Value} (h:us.length=4):∃ a0 a1 a2 a3,us=[a0,a1,a2,a3]:=by
 cases us with
 | nil=>cases h
 | cons a0 t =>
   obtain ⟨a1,a2,a3,e⟩:=us3 (Nat.succ.inj h);subst e;exact ⟨a0,a1,a2,a3,rfl⟩
def nmL (sc:Scope) (x:Str):Bool:=decide (sc.names.lookup x=some .local) && !(x == ("__debug__":Str)) && !(x == ("__classdict__":Str))
def nmC (sc:Scope) (x:Str):Bool:=decide (sc.names.lookup x=some .cell) && !(x == ("__debug__":Str)) && !(x == ("__classdict__":Str))
def nmG (sc:Scope) (x:Str):Bool:=decide (sc.names.lookup x=some .globalImplicit) && !(x == ("__debug__":Str)) && !decide (x="__name__")
theorem NmL.of {sc:Scope} {x:Str} (h:nmL sc x=true):NmL sc x:=by
 unfold nmL at h;simp only [Bool.and_eq_true,decide_eq_true_eq,Bool.not_eq_true'] at h;exact ⟨h.1.1,h.1.2,h.2⟩
theorem NmC.of {sc:Scope} {x:Str} (h:nmC sc x=true):NmC sc x:=by
 unfold nmC at h;simp only [Bool.and_eq_true,decide_eq_true_eq,Bool.not_eq_true'] at h;exact ⟨h.1.1,h.1.2,h.2⟩
theorem NmG.of {sc:Scope} {x:Str} (h:nmG sc x=true):NmG sc x:=by
 unfold nmG at h;simp only [Bool.and_eq_true,decide_eq_true_eq,Bool.not_eq_true',decide_eq_false_iff_not] at h;exact ⟨h.1.1,h.1.2,h.2⟩
def Jr (N ps:List Str) (sc:Scope):Bool:=decide (sc.kind=.function) && !sc.isCoroutine && !sc.isGenerator && decide N.Nodup && decide (N.take ps.length=ps) && (ps.all fun x=>decide (sc.names.lookup x=some .local\/sc.names.lookup x=some .cell)) && (sc.names.all fun y=>decide (y.2≠.free))
theorem FnScope.of {N ps:List Str} {sc:Scope} (h:Jr N ps sc=true):FnScope N ps sc:=by
 unfold Jr at h;simp only [Bool.and_eq_true,decide_eq_true_eq,Bool.not_eq_true',List.all_eq_true] at h;obtain ⟨⟨⟨⟨⟨⟨h1,h2⟩,h3⟩,h4⟩,h5⟩,h6⟩,h7⟩:=h;exact ⟨h1,h2,h3,h4,h5,h6,h7⟩
theorem pvl {X:Cx} (i:Nat) {x:Str} {pos:Pos} (n:NmL X.env.scope x) (hN:X.N[i]?=some x:=by rfl):PE X (.Name x pos) (xQ i):=Bj hN (.inl n.l) n.d n.c
theorem pvc {X:Cx} (i:Nat) {x:Str} {pos:Pos} (n:NmC X.env.scope x) (hN:X.N[i]?=some x:=by rfl):PE X (.Name x pos) (xQ i):=Bj hN (.inr (.inl n.l)) n.d n.c
theorem Ek {CX:CXT} {P:Program} {w:World} {K:PySem.W.Frag} {mg:Str->Option Value} {base:Heap} {N:List Str} {qual:Str} {scope:Scope} {f:Addr} {cd:Value} {A:Around} {outer:List Env} {s:Shared} {H:Hp} {E:XK} :
   (jZ CX P w K mg base N qual scope f cd A outer s H E).K=K:=rfl
theorem yw (D:Ends) (σ:St) (H:Hp):Jl D σ H=False:=rfl
theorem HW (i j:Int):tN (.int i) (.int j)=true:=rfl
theorem HQ (i j:Bool):tN (.bl i) (.bl j)=true:=rfl
theorem HY (i:Int):tN (.int i) .non=true:=rfl
theorem HX (i:Int):tN .non (.int i)=true:=rfl
theorem Ib:tN .non .non=true:=rfl
theorem IM (i j:Str):tN (.str i) (.str j)=true:=rfl
theorem ixT {K:PySem.W.Frag} {H:Hp} {p:Addr} {xs:List V} {i:Int} {v:V} {Q:VK} (h:H p=some (.tup xs)) (e:atI xs i=some v) (q:Q v H):Jt K (.ref p) (.int i) H Q:=⟨p,xs,i,v,rfl,rfl,SqT.of h,e,q⟩
theorem ixL {K:PySem.W.Frag} {H:Hp} {p:Addr} {xs:List V} {i:Int} {v:V} {Q:VK} (h:H p=some (.lst xs)) (e:atI xs i=some v) (q:Q v H):F6 K (.ref p) (.int i) H Q:=⟨p,xs,i,v,rfl,rfl,SqL.of h,e,q⟩
theorem ixS {K:PySem.W.Frag} {H:Hp} {p:Addr} {xs:List V} {i:Int} {v:V} {Q:VK} (h:SqL K H p xs) (e:atI xs i=some v) (q:Q v H):F6 K (.ref p) (.int i) H Q:=⟨p,xs,i,v,rfl,rfl,h,e,q⟩
theorem tyL {K:PySem.W.Frag} {H:Hp} {l:Addr} {xs:List V} (h:H l=some (.lst xs)):tyV K "list" (.ref l) H:=.inl ⟨rfl,_,SqL.of h⟩
theorem pz {H:Hp} {l:Addr} {xs:List V} {y:V} {Q:VK} (h:H l=some (.lst xs)) (hz:xs.length<sizeLine) (q:Q .non (upd H l (.lst (xs++[y])))):rAppend (.ref l) [y] H Q:=⟨l,xs,y,rfl,rfl,h,hz,q⟩
theorem Au {H:Hp} {l:Addr} {xs:List V} {i:Int} {y:V} {Q:VK} (h:H l=some (.lst xs)) (h0:0<=i) (h1:i<=xs.length) (hz:xs.length<sizeLine) (q:Q .non (upd H l (.lst (xs.take i.toNat++y::xs.drop i.toNat)))):rInsert (.ref l) [.int i,y] H Q :=
 ⟨l,xs,i,y,rfl,rfl,h,h0,h1,hz,q⟩
theorem Ku {H:Hp} {l:Addr} {xs:List V} {y:V} {Q:VK} (h:H l=some (.lst (xs++[y]))) (q:Q y (upd H l (.lst xs))):rPop (.ref l) [] H Q :=
 ⟨l,xs++[y],y,rfl,rfl,h,by simp,by rw [List.dropLast_concat];exact q⟩
theorem cz {n:Nat} (h:n<=100000):n<sizeLine:=Nat.lt_of_le_of_lt h (by decide)
theorem av {n:Nat} (h:n<=100000):n<=sizeLine:=Nat.le_of_lt (cz h)
theorem cV {α:Type} {xs:List α} {i:Int} {v:α} (h0:0<=i) (h:xs[i.toNat]?=some v):atI xs i=some v:=by
 obtain ⟨n,rfl⟩:∃ n:Nat,i=n:=⟨i.toNat,by omega⟩;exact pM (by simpa using h)
theorem m9 {X:Cx} {x:Str} {i:Int} {pos:Pos} (hg:Gl X x) (hm:∃ t,X.mg x=some (.int i t)) (hd:(x == ("__debug__":Str))=false:=by decide):PE X (.Name x pos) (tC (.int i)):=by
 obtain ⟨t,e⟩:=hm;exact fL hg e ⟨t,rfl⟩ hd
def Itx (K:PySem.W.Frag):Bool->Addr->It
 | true,a=>Itl K a
 | false,a=>Itt K a
def Gh (K:PySem.W.Frag) (c:Bool) (tl:TE):TI:=fun σ H R=>tl σ H fun x H1=>∃ a,x=.ref a/\(∃ xs,SqX K c H1 a xs)/\R (Itx K c a) H1
theorem JB {X:Cx} {tg l:Expr} {tl:TE} (c:Bool) (hl:PE X l tl):PI X tg l (Gh X.K c tl):=by
 cases c
 . exact tX hl
 . exact fQ hl
def tI (J:It) (p:Addr) (Q:VK) (g:TG) (tc:TT) (te:TE) (σ0:St) (H0:Hp):Prop :=
 ∃ W:Nat->Nat->List V->St->Hp->Prop,(∃ m,W 0 m [] σ0 H0)/\∀ i m ys σc Hc,W i m ys σc Hc ->
   (J.stop i Hc/\Q (.ref p) Hc)\/(J.go i Hc/\∀ x H',J.yld i Hc x H'->g x σc H' fun σ2 H2=>tc σ2 H2 fun b H3 =>
     if b=true then te σ2 H3 fun y H4=>H4 p=some (.lst ys)/\ys.length<sizeLine/\∃ m',m'<m/\W (i+1) m' (ys++[y]) σ2 (upd H4 p (.lst (ys++[y])))
     else ∃ m',m'<m/\W (i+1) m' ys σ2 H3)
theorem yX {own:Nat} {js:List Nat} {wi:TI} {g:TG} {tc:TT} {te:TE} {σ:St} {H:Hp} {Q:VK}:wk own js wi g tc te σ H Q=wi σ H fun J H1=>∀ p,H1 p=none->tI J p Q g tc te (fZ own js σ) (upd H1 p (.lst [])):=rfl
def ou (J:It) (D:Ends) (g:TG) (tb:TS) (σ:St) (H:Hp):Prop:=∃ W:Nat->Nat->St->Hp->Prop,(∃ m,W 0 m σ H)/\∀ i m σ H,W i m σ H ->
 (J.stop i H/\D.nx σ H)\/(J.go i H/\∃ N:St->Hp->Prop,(∀ σ' H',N σ' H'->∃ m',m'<m/\W (i+1) m' σ' H')/\∀ x H',J.yld i H x H'->g x σ H' fun σ2 H2=>tb { D with nx:=N,ct:=N,bk:=D.nx } σ2 H2)
theorem CK {wi:TI} {g:TG} {tb:TS} {D:Ends} {σ:St} {H:Hp}:JZ wi g tb D σ H=wi σ H fun J H1=>ou J D g tb σ H1:=rfl
theorem k7 {K:PySem.W.Frag} {c:Bool} {a p:Addr} {xs:List V} {Q:VK} {g:TG} {tc:TT} {te:TE} {σ0:St} {H0:Hp} (Pv:Nat->List V->St->Hp->Prop) (h0:Pv 0 [] σ0 H0) (hl:∀ i ys σ H,i<=xs.length->Pv i ys σ H->SqX K c H a xs)
   (hs:∀ (i:Nat) (x:V) (ys:List V) (σ:St) (H:Hp) (N:List V->St->Hp->Prop),(∀ ys' σ' H',Pv (i+1) ys' σ' H'->N ys' σ' H')->xs[i]?=some x->Pv i ys σ H->g x σ H fun σ2 H2=>tc σ2 H2 fun b H3 =>
     if b=true then te σ2 H3 fun y H4=>H4 p=some (.lst ys)/\ys.length<sizeLine/\N (ys++[y]) σ2 (upd H4 p (.lst (ys++[y]))) else N ys σ2 H3)
   (hd:∀ ys σ H,Pv xs.length ys σ H->Q (.ref p) H):tI (Itx K c a) p Q g tc te σ0 H0:=by
 refine ⟨fun i m ys σ H=>m=xs.length - i/\i<=xs.length/\Pv i ys σ H,⟨xs.length,by simp,Nat.zero_le _,h0⟩,?_⟩;rintro i m ys σ H ⟨rfl,hi,pv⟩;have q:=hl i ys σ H hi pv;by_cases hlt:i<xs.length
 . refine .inr ⟨?_,fun x H' y=>?_⟩
   . cases c
     . exact ⟨xs,xs[i],q,by simp [hlt]⟩
     . exact ⟨xs,xs[i],q,by simp [hlt]⟩
   . have e:H'=H/\xs[i]?=some x:=by
       cases c
       . exact ⟨y.1,y.2 xs q⟩
       . exact ⟨y.1,y.2 xs q⟩
     obtain ⟨rfl,hx⟩:=e;exact hs i x ys σ _ (fun ys' σ' H'=>∃ m',m'<xs.length - i/\(m'=xs.length - (i+1)/\i+1<=xs.length/\Pv (i+1) ys' σ' H')) (fun ys' σ' H' pv'=>⟨xs.length - (i+1),by omega,rfl,hlt,pv'⟩) hx pv
 . have e:i=xs.length:=by omega
   subst e;refine .inl ⟨?_,hd ys σ H pv⟩;cases c
   . exact ⟨xs,q,Nat.le_refl _⟩
   . exact ⟨xs,q,Nat.le_refl _⟩
theorem Da {lo:Int} {n:Nat} {p:Addr} {Q:VK} {g:TG} {tc:TT} {te:TE} {σ0:St} {H0:Hp} (Pv:Nat->List V->St->Hp->Prop) (h0:Pv 0 [] σ0 H0)
   (hs:∀ (i:Nat) (ys:List V) (σ:St) (H:Hp) (N:List V->St->Hp->Prop),(∀ ys' σ' H',Pv (i+1) ys' σ' H'->N ys' σ' H')->i<n->Pv i ys σ H->g (.int (lo+i)) σ H fun σ2 H2=>tc σ2 H2 fun b H3 =>
     if b=true then te σ2 H3 fun y H4=>H4 p=some (.lst ys)/\ys.length<sizeLine/\N (ys++[y]) σ2 (upd H4 p (.lst (ys++[y]))) else N ys σ2 H3)
   (hd:∀ ys σ H,Pv n ys σ H->Q (.ref p) H):tI (Itr lo n) p Q g tc te σ0 H0:=by
 refine ⟨fun i m ys σ H=>m=n - i/\i<=n/\Pv i ys σ H,⟨n,by simp,Nat.zero_le _,h0⟩,?_⟩;rintro i m ys σ H ⟨rfl,hi,pv⟩;by_cases hlt:i<n
 . refine .inr ⟨hlt,fun x H' y=>?_⟩;obtain ⟨rfl,rfl⟩:=y;exact hs i ys σ _ (fun ys' σ' H'=>∃ m',m'<n - i/\(m'=n - (i+1)/\i+1<=n/\Pv (i+1) ys' σ' H')) (fun ys' σ' H' pv'=>⟨n - (i+1),by omega,rfl,hlt,pv'⟩) hlt pv
 . have e:i=n:=by omega
   subst e;exact .inl ⟨Nat.le_refl _,hd ys σ H pv⟩
theorem bQ:bootBuiltins "len"=some (.builtin "len"):=by decide +kernel
theorem cX:bootBuiltins "isinstance"=some (.builtin "isinstance"):=by decide +kernel
theorem JT:bootBuiltins "all"=some (.builtin "all"):=by decide +kernel
theorem AE:bootBuiltins "min"=some (.builtin "min"):=by decide +kernel
theorem Fm:bootBuiltins "max"=some (.builtin "max"):=by decide +kernel
theorem EY:bootBuiltins "int"=some (.type "int"):=by decide +kernel
theorem Ip:bootBuiltins "list"=some (.type "list"):=by decide +kernel
theorem hV:bootBuiltins "tuple"=some (.type "tuple"):=by decide +kernel
theorem Il:bootBuiltins "bool"=some (.type "bool"):=by decide +kernel
section
variable {X:Cx} {a b o e:Expr} {es:List Expr} {ta tb to:TE} {t:TA} {pos apos cpos:Pos} {f name:Str} {T id:String} {r:V->List V->Hp->VK->Prop}
theorem kU (K:PySem.W.Frag) (h:X.K=K):dI X (.type "tuple") (fun xs H Q=>∃ p ys,xs=[.ref p]/\((SqL K H p ys/\∀ l,H l=none->Q (.ref l) (upd H l (.tup ys)))\/(SqT K H p ys/\Q (.ref p) H))):=by subst h;exact gv
end
theorem wz {x:Str} {k:NameKind}:∀ {l:List (Str × NameKind)},l.lookup x=some k->∃ y,(y,k)∈l
 | [],h=>by simp at h
 | (n,j)::r,h=>by
   rw [List.lookup_cons] at h;cases q:x == n with
   | true =>
     rw [q] at h;cases h;exact ⟨n,List.mem_cons_self⟩
   | false =>
     rw [q] at h;obtain ⟨y,hy⟩:=wz h;exact ⟨y,List.mem_cons_of_mem _ hy⟩
theorem kY {X:Cx} {Nc:List Str} {scope:Scope} (own:Nat) (hf:∀ y∈scope.names,y.2≠.free) (hc:∀ y∈scope.names,y.2≠.cell) (hk:scope.kind=.function) (hn:∀ y∈scope.names,y.2=.local->scope.names.lookup y.1=some .local)
   (hl:Nc.length=own):CompTxt X Nc own [] scope [] where
 clos:=closureFor_none hf
 kind:=hk
 nocell:=hc
 names:=hn
 cells:=fun x c h=>by cases h
 has:=fun x h=>by
   have key:∀ k,(relabel scope X.env).names.lookup x=some k->k≠.cell/\k≠.free:=fun k e=>by
     obtain ⟨y,hy⟩:=wz e;obtain ⟨⟨n,k0⟩,hm,e2⟩:=List.mem_map.mp hy;have h1:=hf _ hm;have h2:=hc _ hm;have e3:(k0 == NameKind.free)=false:=(by simpa using h1);simp only [e3,Bool.false_and,Bool.false_eq_true,if_false] at e2;cases e2;exact ⟨h2,h1⟩
   rcases h with h|h
   . exact absurd rfl (key _ h).1
   . exact absurd rfl (key _ h).2
 len:=by simpa using hl
 outer:=fun i x h=>by
   rw [List.getElem?_eq_none (by omega)] at h;cases h
theorem yP {K:PySem.W.Frag} {a:Addr} {xs:List V} {g:TG} {tb:TS} {D:Ends} {σ:St} {H:Hp} (Pv:Nat->St->Hp->Prop) (h0:Pv 0 σ H) (hl:∀ i σ H,i<=xs.length->Pv i σ H->SqL K H a xs)
   (hs:∀ (i:Nat) (x:V) (σ:St) (H:Hp) (N:St->Hp->Prop),(∀ σ' H',Pv (i+1) σ' H'->N σ' H')->xs[i]?=some x->Pv i σ H->g x σ H fun σ2 H2=>tb { D with nx:=N,ct:=N,bk:=D.nx } σ2 H2) (hd:∀ σ H,Pv xs.length σ H->D.nx σ H) :
   ou (Itl K a) D g tb σ H:=FY Pv h0 hl (fun i x σ H hx p=>hs i x σ H (Pv (i+1)) (fun _ _ z=>z) hx p) hd
theorem AY {K:PySem.W.Frag} {a:Addr} {xs:List V} {g:TG} {tb:TS} {D:Ends} {σ:St} {H:Hp} (Pv:Nat->St->Hp->Prop) (h0:Pv 0 σ H) (hl:∀ i σ H,i<=xs.length->Pv i σ H->SqT K H a xs)
   (hs:∀ (i:Nat) (x:V) (σ:St) (H:Hp) (N:St->Hp->Prop),(∀ σ' H',Pv (i+1) σ' H'->N σ' H')->xs[i]?=some x->Pv i σ H->g x σ H fun σ2 H2=>tb { D with nx:=N,ct:=N,bk:=D.nx } σ2 H2) (hd:∀ σ H,Pv xs.length σ H->D.nx σ H) :
   ou (Itt K a) D g tb σ H:=Cu Pv h0 hl (fun i x σ H hx p=>hs i x σ H (Pv (i+1)) (fun _ _ z=>z) hx p) hd
theorem mB {lo:Int} {n:Nat} {g:TG} {tb:TS} {D:Ends} {σ:St} {H:Hp} (Pv:Nat->St->Hp->Prop) (h0:Pv 0 σ H)
   (hs:∀ (i:Nat) (σ:St) (H:Hp) (N:St->Hp->Prop),(∀ σ' H',Pv (i+1) σ' H'->N σ' H')->i<n->Pv i σ H->g (.int (lo+i)) σ H fun σ2 H2=>tb { D with nx:=N,ct:=N,bk:=D.nx } σ2 H2) (hd:∀ σ H,Pv n σ H->D.nx σ H) :
   ou (Itr lo n) D g tb σ H:=Ee Pv h0 (fun i σ H hi p=>hs i σ H (Pv (i+1)) (fun _ _ z=>z) hi p) hd
theorem CI {c:TT} {tb:TS} {D:Ends} {σ:St} {H:Hp} (W:Nat->St->Hp->Prop) (n0:Nat) (h0:W n0 σ H)
   (hs:∀ (n:Nat) (σ:St) (H:Hp) (N:St->Hp->Prop),(∀ n' σ' H',n'<n->W n' σ' H'->N σ' H')->(∀ σ' H',N σ' H'->∃ m',m'<n/\W m' σ' H')->W n σ H ->
     c σ H fun b H1=>if b=true then ∃ N:St->Hp->Prop,(∀ σ' H',N σ' H'->∃ m',m'<n/\W m' σ' H')/\tb { D with nx:=N,ct:=N,bk:=D.nx } σ H1 else D.nx σ H1):EZ c tb D σ H :=
 ⟨W,⟨n0,h0⟩,fun n σ H w=>hs n σ H (fun σ' H'=>∃ m',m'<n/\W m' σ' H') (fun n' _ _ hn w'=>⟨n',hn,w'⟩) (fun _ _ z=>z) w⟩
theorem HR {a:Int} {n:Nat} (h:a.natAbs<2^n):Builtin.Int.intBits a<=n:=by
 unfold Builtin.Int.intBits;by_cases z:a=0
 . subst z;simp
 . have hz:(a == 0)=false:=by simpa using z
   rw [hz];simp only [Bool.false_eq_true,if_false];have:=(Nat.log2_lt (by omega)).mpr h;omega
open Pb
def eV (r:Road):List V:=[.int r.a,.int r.b,.int r.t,.int r.u]
abbrev RoadsAt (H:Hp):List Addr->List Road->Prop:=Paired fun p r=>H p=some (.tup (eV r))
theorem RoadsAt.same {H H':Hp} (e:Same H H') {ps:List Addr} {rs:List Road} (h:RoadsAt H ps rs):RoadsAt H' ps rs:=Paired.imp' (fun p r q=>e p _ q) h
theorem RoadsAt.get {H:Hp}:∀ {ps:List Addr} {rs:List Road} {i:Nat} {x:V},RoadsAt H ps rs->(ps.map V.ref)[i]?=some x->∃ p r,x=.ref p/\ps[i]?=some p/\rs[i]?=some r/\H p=some (.tup (eV r))
 | _,_,i,x,.nil,e=>by simp at e
 | _,_,0,x,.cons (a:=p) (b:=r) h hs,e=>⟨p,r,by simpa using e.symm,by simp,by simp,h⟩
 | a::l1,_,i+1,x,.cons h hs,e=>by
   have e':(List.map V.ref l1)[i]?=some x:=by simpa using e
   obtain ⟨p,r,h1,h2,h3,h4⟩:=RoadsAt.get hs e';exact ⟨p,r,h1,by simpa using h2,by simpa using h3,h4⟩
theorem Same.tup {K:PySem.W.Frag} {H H':Hp} {a:Addr} {xs:List V} (e:Same H H') (h:SqT K H a xs):SqT K H' a xs:=by
 rcases h with (h|⟨o,h⟩)|h
 . exact .inl (.inl (e _ _ h))
 . exact .inl (.inr ⟨o,e _ _ h⟩)
 . exact .inr h
theorem Same.sqX {K:PySem.W.Frag} {H H':Hp} {c:Bool} {a:Addr} {xs:List V} (e:Same H H') (h:SqX K c H a xs):SqX K c H' a xs:=by
 cases c
 . exact Same.tup e h
 . exact Same.seq e h
theorem Same.new {H:Hp} {p:Addr} (o:HO) (h:H p=none):Same H (upd H p o):=fun b u e=>by rw [am (az e h)];exact e
end L2
set_option Elab.async false
set_option linter.all false
set_option maxRecDepth 100000
namespace L2
open PySem PySem.Spec PyProof.Rows
abbrev bmV:List Value:=[.type "ValueError",.type "Exception",.type "BaseException",.type "object"]
structure XCls (K:PySem.W.Frag) (C:Addr):Prop where
 ty:PySem.W.typeIn K (.ref C)=some (.type "type")
 ga:PySem.W.findIn K (.ref C) "__getattribute__"=some (some (.builtin "BaseException.__getattribute__"))
 gt:PySem.W.findIn K (.ref C) "__getattr__"=some none
 cl:PySem.W.findIn K (.ref C) "__class__"=some (some (.builtin "object.__class__"))
 gs:PySem.W.specialIn K (.builtin "object.__class__") "__get__"=some (some (.builtin "getset_descriptor.__get__"))
 tk:PySem.W.takesIn K (.builtin "object.__class__")=some true
 mo:PySem.W.mroIn K C (.type "object")=some true
 mb:PySem.W.mroIn K C (.type "BaseException")=some true
 hd:PySem.W.hasDictIn K C=true
 sf:PySem.W.mroIn K C (.ref C)=some true
theorem Fj {K:PySem.W.Frag} {C:Addr} {od:Option Obj} {name:Str} {a g:Value} (hc:(PySem.W.clsIn K C).isSome=true) (ha:PySem.W.findIn K (.ref C) name=some (some a)) (hg:PySem.W.specialIn K a "__get__"=some (some g)) (ht:PySem.W.takesIn K a=some true) :
   PySem.W.findObj K C od name=some (.bind g a):=by
 obtain ⟨cd,hc⟩:=Option.isSome_iff_exists.mp hc;unfold PySem.W.findObj;rw [hc,Option.bind_some,ha,Option.bind_some];simp [hg,ht]
section
variable {prog:Program} {w:World} {A:Around} {E:Value->Shared->Prop} {s:Shared} {K:PySem.W.Frag} {x C:Addr} {ox:Obj} {od:Option Obj}
theorem yH {M:Model} {nv:Value} {Q:Unit->Shared->Prop} (X:K.In s.heap) (I:PySem.W.InstAt s.heap x ox C od) (c:XCls K C) (h:Q () s):wpAny M A (checkBuiltinCall "BaseException.__getattribute__" ⟨[.ref x,nv],[]⟩) Q E s:=by
 obtain ⟨hh,g,dr,t,os⟩:=s;have hk:builtinKind "BaseException.__getattribute__"=some .slot:=by decide +kernel
 have hs:splitId "BaseException.__getattribute__"=some ("BaseException","__getattribute__"):=by decide +kernel
 have L0:=I.type (M:=M);have L1:=PySem.W.looks_mroIn (M:=M) X c.mb;have ha:=F.args_bexc_ga (.ref x) nv;simp only [checkBuiltinCall,hk,hs];unfold isInstance
 repeat (first|lk|wp_step)
 exact h
theorem Fp {Q:Option Value->Shared->Prop} (X:K.In s.heap) (I:PySem.W.InstAt s.heap x ox C od) (c:XCls K C) (h:Q (some (.ref C)) { s with toks:=s.toks+1 }):wpAny (model prog w) A (getAttr? (.ref x) "__class__") Q E s:=by
 obtain ⟨hh,g,dr,t,os⟩:=s;have hc:(PySem.W.clsIn K C).isSome=true:=by
   obtain ⟨cd,e,_⟩:=PySem.W.any_some c.hd;rw [e]
   rfl
 have L0:=I.type (M:=model prog w);have L1:=PySem.W.looks_findIn (M:=model prog w) X c.ga;have L2:=PySem.W.looks_findIn (M:=model prog w) X c.gt;have L3:=PySem.W.looks_find (M:=model prog w) X I (Fj (od:=od) hc c.cl c.gs c.tk);have n2:(Value.builtin "BaseException.__getattribute__" == Value.builtin "object.__getattribute__")=false:=by decide +kernel
 have n1:(onTheHeap (Value.ref C) && Value.builtin "BaseException.__getattribute__" == Value.builtin "object.__getattribute__")=false:=by rw [n2];rfl
 have b1:=F.excAttr_ValueError.ga.bind (.ref x);unfold getAttr? getAttrBy? getAttrBy;refine wpAny_bind (wpAny_mkText (wpAny_bind (wpAny_attempt (wpAny_holding (wpAny_bind (L0.at (wpAny_bind (L1.at ?_))))))));dsimp only;rw [n1];simp only [Bool.false_eq_true,if_false];unfold getAttrByItsOwn hookBefore callGetattribute boundAndCalled;simp only [onTheHeap,Bool.and_false,Bool.false_eq_true,if_false,if_true];refine wpAny_bind (L2.at (wpAny_bind (wpAny_attempt (wpAny_holding (wpAny_bind (wpAny_of_eq b1 ?_))))));refine wpAny_call (codeAny_call_builtin F.excAttr_ValueError.ga.plain F.entry_bexc_ga (yH X I c ?_));unfold Builtin.«object.__getattribute__»
 repeat lk
 refine wpAny_run (h:=none) (PySem.W.class_get (s:=⟨hh,g,dr,t+1,os⟩) (ox:=ox) (od:=od) X I c.mo ?_);refine wpAny_pure (wpAny_pure ?_);exact PySem.W.handed_on rfl (wpAny_pure h)
theorem Ad (c:XCls K C):PySem.W.KitX K (.ref x) (.ref C) (fun h=>PySem.W.InstAt h x ox C od) where
 ty:=fun _ _ _ I=>I.type
 it:=fun _ _ X _=>by
   obtain ⟨cd,e,_⟩:=PySem.W.any_some c.hd;unfold PySem.W.clsIn at e;split at e
   . rename_i ho
     intro A' Q' E' s' k q;unfold isType loadHead;exact wpAny_bind (wpAny_loadPart (k _ _ (X _ _ ho)) (wpAny_pure q))
   . cases e
 ne:=fun h tp dd its n sl X htp=>by
   obtain ⟨cd,e,_⟩:=PySem.W.any_some c.hd;refine Bool.eq_false_iff.mpr fun q=>?_;have z:C=tp:=Value.ref.inj (beq_iff_eq.mp q);subst z;unfold PySem.W.clsIn at e;split at e
   . rename_i ho
     cases (X _ _ ho).symm.trans htp
   . cases e
 ca:=fun X I k=>Fp X I c k
end
end L2
set_option Elab.async false
set_option linter.all false
set_option maxRecDepth 100000
namespace L2
open PySem PySem.Spec PyProof.Rows
def ja (h:Heap) (ea:Addr) (cls:Value) (od:Option Addr) (head:Value):Prop:=∃ oe vs,h.get? ea=some oe/\oe.cls=cls/\oe.dict=od/\oe.data=.fields vs/\vs[1]?=some head/\vs[2]?=some .none
def TbO (h:Heap) (T:Addr) (fl:Value):Prop:=∃ oT ts,h.get? T=some oT/\oT.data=.fields ts/\ts[3]?=some fl
structure Err (h:Heap) (ea T:Addr) (cls:Value) (od:Option Addr) (fl:Value):Prop where
 e:ja h ea cls od (.ref T)
 t:TbO h T fl
 ne:T≠ea
structure Kept (fs xs:List Addr) (h h':Heap):Prop where
 keep:∀ b o,h.get? b=some o->b ∉ fs->b ∉ xs->h'.get? b=some o
 slot:∀ b o,h.get? b=some o->b∈fs->b ∉ xs->∃ sl,h'.get? b=some { o with slots:=sl }
 there:∀ b o,h.get? b=some o->∃ o',h'.get? b=some o'
theorem Kept.mono {fs xs ys:List Addr} {h h':Heap} (k:Kept fs xs h h') (s:∀ b∈xs,b∈ys):Kept fs ys h h':=⟨fun b o e f x=>k.keep b o e f fun z=>x (s b z),fun b o e f x=>k.slot b o e f fun z=>x (s b z),k.there⟩
theorem Kept.trans {fs xs:List Addr} {h h1 h2:Heap} (a:Kept fs xs h h1) (b:Kept fs xs h1 h2):Kept fs xs h h2 where
 keep:=fun c o e f x=>b.keep c o (a.keep c o e f x) f x
 slot:=fun c o e f x=>by
   obtain ⟨s1,e1⟩:=a.slot c o e f x;obtain ⟨s2,e2⟩:=b.slot c _ e1 f x;exact ⟨s2,e2⟩
 there:=fun c o e=>by
   obtain ⟨o1,e1⟩:=a.there c o e;exact b.there c o1 e1
theorem Kept.of_all {fs xs:List Addr} {h h':Heap} (k:∀ b o,h.get? b=some o->h'.get? b=some o):Kept fs xs h h':=⟨fun b o e _ _=>k b o e,fun b o e _ _=>⟨o.slots,k b o e⟩,fun b o e=>⟨o,k b o e⟩⟩
theorem mL {fs xs:List Addr} {h:Heap} {a:Addr} {oa:Obj} {vs:Array Value} {i:Nat} {v:Value} (ha:h.get? a=some oa) (hd:oa.data=.fields vs) (hx:a∈xs):Kept fs xs h (h.update a (Obj.mapFields (·.setIfInBounds i v))):=by
 have oth:∀ b o,h.get? b=some o->b ∉ xs->(h.update a (Obj.mapFields (·.setIfInBounds i v))).get? b=some o:=fun b o e x=>by
   rw [Heap.get?_update_other _ _ (fun (z:a=b)=>x (z ▸ hx))];exact e
 refine ⟨fun b o e _ x=>oth b o e x,fun b o e _ x=>⟨o.slots,oth b o e x⟩,fun b o e=>?_⟩;by_cases z:b=a
 . subst z;exact ⟨_,Heap.get?_update_self _ ha (Obj.isFreed_of_fields (Obj.data_mapFields hd _))⟩
 . rw [Heap.get?_update_other _ _ (Ne.symm z)];exact ⟨o,e⟩
theorem Fr {h:Heap} {ea:Addr} {cls hd v:Value} {od:Option Addr} (e:ja h ea cls od hd):ja (h.update ea (Obj.mapFields (·.setIfInBounds 1 v))) ea cls od v:=by
 obtain ⟨oe,vs,h1,h2,h3,h4,h5,h6⟩:=e;have sz:1<vs.size:=(Array.getElem?_eq_some_iff.mp h5).1;refine ⟨_,_,Heap.get?_update_self _ h1 (Obj.isFreed_of_fields (Obj.data_mapFields h4 _)),?_,?_,Obj.data_mapFields h4 _,by simp [sz],by rw [Array.getElem?_setIfInBounds_ne (by decide)];exact h6⟩
 . rw [<- h2];exact Obj.cls_mapFields _ _
 . rw [<- h3];obtain ⟨c,d,dt,sl⟩:=oe;cases dt <;> rfl
theorem mC {h:Heap} {ea a:Addr} {cls hd:Value} {od:Option Addr} {f:Obj->Obj} (e:ja h ea cls od hd) (ne:a≠ea):ja (h.update a f) ea cls od hd:=by
 obtain ⟨oe,vs,h1,h2⟩:=e;exact ⟨oe,vs,by rw [Heap.get?_update_other _ _ ne];exact h1,h2⟩
theorem yp {h h':Heap} {ea:Addr} {cls hd:Value} {od:Option Addr} (e:ja h ea cls od hd) (k:∀ o,h.get? ea=some o->h'.get? ea=some o):ja h' ea cls od hd:=by
 obtain ⟨oe,vs,h1,h2⟩:=e;exact ⟨oe,vs,k _ h1,h2⟩
theorem Eh {h base:Heap} {ea:Addr} {cls hd:Value} {od:Option Addr} {l:List Env} (e:ja h ea cls od hd) (f:h.FunFrames base l):ea ∉ frs l:=fun z=>by
 obtain ⟨oe,vs,h1,_,_,h4,_⟩:=e;obtain ⟨_,o,ho,hn⟩:=f.mem z;rw [h1] at ho;cases ho;exact hn vs h4
theorem AA {h base:Heap} {T:Addr} {fl:Value} {l:List Env} (e:TbO h T fl) (f:h.FunFrames base l):T ∉ frs l:=fun z=>by
 obtain ⟨oe,vs,h1,h4,_⟩:=e;obtain ⟨_,o,ho,hn⟩:=f.mem z;rw [h1] at ho;cases ho;exact hn vs h4
section
variable {M:Model} {A:Around} {E:Value->Shared->Prop} {s:Shared} {Q:Unit->Shared->Prop} {fs:List Addr} {ea T L:Addr} {cls fl hd:Value} {od:Option Addr} {base:Heap} {env:Env} {outer:List Env}
theorem pX (r:Err s.heap ea T cls od fl) (h:∀ h',Err h' ea T cls od .none->Kept fs [T] s.heap h'->Q () { s with heap:=h' }):wpAny M A (setFlight (.ref ea) none) Q E s:=by
 obtain ⟨⟨oe,vs,h1,h2,h3,h4,h5,h6⟩,⟨oT,ts,t1,t2,t3⟩,ne⟩:=r;have sz:3<ts.size:=(Array.getElem?_eq_some_iff.mp t3).1;unfold setFlight;refine wpAny_bind (wpAny_field h1 h4 h5 ?_);rw [if_pos (by simp:(Value.ref T != Value.none)=true)];refine wpAny_setField t1 t2 sz (h _ ⟨mC ⟨oe,vs,h1,h2,h3,h4,h5,h6⟩ ne,⟨_,_,Heap.get?_update_self _ t1 (Obj.isFreed_of_fields (Obj.data_mapFields t2 _)),Obj.data_mapFields t2 _,by simp [sz]⟩,ne⟩ (mL t1 t2 (by simp)))
theorem vo {head:Value} {hadNext:Bool} (hfr:A.frames=some (env::outer)) (hl:s.heap.FunFrames base (env::outer)) (hf:env.frame=some L) (r:ja s.heap ea cls od hd)
   (h:∀ h' T',Err h' ea T' cls od (rawInt L)->Kept (frs (env::outer)) [ea] s.heap h'->s.heap.get? T'=none->Q () { s with heap:=h' }) :
   wpAny M A (do let a <- frameOf env;let pl <- entryPlaceOf L hadNext;let b <- EntryCells.newEntry head a .none (rawInt L) .none pl;setField (.ref ea) 1 b) Q E s:=by
 have nf:=Eh r hl;refine wpAny_bind (wpAny_frameOf_fun hfr hl hf fun g1 so=>wpAny_bind (wpAny_entryPlaceOf fun pl hpl=>?_));unfold EntryCells.newEntry newFields;refine wpAny_bind (wpAny_newObj_type ?_ (hpl.sizeOk5 _ _ _ _ _));have r1:ja g1 ea cls od hd:=yp r fun o e=>(so.2.1 ea nf).trans e;generalize ht:({ cls:=.type "traceback",dict:=none,data:=.fields ([head,.ref L,.none,rawInt L,.none]++(if pl.isEmpty then List.replicate 6 Value.none else pl)).toArray }:Obj)=tb;have r2:ja (g1.push tb) ea cls od hd:=yp r1 fun o e=>Heap.get?_push_of_some _ e;obtain ⟨oe,vs,e1,e2,e3,e4,e5,e6⟩:=id r2;have lt:ea<g1.objs.size:=by
   obtain ⟨_,_,e,_⟩:=r1;exact Heap.lt_size e
 have hT:(g1.push tb).get? g1.objs.size=some tb:=Heap.get?_push_size g1 (by rw [<- ht];rfl);refine wpAny_setField e1 e4 (Array.getElem?_eq_some_iff.mp e5).1 (h _ g1.objs.size ⟨Fr r2,⟨tb,([head,.ref L,.none,rawInt L,.none]++(if pl.isEmpty then List.replicate 6 Value.none else pl)).toArray,?_,by rw [<- ht],by simp⟩,Nat.ne_of_gt lt⟩ ?_ ?_)
 . rw [Heap.get?_update_other _ _ (Nat.ne_of_lt lt)];exact hT
 . have k1:Kept (frs (env::outer)) [ea] s.heap g1:=⟨fun b o e f _=>(so.2.1 b f).trans e,fun b o e _ _=>so.2.2 b o e,fun b o e=>by
     obtain ⟨sl,z⟩:=so.2.2 b o e;exact ⟨_,z⟩⟩
   exact k1.trans ((Kept.of_all fun b o e=>Heap.get?_push_of_some _ e).trans (mL e1 e4 (by simp)))
 . exact Heap.get?_none_of_le (by rw [so.1];exact Nat.le_refl _)
theorem Gv (hfr:A.frames=some (env::outer)) (hl:s.heap.FunFrames base (env::outer)) (hf:env.frame=some L) (r:ja s.heap ea cls od .none)
   (h:∀ h' T',Err h' ea T' cls od (rawInt L)->Kept (frs (env::outer)) [ea] s.heap h'->s.heap.get? T'=none->Q () { s with heap:=h' }):wpAny M A (noteFrame (.ref ea) env) Q E s:=by
 obtain ⟨oe,vs,e1,e2,e3,e4,e5,e6⟩:=id r;unfold noteFrame;simp only [hf];refine wpAny_bind (wpAny_field e1 e4 e5 ?_);rw [if_neg (by decide)];exact vo hfr hl hf r h
theorem xW (hfr:A.frames=some (env::outer)) (hl:s.heap.FunFrames base (env::outer)) (hf:env.frame=some L) (r:Err s.heap ea T cls od .none)
   (h:∀ h' T',Err h' ea T' cls od (rawInt L)->Kept (frs (env::outer)) [ea,T] s.heap h'->s.heap.get? T'=none->Q () { s with heap:=h' }):wpAny M A (noteFrame (.ref ea) env) Q E s:=by
 have nT:=AA r.t hl;obtain ⟨⟨oe,vs,e1,e2,e3,e4,e5,e6⟩,⟨oT,ts,t1,t2,t3⟩,ne⟩:=id r;unfold noteFrame;simp only [hf];refine wpAny_bind (wpAny_field e1 e4 e5 ?_);rw [if_pos (by simp:(Value.ref T != Value.none)=true)];refine wpAny_bind (wpAny_field t1 t2 t3 ?_);rw [if_neg (by simp [rawInt])];have k1:Kept (frs (env::outer)) [ea,T] s.heap (s.heap.update T (Obj.mapFields (·.setIfInBounds 3 Value.none))):=mL t1 t2 (by simp);refine wpAny_bind (wpAny_setField t1 t2 (Array.getElem?_eq_some_iff.mp t3).1 ?_);refine vo hfr (hl.of_keeps fun b o e nf=>⟨o,?_,rfl⟩) hf (mC r.e ne) fun h' T' r' k2 n=>h h' T' r' (k1.trans (k2.mono (by simp))) ?_
 . by_cases z:b=T
   . subst z;rw [t1] at e;cases e;exact absurd t2 (nf ts)
   . rw [Heap.get?_update_other _ _ (Ne.symm z)];exact e
 . cases q:s.heap.get? T' with
   | none=>rfl
   | some o =>
     obtain ⟨o',z⟩:=k1.there T' o q;rw [z] at n;cases n
theorem y3 (hfr:A.frames=some (env::outer)) (hl:s.heap.FunFrames base (env::outer)) (hf:env.frame=some L) (r:ja s.heap ea cls od .none)
   (h:∀ h' T',Err h' ea T' cls od .none->Kept (frs (env::outer)) [ea] s.heap h'->s.heap.get? T'=none->Q () { s with heap:=h' }):wpAny M A (leaving env (.ref ea)) Q E s:=by
 unfold leaving;refine wpAny_bind (Gv hfr hl hf r fun h1 T1 r1 k1 n1=>pX (fs:=frs (env::outer)) (s:={ s with heap:=h1 }) r1 fun h2 r2 k2=>h h2 T1 r2 ⟨fun b o e f x=>k2.keep b o (k1.keep b o e f x) f ?_,fun b o e f x=>?_,fun b o e=>?_⟩ n1)
 . simp only [List.mem_singleton];rintro rfl;rw [n1] at e;cases e
 . obtain ⟨s1,e1⟩:=k1.slot b o e f x;obtain ⟨s2,e2⟩:=k2.slot b _ e1 f (by
     simp only [List.mem_singleton];rintro rfl;rw [n1] at e;cases e)
   exact ⟨s2,e2⟩
 . obtain ⟨o1,e1⟩:=k1.there b o e;exact k2.there b o1 e1
theorem Fy (hfr:A.frames=some (env::outer)) (hl:s.heap.FunFrames base (env::outer)) (hf:env.frame=some L) (r:Err s.heap ea T cls od .none)
   (h:∀ h' T',Err h' ea T' cls od .none->Kept (frs (env::outer)) [ea,T] s.heap h'->s.heap.get? T'=none->Q () { s with heap:=h' }):wpAny M A (leaving env (.ref ea)) Q E s:=by
 unfold leaving;refine wpAny_bind (xW hfr hl hf r fun h1 T1 r1 k1 n1=>pX (fs:=frs (env::outer)) (s:={ s with heap:=h1 }) r1 fun h2 r2 k2=>h h2 T1 r2 ⟨fun b o e f x=>k2.keep b o (k1.keep b o e f x) f ?_,fun b o e f x=>?_,fun b o e=>?_⟩ n1)
 . simp only [List.mem_singleton];rintro rfl;rw [n1] at e;cases e
 . obtain ⟨s1,e1⟩:=k1.slot b o e f x;obtain ⟨s2,e2⟩:=k2.slot b _ e1 f (by
     simp only [List.mem_singleton];rintro rfl;rw [n1] at e;cases e)
   exact ⟨s2,e2⟩
 . obtain ⟨o1,e1⟩:=k1.there b o e;exact k2.there b o1 e1
end
def CXe (P:Program) (w:World):CXT:=fun outer H s E e s'=>∃ (ea T:Addr) (cls:Value) (od:Option Addr) (H':Hp),e=.ref ea/\s'.os=s.os/\AllBare s'.gens/\Un (frs outer) [] H H' s.heap s'.heap/\HOk P w H' s'.heap /\
 H' ea=none/\H' T=none/\s.heap.get? ea=none/\s.heap.get? T=none/\Err s'.heap ea T cls od .none/\E cls od H'
theorem bx {P:Program} {w:World}:bH (CXe P w):=fun outer H s e s' h=>by
 obtain ⟨_,_,_,_,_,_,_,_,_,_,_,_,_,_,_,z⟩:=h;exact z
theorem m8 {P:Program} {w:World} {H:Hp} {h h':Heap} {fs xs:List Addr} (x:HOk P w H h) (k:Kept fs xs h h') (f:∀ b∈fs,H b=none) (u:∀ b∈xs,H b=none):HOk P w H h':=fun a o e=>by
 refine (x a o e).stay (fun b ob hb q=>k.keep b ob q ?_ ?_) (fun _ q=>q) fun _ _ q=>q
 . intro z;rcases hb with rfl|hb
   . rw [f _ z] at e;cases e
   . rw [f _ z] at hb;cases hb
 . intro z;rcases hb with rfl|hb
   . rw [u _ z] at e;cases e
   . rw [u _ z] at hb;cases hb
theorem o5 {P:Program} {w:World} {H:Hp} {h:Heap} {b:Addr} (x:HOk P w H h) (n:h.get? b=none):H b=none:=by
 cases q:H b with
 | none=>rfl
 | some o =>
   have lt:=x.lt q;cases z:h.get? b with
   | some o'=>rw [z] at n;cases n
   | none =>
     exfalso
     have:=(x b o q);cases o with
     | lst xs=>obtain ⟨_,_,_,_,e⟩:=this;rw [n] at e;cases e
     | tup xs=>obtain ⟨_,_,_,ob,e,_⟩:=this;rw [n] at e;cases e
     | dK kvs=>obtain ⟨_,_,_,_,ob,_,_,e,_⟩:=this;rw [n] at e;cases e
     | dT kvs=>obtain ⟨_,_,_,_,ob,_,_,e,_⟩:=this;rw [n] at e;cases e
     | set S m=>obtain ⟨ob,_,_,_,e,_⟩:=this;rw [n] at e;cases e
     | ins C dx fs=>obtain ⟨_,_,_,e,_⟩:=this;rw [n] at e;cases e
     | own y=>obtain ⟨_,e⟩:=this;rw [n] at e;cases e
     | xd fs=>obtain ⟨_,⟨_,_,_,e,_⟩,_⟩:=this;rw [n] at e;cases e
     | rng lo hi=>obtain ⟨_,_,_,e⟩:=this;rw [n] at e;cases e
     | frz ob u=>obtain ⟨e,_⟩:=this;rw [n] at e;cases e
     | tbl ps=>have e:h.get? b=some _:=this;rw [n] at e;cases e
     | met f y=>have e:h.get? b=some _:=this;rw [n] at e;cases e
     | ext φ=>obtain ⟨_,⟨_,e⟩,_⟩:=this;rw [n] at e;cases e
section
variable {P:Program} {w:World} {K:PySem.W.Frag} {mg:Str->Option Value} {base:Heap} {N:List Str} {qual:Str} {scope:Scope} {f:Addr} {cd:Value} {A:Around} {outer:List Env} {s:Shared} {H:Hp} {E:XK}
theorem qK {CX:CXT} {pins:List (Addr × Obj)} {σ:St} {H':Hp} {s':Shared} {h':Heap} {xs:List Addr} (J:Inv (jZ CX P w K mg base N qual scope f cd A outer s H E) pins σ H' s') (k:Kept (frs (envOfC qual scope s.heap.objs.size f cd::outer)) xs s'.heap h') (nx:∀ b∈xs,s.heap.get? b=none) :
   Un (frs outer) [] H H' s.heap h':=by
 have b0:Un (frs outer) [] H H' s.heap s'.heap:=J.base;have nl:∀ b o,s.heap.get? b=some o->b ∉ xs:=fun b o e z=>by rw [nx b z] at e;cases e
 have nf:∀ b o,s.heap.get? b=some o->b ∉ frs outer->b ∉ frs (envOfC qual scope s.heap.objs.size f cd::outer):=fun b o e z m=>by
   unfold frs at m z;rw [List.filterMap_cons] at m;have:(envOfC qual scope s.heap.objs.size f cd).frame=some s.heap.objs.size:=rfl;rw [this] at m;rcases List.mem_cons.mp m with m|m
   . exact absurd (Heap.lt_size e) (by rw [m];exact Nat.lt_irrefl _)
   . exact z m
 refine ⟨fun b o e n hf hx=>k.keep b o (b0.keep b o e n hf hx) (nf b o e hf) (nl b o e),fun b o e n hf hx=>?_,b0.free,fun b o e hx=>?_,b0.tups,b0.frzs,b0.tbls⟩
 . obtain ⟨sl,e1⟩:=b0.slot b o e n hf hx;by_cases m:b∈frs (envOfC qual scope s.heap.objs.size f cd::outer)
   . obtain ⟨s2,e2⟩:=k.slot b _ e1 m (nl b o e);exact ⟨s2,e2⟩
   . exact ⟨sl,k.keep b _ e1 m (nl b o e)⟩
 . obtain ⟨o1,e1⟩:=b0.there b o e hx;exact k.there b o1 e1
theorem iV {CX:CXT} {pins:List (Addr × Obj)} {σ:St} {H':Hp} {s':Shared} (J:Inv (jZ CX P w K mg base N qual scope f cd A outer s H E) pins σ H' s') {b:Addr} (n:s'.heap.get? b=none):s.heap.get? b=none:=by
 cases q:s.heap.get? b with
 | none=>rfl
 | some o =>
   have b0:Un (frs outer) [] H H' s.heap s'.heap:=J.base;obtain ⟨o',e⟩:=b0.there b o q (by simp);rw [n] at e;cases e
theorem gU:pU (CXe P w) (jZ (CXe P w) P w K mg base N qual scope f cd A outer s H E) E:=by
 intro pins σ H1 s1 e s' I h;obtain ⟨ea,T,cls,od,H',rfl,os,bare,un,hok,n1,n2,f1,f2,er,q⟩:=h;have J:=I.call' (ch:=[]) os un hok bare (by simp);refine Fy (base:=base) J.ok.frames J.stack rfl er fun h' T' er' k nT=>?_;have fr:∀ b∈frs (envOfC qual scope s.heap.objs.size f cd::outer),H' b=none:=J.stkFree;refine ⟨ea,T',cls,od,H',rfl,J.os,J.bare,qK J k ?_,m8 hok k fr ?_,n1,o5 hok nT,iV I f1,iV J nT,er',q⟩
 . intro b hb;simp only [List.mem_cons,List.not_mem_nil,or_false] at hb;rcases hb with rfl|rfl
   . exact iV I f1
   . exact iV I f2
 . intro b hb;simp only [List.mem_cons,List.not_mem_nil,or_false] at hb;rcases hb with rfl|rfl
   . exact n1
   . exact n2
end
def Fk (X:Cx) (E:XK):Prop:=∀ (pins:List (Addr × Obj)) (σ:St) (H:Hp) (s:Shared) (ea:Addr) (cls:Value) (od:Option Addr) (h':Heap) (tk:Nat),Inv X pins σ H s->(∀ b o,s.heap.get? b=some o->h'.get? b=some o)->s.heap.get? ea=none->ja h' ea cls od .none->E cls od H ->
 X.xe (.ref ea) { s with heap:=h',toks:=tk }
section
variable {P:Program} {w:World} {K:PySem.W.Frag} {mg:Str->Option Value} {base:Heap} {N:List Str} {qual:Str} {scope:Scope} {f:Addr} {cd:Value} {A:Around} {outer:List Env} {s:Shared} {H:Hp} {E:XK}
theorem mD:Fk (jZ (CXe P w) P w K mg base N qual scope f cd A outer s H E) E:=by
 intro pins σ H1 s1 ea cls od h' tk I kp nw er q;have J:=I.kept (t':=tk) kp;refine y3 (base:=base) J.ok.frames J.stack rfl er fun h2 T' er' k nT=>?_;have fr:∀ b∈frs (envOfC qual scope s.heap.objs.size f cd::outer),H1 b=none:=J.stkFree;refine ⟨ea,T',cls,od,H1,rfl,J.os,J.bare,qK J k ?_,m8 J.hok k fr ?_,o5 I.hok nw,o5 J.hok nT,iV I nw,iV J nT,er',q⟩
 . intro b hb;rw [List.mem_singleton.mp hb];exact iV I nw
 . intro b hb;rw [List.mem_singleton.mp hb];exact o5 I.hok nw
end
end L2
set_option Elab.async false
set_option linter.all false
set_option maxRecDepth 100000
namespace L2
open PySem PySem.Spec PyProof.Rows
def FV (K:PySem.W.Frag) (C:Addr):Prop:=∃ (nm qn:Str) (N:Addr) (bs bm:List Value) (hdct:Bool) (sn:List Str) (sub:List Value) (ab:Bool) (col:Option Bool) (dd:Option Addr) (k0 k1 k2 k3 k5:Option Value),
   K.lookup C=some (excClassObj nm qn C N bs bm hdct sn sub ab col dd k0 k1 k2 k3 k5 "ValueError.__new__")/\PySem.W.nsOkIn K N=true/\PySem.W.nsIn K N "__init__"=some none/\PySem.W.tailIn K bmV bm=true
theorem Ie {K:PySem.W.Frag} {C:Addr} {o:Obj} (nm qn:Str) (N:Addr) (bs bm:List Value) (hdct:Bool) (sn:List Str) (sub:List Value) (ab:Bool) (col:Option Bool) (dd:Option Addr) (k0 k1 k2 k3 k5:Option Value) (l:K.lookup C=some o)
   (e:o=excClassObj nm qn C N bs bm hdct sn sub ab col dd k0 k1 k2 k3 k5 "ValueError.__new__") (a:PySem.W.nsOkIn K N=true) (b:PySem.W.nsIn K N "__init__"=some none) (c:PySem.W.tailIn K bmV bm=true):FV K C:=by
 subst e;exact ⟨_,_,_,_,_,_,_,_,_,_,_,_,_,_,_,_,l,a,b,c⟩
def EN (C:Addr) (E:XK) (t:TA):TS:=fun _ σ H=>t σ H fun vs H1=>vs.length<=sizeLine/\E (.ref C) none H1
section
variable {X:Cx} {x:Str} {np cpos pos:Pos} {e0:Expr} {es:List Expr} {t:TA} {C:Addr} {E:XK}
theorem lf (q:FV X.K C) (hc:X.calm=true) (hR:Fk X E) (hg:Gl X x) (hm:X.mg x=some (.ref C)) (ha:PA X (e0::es) t) (hdb:(x == ("__debug__":Str))=false:=by decide)
   (he:starEach (e0::es) X.env=(false,eval e0 X.env)::starEach es X.env:=by rfl) (hpl:(backTo cpos (starEach es X.env)).any (·.1)=false:=by rfl):PS X (.Raise (some (.Call (.Name x np) (e0::es) [] cpos)) none pos) (EN C E t):=by
 intro pins s σ H D I h;obtain ⟨nm,qn,N,bs,bm,hdct,sn,sub,ab,col,dd,k0,k1,k2,k3,k5,ho,z5,z6,z4⟩:=q;have B:=I.mod.kin;have T0:=PySem.W.tail_of_in B z4;have N0:X.base.Ns N (X.base.nsMap N):=.of_isNs (PySem.W.isNs_of_in B z5);have hp:(backTo cpos (starEach (e0::es) X.env)).any (·.1)=false:=by
   rw [he];show (false || (backTo cpos (starEach es X.env)).any (·.1))=false;rw [hpl]
   rfl
 refine wpAny_Raise_call_subT (C:=C) (nm:=nm) (q:=qn) (N:=N) (bs:=bs) (bm:=bm) (hdct:=hdct) (sn:=sn) (sub:=sub) (ab:=ab) (col:=col) (dd:=dd) (k0:=k0) (k1:=k1) (k2:=k2) (k3:=k3) (k5:=k5) PySem.F.excBase_ValueError
   (T0.hasType (by decide +kernel)) (I.ok.hd hc) hp (PySem.W.nsMap_none_of_in B z5 z6) (jG I hg hm ⟨rfl,?_⟩ hdb)
 have g:=ha cpos pins s σ H _ I h;rw [he] at g ⊢;refine Calls.evalArgs_plain (thn g fun us s1 ⟨vs,H1,I1,r1,q1⟩=>⟨rfl,by show us.length<=_;rw [<- r1.length];exact q1.1,I1.bk _ _ (B _ _ ho),N0.keeps I1.bk,T0.keeps I1.bk,fun h' ea m=>?_⟩);obtain ⟨tt,m1,_,_⟩:=m.there;exact hR pins σ H1 s1 ea (.ref C) none h' s1.toks I1 m.keeps m.new ⟨_,_,m1,rfl,rfl,rfl,rfl,rfl⟩ q1.2
end
def XP (CX:CXT) (X:Cx) (pins:List (Addr × Obj)) (σ:St) (E:XK) (e:Value) (s':Shared):Prop:=∃ H s,Inv X pins σ H s/\CX X.stack H s E e s'
def PEx (CX:CXT) (X:Cx) (e:Expr) (t:XK->TE):Prop :=
 ∀ (E:XK) (pins:List (Addr × Obj)) (s:Shared) (σ:St) (H:Hp) (Q:VK),Inv X pins σ H s->t E σ H Q->wpAny (model X.prog X.w) X.A (eval e X.env) (EP X pins σ Q) (XP CX X pins σ E) s
abbrev XS (CX:CXT) (X:Cx) (pins:List (Addr × Obj)) (EK:St->XK) (e:Value) (s':Shared):Prop:=∃ σ,XP CX X pins σ (EK σ) e s'
def PSx (CX:CXT) (X:Cx) (st:Stmt) (t:(St->XK)->TS):Prop :=
 ∀ (EK:St->XK) (pins:List (Addr × Obj)) (s:Shared) (σ:St) (H:Hp) (D:Ends),Inv X pins σ H s->t EK D σ H->wpAny (model X.prog X.w) X.A (exec st X.env) (SP X pins D) (XS CX X pins EK) s
def D3 (CX:CXT) (X:Cx) (st:List Stmt) (t:(St->XK)->TS):Prop :=
 ∀ (EK:St->XK) (pins:List (Addr × Obj)) (s:Shared) (σ:St) (H:Hp) (D:Ends),Inv X pins σ H s->t EK D σ H->wpAny (model X.prog X.w) X.A (execs st X.env) (SP X pins D) (XS CX X pins EK) s
section
variable {CX:CXT} {X:Cx} {k:Nat} {f C:Addr} {fd:FuncData} {ps:List Str} {sp:Sp} {dvs:List V} {ds:List Value} {x:Str} {p pos:Pos} {e:Expr} {es:List Expr} {te:TE} {t:TA} {st:Stmt} {sts:List Stmt} {ts:TS} {tx ux:(St->XK)->TS} {ex:XK->TE}
theorem jw (F:FnOk X.prog X.w X.K X.mg X.base CX k f fd ps sp) (hr:Room k X.A) (hg:Gl X x) (hm:X.mg x=some (.ref f)) (hk:PySem.W.keepIn X.K (.ref f)=true) (hb:Binds X.K fd ps ds) (hd:Vals dvs ds)
   (ha:PA X.nox (e::es) t) (hdb:(x == ("__debug__":Str))=false:=by decide) (he:starEach (e::es) X.env=(false,eval e X.env)::starEach es X.env:=by rfl) (hpl:(backTo pos (starEach es X.env)).any (·.1)=false:=by rfl) :
   PEx CX X (.Call (.Name x p) (e::es) [] pos) (fun E=>zW sp dvs E t):=by
 intro E pins s σ H Q I h;refine wpAny_Call_Name_kw (jG I hg hm ?_ hdb);refine PySem.W.callWith_K (h₀:=X.base) I.ok.mod.kin hk (wpAny_mono (ha pos pins s σ H _ (I.wish _) h) (fun us s1 ⟨vs,H1,I1,r,q⟩=>⟨I1.unwish.kIn,?_⟩) fun _ _ z=>False.elim z) he hpl;have J:=I1.unwish;have r2:Vals (vs++dvs) (us++ds):=r.append hd;have hl:(us++ds).length=ps.length:=by rw [<- r2.length];exact F.len _ _ _ _ q
 refine wpAny_call (codeAny_mono (F.run X.A X.stack s1 H1 ⟨us,[]⟩ (us++ds) (vs++dvs) Q E hr J.env0 (hb s1 us J.kIn hl) r2 q) fun r s' hq=>?_);cases r with
 | error e=>exact ⟨H1,s1,J,hq⟩
 | ok fl =>
   cases fl with
   | ret u=>exact J.after hq
   | next=>exact False.elim hq
   | brk=>exact False.elim hq
   | cont=>exact False.elim hq
theorem vy (he:PEx CX X e ex) (hs:swapsWith e none pos.line X.env=pure false:=by rfl):PSx CX X (.Expr e pos) (fun EK D σ H=>ex (EK σ) σ H fun _ H1=>D.nx σ H1):=by
 intro EK pins s σ H D I h;exact wpAny_Expr_any (wpAny_mono (he (EK σ) pins s σ H _ I h) (fun v s1 ⟨x,H1,I1,r1,q1⟩=>⟨σ,H1,I1,q1⟩) fun e s' z=>⟨σ,z⟩) I.quiet hs
theorem Ed {c:Expr} {a b:List Stmt} {tc:TT} (hc:PT X.nox c tc) (ha:D3 CX X a tx) (hb:D3 CX X b ux):PSx CX X (.If c a b pos) (fun EK=>Dh tc (tx EK) (ux EK)):=by
 intro EK pins s σ H D I h;refine wpAny_If (wpAny_mono (hc pins s σ H _ (I.wish _) h) (fun d s1 ⟨H1,I1,q1⟩=>?_) fun _ _ z=>False.elim z);cases d with
 | true=>exact ha EK pins s1 σ H1 D I1.unwish q1
 | false=>exact hb EK pins s1 σ H1 D I1.unwish q1
theorem oj (h1:PSx CX X st tx):D3 CX X [st] tx:=by
 intro EK pins s σ H D I h;refine wpAny_execs_cons (thn (h1 EK pins s σ H D I h) fun f s1 q=>?_);cases f with
 | next=>exact wpAny_execs_nil q
 | ret v=>exact q
 | brk=>exact q
 | cont=>exact q
end
end L2
set_option Elab.async false
set_option linter.all false
set_option maxRecDepth 100000
namespace L2
open PySem PySem.Spec PyProof.Rows
abbrev Cx.held (X:Cx) (e:Value):Cx:={ X with A:=X.A.mark (some e),calm:=false }
theorem Cx.Ok.held {X:Cx} (ok:X.Ok) (e:Value):(X.held e).Ok :=
 ⟨ok.mod,ok.kind,ok.glob,ok.blt,ok.above,ok.inj,ok.has,ok.cab,(fun z=>nomatch z),ok.frames,ok.stk,ok.exf,ok.bs,ok.bsz,ok.noex,ok.exfs,ok.funs,ok.frf⟩
theorem Cx.Ok.unheld {X:Cx} {e:Value} (ok:(X.held e).Ok) (hd:X.calm=true->X.A.handled=none):X.Ok :=
 ⟨ok.mod,ok.kind,ok.glob,ok.blt,ok.above,ok.inj,ok.has,ok.cab,hd,ok.frames,ok.stk,ok.exf,ok.bs,ok.bsz,ok.noex,ok.exfs,ok.funs,ok.frf⟩
section
variable {X:Cx} {pins:List (Addr × Obj)} {σ:St} {H:Hp} {s:Shared}
theorem Inv.held (I:Inv X pins σ H s) (e:Value):Inv (X.held e) pins σ H s:=⟨I.ok.held e,I.os,I.bare,I.base,I.loc,I.cell,I.free,I.freeC,I.pin,I.hok,I.len⟩
theorem Inv.unheld {e:Value} (I:Inv (X.held e) pins σ H s) (hd:X.calm=true->X.A.handled=none):Inv X pins σ H s:=⟨I.ok.unheld hd,I.os,I.bare,I.base,I.loc,I.cell,I.free,I.freeC,I.pin,I.hok,I.len⟩
theorem Inv.moved {xs:List Addr} {h':Heap} {tk:Nat} (I:Inv X pins σ H s) (k:Kept (frs X.stack) xs s.heap h') (nx:∀ b∈xs,H b=none/\X.s₀.heap.get? b=none/\b≠X.env.locals/\(∀ x c,X.env.cells.lookup x=some c->c≠b)/\∀ p∈X.pn++pins,p.1≠b) :
   Inv X pins σ H { s with heap:=h',toks:=tk }:=by
 have old:∀ b o,X.s₀.heap.get? b=some o->b ∉ xs:=fun b o e z=>by rw [(nx b z).2.1] at e;cases e
 have nel:∀ b o,X.s₀.heap.get? b=some o->b≠X.env.locals:=fun b o e z=>absurd (Nat.lt_of_lt_of_le (Heap.lt_size e) I.ok.above) (by rw [z];exact Nat.lt_irrefl _);have out:∀ b,b≠X.env.locals->b ∉ X.fs->b ∉ frs X.stack:=fun b h1 h2 z=>(List.mem_cons.mp (I.stkSub b z)).elim h1 h2;have any:∀ b o,s.heap.get? b=some o->b ∉ xs->∃ sl,h'.get? b=some { o with slots:=sl }:=fun b o e z=>by
   by_cases f:b∈frs X.stack
   . exact k.slot b o e f z
   . exact ⟨o.slots,k.keep b o e f z⟩
 have cells:∀ x c v,X.env.cells.lookup x=some c->s.heap.IsCell c v->h'.IsCell c v:=fun x c v e ⟨o,ho,hd⟩=>by
   obtain ⟨sl,q⟩:=any c o ho fun z=>(nx c z).2.2.2.1 x c e rfl;exact ⟨_,q,hd⟩
 refine ⟨I.ok,I.os,I.bare,⟨fun b o e n hf hx=>?_,fun b o e n hf hx=>?_,I.base.free,fun b o e hx=>?_,I.base.tups,I.base.frzs,I.base.tbls⟩,?_,fun x c e=>?_,I.free,I.freeC,fun p hp=>?_,m8 I.hok k I.stkFree fun b hb=>(nx b hb).1,I.len⟩
 . exact k.keep b o (I.base.keep b o e n hf hx) (out b (nel b o e) hf) (old b o e)
 . obtain ⟨sl,e1⟩:=I.base.slot b o e n hf hx;obtain ⟨s2,e2⟩:=any b _ e1 (old b o e);exact ⟨s2,e2⟩
 . obtain ⟨o1,e1⟩:=I.base.there b o e hx;exact k.there b o1 e1
 . obtain ⟨m,⟨o,es,ep,ho,r⟩,l⟩:=I.loc;obtain ⟨sl,e1⟩:=any _ o ho fun z=>(nx _ z).2.2.1 rfl;refine ⟨m,⟨_,es,ep,e1,r⟩,fun i x v h1 h2 h3=>?_⟩;obtain ⟨u,r1,l1⟩:=l i x v h1 h2 h3;refine ⟨u,r1,?_⟩;rcases l1 with l1|⟨k1,c,e,z⟩
   . exact .inl l1
   . exact .inr ⟨k1,c,e,cells x c _ e z⟩
 . obtain ⟨v,z⟩:=I.cell x c e;exact ⟨v,cells x c v e z⟩
 . obtain ⟨e,n,ne,nf,d⟩:=I.pin p hp;exact ⟨k.keep p.1 p.2 e (out p.1 ne nf) fun z=>(nx p.1 z).2.2.2.2 p hp rfl,n,ne,nf,d⟩
theorem Inv.young (I:Inv X pins σ H s) {b:Addr} (n:s.heap.get? b=none):X.s₀.heap.get? b=none\/b∈X.ex:=by
 by_cases z:b∈X.ex
 . exact .inr z
 . refine .inl ?_;cases q:X.s₀.heap.get? b with
   | none=>rfl
   | some o =>
     obtain ⟨o',e⟩:=I.base.there b o q z;rw [n] at e;cases e
theorem Inv.apart (I:Inv X pins σ H s) {b:Addr} (n:s.heap.get? b=none):b≠X.env.locals/\(∀ x c,X.env.cells.lookup x=some c->c≠b)/\∀ p∈X.pn++pins,p.1≠b:=by
 refine ⟨?_,fun x c e z=>?_,fun p hp z=>?_⟩
 . rintro rfl;obtain ⟨m,⟨o,es,ep,ho,r⟩,_⟩:=I.loc;rw [n] at ho;cases ho
 . obtain ⟨v,o,ho,hd⟩:=I.cell x c e;rw [z,n] at ho;cases ho
 . obtain ⟨e,_⟩:=I.pin p hp;rw [z,n] at e;cases e
end
section
variable {K:PySem.W.Frag} {C C':Addr} {x:Addr} {ox:Obj} {od:Option Obj} {M:Model} {A:Around} {E:Value->Shared->Prop} {s:Shared} {b:Bool} {Q:Bool->Shared->Prop}
theorem BH (X:K.In s.heap) (hx:∃ o,s.heap.get? x=some o/\o.cls=.ref C) (c':XCls K C') (m:PySem.W.mroIn K C (.ref C')=some b) (h:Q b s):wpAny M A (excMatches (.ref x) (.ref C')) Q E s:=by
 obtain ⟨o,ho,hc⟩:=hx;obtain ⟨hh,g,dr,t,os⟩:=s;have L0:PySem.W.Looks M hh (typeOf (.ref x)) (.ref C):=hc ▸ (PySem.W.Looks.ld ho).andThen .now;have L1:=PySem.W.looks_mroIn (M:=M) X m;have L2:=PySem.W.looks_mroIn (M:=M) X c'.mb;have L3:=PySem.W.looks_typeIn (M:=M) X c'.ty;have L4:PySem.W.Looks M hh (isSubtype (.type "type") (.type "tuple")) false:=.of_pure tc_notTuple;obtain ⟨cd,e,_⟩:=PySem.W.any_some c'.hd;have L5:PySem.W.Looks M hh (isType (.ref C')) true:=by
   unfold PySem.W.clsIn at e;split at e
   . rename_i ho'
     intro A' Q' E' s' k q;unfold isType loadHead;exact wpAny_bind (wpAny_loadPart (k _ _ (X _ _ ho')) (wpAny_pure q))
   . cases e
 unfold excMatches isInstance isExcClass;cases b
 all_goals
   repeat lk
   exact h
end
end L2
set_option Elab.async false
set_option linter.all false
set_option maxRecDepth 100000
namespace L2
open PySem PySem.Spec PyProof.Rows
def ExO (ea:Addr) (cls:Value) (od:Option Addr):HO:=.ext fun h=>∃ oe vs,h.get? ea=some oe/\oe.cls=cls/\oe.dict=od/\oe.data=.fields vs/\vs[2]?=some .none
structure Loose (X:Cx) (pins:List (Addr × Obj)) (H:Hp) (b:Addr):Prop where
 un:H b=none
 new:X.s₀.heap.get? b=none
 loc:b≠X.env.locals
 cel:∀ x c,X.env.cells.lookup x=some c->c≠b
 pin:∀ p∈X.pn++pins,p.1≠b
theorem Loose.all {X:Cx} {pins:List (Addr × Obj)} {H:Hp} {b:Addr} (l:Loose X pins H b):H b=none/\X.s₀.heap.get? b=none/\b≠X.env.locals/\(∀ x c,X.env.cells.lookup x=some c->c≠b)/\∀ p∈X.pn++pins,p.1≠b:=⟨l.un,l.new,l.loc,l.cel,l.pin⟩
section
variable {X:Cx} {pins:List (Addr × Obj)} {σ:St} {H:Hp} {s:Shared}
theorem Inv.trackX {ea:Addr} {cls hd:Value} {od:Option Addr} (I:Inv X pins σ H s) (l:Loose X pins H ea) (e:ja s.heap ea cls od hd):Inv X pins σ (upd H ea (ExO ea cls od)) s:=by
 obtain ⟨oe,vs,h1,h2,h3,h4,h5,h6⟩:=e;have ne:∀ b,b≠ea->upd H ea (ExO ea cls od) b=H b:=fun b z=>am z;have nt:∀ b u,H b=some u->upd H ea (ExO ea cls od) b=some u:=fun b u z=>by rw [ne b (az z l.un)];exact z
 refine ⟨I.ok,I.os,I.bare,⟨I.base.keep,I.base.slot,fun b o q n x=>?_,I.base.there,fun b xs q=>nt _ _ (I.base.tups b xs q),fun b o u q=>nt _ _ (I.base.frzs b o u q),fun b ps q=>?_⟩,I.loc,I.cell,?_,fun x c q=>?_,fun p hp=>?_,?_,I.len⟩
 . rw [ne b (by rintro rfl;rw [l.new] at q;cases q)];exact I.base.free b o q n x
 . obtain ⟨more,z⟩:=I.base.tbls b ps q;exact ⟨more,nt _ _ z⟩
 . rw [ne _ (Ne.symm l.loc)];exact I.free
 . rw [ne _ (l.cel x c q)];exact I.freeC x c q
 . obtain ⟨z1,z2,z3,z4,z5⟩:=I.pin p hp;exact ⟨z1,by rw [ne _ (l.pin p hp)];exact z2,z3,z4,z5⟩
 . intro b u q;by_cases z:b=ea
   . subst z;rw [ag] at q;cases q;refine ⟨⟨oe,vs,h1,h2,h3,h4,h6⟩,⟨oe,h1⟩,?_⟩;rintro g1 g2 ⟨o,v,a1,a2⟩ kk;exact ⟨o,v,kk _ a1,a2⟩
   . rw [ne b z] at q;exact (I.hok b u q).stay (fun _ _ _ r=>r) (fun c r=>nt _ _ r) fun c xs r=>nt _ _ r
theorem ow {M:Model} {A:Around} {E:Value->Shared->Prop} {n:Str} {i:Nat} {pos:Pos} {Q:Unit->Shared->Prop} (I:Inv X pins σ H s) (hN:X.N.Nodup) (hi:X.N[i]?=some n) (hl:X.env.scope.names.lookup n=some .local)
   (h:∀ s',Inv X pins (σ.set i none) H s'->Q () s'):wpAny M A (do bindName X.env n .none;unbindBehindTheSuite X.env n pos) Q E s:=by
 have hcls:(X.env.scope.kind == .class || (X.env.scope.kind == .module && X.env.locals != X.env.globals))=false:=by rw [I.ok.kind];rfl
 have hiσ:i<σ.length:=by rw [I.len];exact (List.getElem?_eq_some_iff.mp hi).1
 refine wpAny_bind (wpAny_bindName (qH (v:=V.non) I hN hi (.inl hl) rfl (fun s1 I1=>?_) (.inr hl)));obtain ⟨m,hn,l⟩:=id I1.loc;have hv:m n=some Value.none:=by
   obtain ⟨u,r,q⟩:=l i n .non hi (by rw [List.getElem?_set_self hiσ]) (.inl hl);cases (show u=Value.none from r);rcases q with ⟨_,q⟩|⟨q,_⟩
   . exact q
   . rcases q with q|q <;> (have z:X.env.scope.names.lookup n=_:=q;rw [hl] at z;cases z)
 unfold unbindBehindTheSuite;refine wpAny_onRaise (wpAny_unbindName_local hl hn hv hcls fun h' u hn' hs=>h _ ?_);have cne:=I1.cne;have far:∀ b o,X.s₀.heap.get? b=some o->b≠X.env.locals:=fun b o e=>Nat.ne_of_lt (Nat.lt_of_lt_of_le (Heap.lt_size e) I1.ok.above);have at_:∀ b,b≠X.env.locals->h'.get? b=s1.heap.get? b:=fun b z=>hs.2 b z;refine ⟨I1.ok,I1.os,I1.bare,⟨fun b o e n hb hx=>?_,fun b o e n hb hx=>?_,I1.base.free,fun b o e hx=>?_,I1.base.tups,I1.base.frzs,I1.base.tbls⟩,⟨_,hn',fun j y v e1 e2 e3=>?_⟩,fun y c e=>?_,I1.free,I1.freeC,fun p hp=>?_,fun b ob e=>?_,by simpa using I.len⟩
 . exact (at_ b (far b o e)).trans (I1.base.keep b o e n hb hx)
 . obtain ⟨sl,q⟩:=I1.base.slot b o e n hb hx;exact ⟨sl,(at_ b (far b o e)).trans q⟩
 . obtain ⟨o',q⟩:=I1.base.there b o e hx;exact ⟨o',(at_ b (far b o e)).trans q⟩
 . by_cases hj:j=i
   . subst hj;rw [List.getElem?_set_self hiσ] at e2;cases e2
   . have hy:y≠n:=fun z=>hj (vn hN e1 (z ▸ hi));rw [List.getElem?_set_ne (Ne.symm hj)] at e2;obtain ⟨u',r',q⟩:=l j y v e1 (by rw [List.getElem?_set_ne (Ne.symm hj)];exact e2) e3;refine ⟨u',r',?_⟩;rcases q with ⟨k,z⟩|⟨k,c,z1,z2⟩
     . exact .inl ⟨k,by simp [hy,z]⟩
     . exact .inr ⟨k,c,z1,z2.sameBut hs (cne y c z1)⟩
 . obtain ⟨v,z⟩:=I1.cell y c e;exact ⟨v,z.sameBut hs (cne y c e)⟩
 . obtain ⟨z1,z2,z3,z4,z5⟩:=I1.pin p hp;exact ⟨(at_ p.1 z3).trans z1,z2,z3,z4,z5⟩
 . refine (I1.hok b ob e).stay (fun c w hc q=>(at_ c ?_).trans q) (fun _ q=>q) fun _ _ q=>q;rintro rfl;rcases hc with rfl|hc
   . rw [I1.free] at e;cases e
   . rw [I1.free] at hc;cases hc
end
abbrev TH:=Ends->St->Value->Option Addr->Hp->Prop
def PHs (X:Cx) (hs:List ExceptHandler) (th:TH):Prop:=∀ (pins:List (Addr × Obj)) (s:Shared) (σ:St) (H:Hp) (D:Ends) (ea T:Addr) (cls:Value) (od:Option Addr),Inv X pins σ H s->Err s.heap ea T cls od .none->Loose X pins H ea->Loose X pins H T ->
 th D σ cls od H->wpAny (model X.prog X.w) X.A (handleBy (.ref ea) X.env hs) (SP X pins D) X.xe s
def Ends.less (D:Ends) (i:Nat):Ends:={ nx:=fun σ H=>D.nx (σ.set i none) H,rt:=D.rt,bk:=fun σ H=>D.bk (σ.set i none) H,ct:=fun σ H=>D.ct (σ.set i none) H }
def Hu (K:PySem.W.Frag) (C':Addr) (i:Nat) (ts:TS) (tr:TH):TH:=fun D σ cls od H=>∃ C b,cls=.ref C/\PySem.W.mroIn K C (.ref C')=some b /\
 if b=true then ∀ ea,H ea=none->ts (D.less i) (σ.set i (some (.ref ea))) (upd H ea (ExO ea cls od)) else tr D σ cls od H
def tNoHand:TH:=fun _ _ _ _ _=>False
section
variable {X:Cx} {x n:Str} {np pos:Pos} {i:Nat} {C':Addr} {b0:Stmt} {suite:List Stmt} {au:List ExceptHandler} {ts:TS} {tr:TH}
theorem Jb:PHs X [] tNoHand:=fun _ _ _ _ _ _ _ _ _ _ _ _ _ h=>h.elim
theorem Kg (c':XCls X.K C') (hg:Gl X x) (hm:X.mg x=some (.ref C')) (hN:X.N.Nodup) (hi:X.N[i]?=some n) (hl:X.env.scope.names.lookup n=some .local) (hb:∀ e,PSs (X.held e).nox (b0::suite) ts) (hr:PHs X au tr) (hdb:(x == ("__debug__":Str))=false:=by decide) :
   PHs X (.ExceptHandler (some (.Name x np)) (some n) (b0::suite) pos::au) (Hu X.K C' i ts tr):=by
 intro pins s σ H D ea T cls od I er le lt h;obtain ⟨C,b,rfl,m,q⟩:=h;refine wpAny_handleBy_cons (codeAny_handlers_test (jG (X:=X.held (.ref ea)) (I.held _) hg hm ?_ hdb)) (by intro z;cases z);obtain ⟨oe,vs,h1,h2,h3,h4,h5,h6⟩:=id er.e;refine BH I.kIn ⟨oe,h1,h2⟩ c' m ?_;cases b with
 | false=>exact hr pins s σ H D ea T _ od I er le lt (by simpa using q)
 | true =>
   rw [if_pos rfl] at q;refine codeAny_handlers_suite_as (pX (fs:=frs X.stack) er fun h' er' k=>?_);have I1:Inv X pins σ H { s with heap:=h' }:=I.moved (tk:=s.toks) k fun b hb=>by rw [List.mem_singleton.mp hb];exact lt.all
   have I2:=(I1.trackX le er'.e).held (.ref ea);refine qH (X:=X.held (.ref ea)) (v:=V.ref ea) I2 hN hi (.inl hl) rfl (fun s2 I3=>?_) (.inr hl);refine wpAny_mono (hb (.ref ea) pins s2 _ _ _ (I3.wish _) (q ea le.un)) (fun f s3 z=>?_) fun _ _ z=>False.elim z;have back:∀ {σ':St} {H':Hp},Inv (X.held (.ref ea)).nox pins σ' H' s3->Inv X pins σ' H' s3:=fun J=>J.unwish.unheld I.ok.hd;dsimp only;cases f with
   | next =>
     obtain ⟨σ',H',J,z⟩:=z;exact ow (back J) hN hi hl fun s4 J4=>⟨_,H',J4,z⟩
   | brk =>
     obtain ⟨σ',H',J,z⟩:=z;exact ow (back J) hN hi hl fun s4 J4=>⟨_,H',J4,z⟩
   | cont =>
     obtain ⟨σ',H',J,z⟩:=z;exact ow (back J) hN hi hl fun s4 J4=>⟨_,H',J4,z⟩
   | ret u =>
     obtain ⟨v,σ',H',J,rv,z⟩:=z;exact ow (back J) hN hi hl fun s4 J4=>⟨v,_,H',J4,rv,z⟩
def Jw (tb:(St->XK)->TS) (th:TH):TS:=fun D σ H=>tb (fun σ' cls od H'=>th D σ' cls od H') D σ H
theorem IU {body:List Stmt} {h0:ExceptHandler} {hs:List ExceptHandler} {tb:(St->XK)->TS} {th:TH} (hx:X.ex=[]) (hst:X.stack=X.env::X.outer) (hf:X.env.frame=some X.env.locals) (hb:D3 (CXe X.prog X.w) X body tb) (hh:PHs X (h0::hs) th) :
   PS X (.Try body (h0::hs) [] [] pos) (Jw tb th):=by
 intro pins s σ H D I h;refine wpAny_Try_except (wpAny_mono (hb _ pins s σ H D I h) (fun f s1 q=>?_) fun e s' z=>?_)
 . cases f with
   | next=>exact wpAny_execs_nil q
   | ret v=>exact q
   | brk=>exact q
   | cont=>exact q
 . obtain ⟨σ1,H1,s1,I1,ea,T,cls,od,H',rfl,os,bare,un,hok,n1,n2,f1,f2,er,q⟩:=z;have J:=I1.call' (ch:=[]) os un hok bare (by simp);have fresh:∀ b,s1.heap.get? b=none->H' b=none->Loose X pins H' b:=fun b z u=>by
     obtain ⟨a1,a2,a3⟩:=I1.apart z;refine ⟨u,?_,a1,a2,a3⟩;rcases I1.young z with y|y
     . exact y
     . rw [hx] at y;cases y
   have le:=fresh ea f1 n1;have lt:=fresh T f2 n2;have fr:=J.ok.frames;have st:=J.stack;rw [hst] at fr st;refine xW fr st hf er fun h2 T2 er2 k2 nT2=>?_;rw [<- hst] at k2;have J2:Inv X pins σ1 H' { s' with heap:=h2 }:=J.moved (tk:=s'.toks) k2 fun b hb=>by
     simp only [List.mem_cons,List.not_mem_nil,or_false] at hb;rcases hb with rfl|rfl
     . exact le.all
     . exact lt.all
   have lt2:Loose X pins H' T2:=by
     obtain ⟨a1,a2,a3⟩:=J.apart nT2;refine ⟨o5 hok nT2,?_,a1,a2,a3⟩;rcases J.young nT2 with y|y
     . exact y
     . rw [hx] at y;cases y
   refine pX (fs:=frs X.stack) (s:={ s' with heap:=h2 }) er2 fun h3 er3 k3=>?_;have J3:Inv X pins σ1 H' { s' with heap:=h3 }:=J2.moved (tk:=s'.toks) k3 fun b hb=>by rw [List.mem_singleton.mp hb];exact lt2.all
   exact hh pins _ σ1 H' D ea T2 cls od J3 er3 le lt2 q
end
end L2
set_option Elab.async false
set_option linter.all false
set_option maxRecDepth 100000
namespace L2
open PySem PySem.Spec PyProof.Rows
section
variable {P:Program} {w:World} {K:PySem.W.Frag} {mg:Str->Option Value} {base:Heap}
end
section
variable {X:Cx} {k:Nat} {f:Addr} {fd:FuncData} {ps:List Str} {sp:Sp} {x:Str} {p pos:Pos} {e:Expr} {es:List Expr} {t:TA}
end
def A5 (K:PySem.W.Frag) (C:Addr):V->Bool->Prop
 | .ref C',b=>XCls K C'/\PySem.W.mroIn K C (.ref C')=some b
 | .ty T,b=>PySem.W.kitMeta T=true/\PySem.W.mroIn K C (.type T)=some b
 | _,_=>False
def wx (H:Hp):Option Addr->Prop
 | none=>True
 | some d=>∃ fs,H d=some (.xd fs)
def DE (K:PySem.W.Frag):List V->Hp->VK->Prop:=fun xs H Q=>∃ ea C od cv b,xs=[.ref ea,cv]/\H ea=some (ExO ea (.ref C) od)/\wx H od/\XCls K C/\A5 K C cv b/\Q (.bl b) H
theorem xZ {K:PySem.W.Frag} {C:Addr} {cv:V} {u:Value} {b:Bool} (c:XCls K C) (r:RelV cv u) (h:A5 K C cv b):PySem.W.kitOne K (.ref C) u=some b:=by
 unfold PySem.W.kitOne;cases cv with
 | ref C' =>
   cases (show u=Value.ref C' from r);obtain ⟨c',m⟩:=h;by_cases z:C=C'
   . subst z;rw [c.sf] at m;cases m;simp
   . have:(Value.ref C == Value.ref C')=false:=(by simpa using z);rw [this];simp only [Bool.false_eq_true,if_false];unfold PySem.W.kitCls;have q:((PySem.W.clsIn K C').isSome && PySem.W.typeIn K (.ref C') == some (.type "type"))=true:=by
       obtain ⟨cd,e,_⟩:=PySem.W.any_some c'.hd;rw [e,c'.ty];simp
     simp only [q,if_true];exact m
 | ty T =>
   cases (show u=Value.type T from r);obtain ⟨c',m⟩:=h;have:(Value.ref C == Value.type T)=false:=by simp
   rw [this];simp only [Bool.false_eq_true,if_false];unfold PySem.W.kitCls;simp only [c',if_true];exact m
 | non=>exact h.elim
 | bl=>exact h.elim
 | int=>exact h.elim
 | str=>exact h.elim
 | byt=>exact h.elim
 | flt=>exact h.elim
section
variable {X:Cx}
theorem Al {pins:List (Addr × Obj)} {σ:St} {H:Hp} {s:Shared} {ea C:Addr} {od:Option Addr} (I:Inv X pins σ H s) (h:H ea=some (ExO ea (.ref C) od)) (d:wx H od):∃ ox oo,PySem.W.InstAt s.heap ea ox C oo:=by
 obtain ⟨⟨oe,vs,h1,h2,h3,h4,_⟩,_⟩:=(show ObjOk X.prog X.w H s.heap ea (ExO ea (.ref C) od) from I.hok ea _ h);have nc:PySem.W.notCls oe=true:=by unfold PySem.W.notCls;rw [h4]
 cases od with
 | none=>exact ⟨oe,none,h1,h2,nc,by rw [h3];trivial⟩
 | some dx =>
   obtain ⟨fs,hd⟩:=d;obtain ⟨mA,⟨o,es,ep,e,_⟩,_⟩:=(show ObjOk X.prog X.w H s.heap dx (.xd fs) from I.hok dx _ hd);exact ⟨oe,some o,h1,h2,nc,by rw [h3];exact e⟩
theorem GF:dI X (.builtin "isinstance") (DE X.K):=by
 intro pins s σ H xs us Q I r h;obtain ⟨ea,C,od,cv,b,rfl,he,hd,c,hk,q⟩:=h;obtain ⟨u,cu,rfl,ru,rc⟩:=wp r;cases (show u=Value.ref ea from ru);obtain ⟨ox,oo,ia⟩:=Al I he hd;exact PySem.W.kia_one (Ad (x:=ea) (ox:=ox) (od:=oo) c) I.kIn ia (xZ c rc hk) (fun z=>nomatch z) fun tk=>⟨.bl b,H,I.tok tk,rfl,q⟩
end
def o6 (cells:List (Str × Addr)):List (Str × NameKind)->List (Str × Addr)->List (Str × Addr)
 | [],acc=>acc
 | (n,k)::r,acc=>if k == .free then o6 cells r ((n,(cells.lookup n).getD 0)::acc) else o6 cells r acc
theorem DF {scope:Scope} {env:Env} (h:∀ y∈scope.names,y.2=.free->(env.cells.lookup y.1).isSome=true):closureFor scope env=pure (o6 env.cells scope.names []):=by
 have key:∀ (l:List (Str × NameKind)) (acc:List (Str × Addr)),(∀ y∈l,y.2=.free->(env.cells.lookup y.1).isSome=true) ->
     (forIn l acc fun (y:Str × NameKind) (c:List (Str × Addr))=>(if y.2 == NameKind.free then do let a <- cellOf env y.1;pure (ForInStep.yield ((y.1,a)::c)) else pure (ForInStep.yield c):Sem (ForInStep (List (Str × Addr)))))=(pure (o6 env.cells l acc):Sem (List (Str × Addr))):=by
   intro l
   induction l with
   | nil=>intro acc _;rfl
   | cons y l ih =>
     obtain ⟨n,k⟩:=y;intro acc hh;have h1:=hh (n,k) List.mem_cons_self;have h2:∀ y∈l,y.2=.free->(env.cells.lookup y.1).isSome=true:=fun y hy=>hh y (List.mem_cons_of_mem _ hy);rw [List.forIn_cons];unfold o6;cases q:k == NameKind.free with
     | false =>
       simp only [Bool.false_eq_true,if_false,pure_bind];exact ih acc h2
     | true =>
       obtain ⟨c,hc⟩:=Option.isSome_iff_exists.mp (h1 (by simpa using q));dsimp only at hc;simp only [if_true,cellOf,hc,pure_bind,Option.getD_some];exact ih _ h2
 have:=key scope.names [] h;unfold closureFor;simp only [bind_pure];exact this
theorem vL {cells:List (Str × Addr)} {x:Str} {c:Addr}:∀ {l:List (Str × NameKind)} {acc:List (Str × Addr)},(∀ y∈l,y.2=.free->(cells.lookup y.1).isSome=true)->(∀ x c,acc.lookup x=some c->cells.lookup x=some c)->(o6 cells l acc).lookup x=some c->cells.lookup x=some c
 | [],acc,_,h2,h3=>h2 x c h3
 | (n,k)::r,acc,h1,h2,h3=>by
   have h1':∀ y∈r,y.2=.free->(cells.lookup y.1).isSome=true:=fun y hy=>h1 y (List.mem_cons_of_mem _ hy);unfold o6 at h3;cases q:k == NameKind.free with
   | false =>
     rw [q] at h3;exact vL h1' h2 (by simpa using h3)
   | true =>
     rw [q] at h3;simp only [if_true] at h3;obtain ⟨a,ha⟩:=Option.isSome_iff_exists.mp (h1 (n,k) List.mem_cons_self (by simpa using q));dsimp only at ha;rw [ha] at h3;refine vL h1' (fun y d hy=>?_) h3;rw [List.lookup_cons] at hy;cases z:y == n with
     | true =>
       rw [z] at hy;cases hy;rw [eq_of_beq z];exact ha
     | false =>
       rw [z] at hy;exact h2 y d hy
theorem vI {cells:List (Str × Addr)} {x:Str}:∀ {l:List (Str × NameKind)} {acc:List (Str × Addr)},((∃ c,acc.lookup x=some c)\/(x,NameKind.free)∈l)->∃ c,(o6 cells l acc).lookup x=some c
 | [],acc,h=>by
   rcases h with h|h
   . exact h
   . cases h
 | (n,k)::r,acc,h=>by
   unfold o6;cases q:k == NameKind.free with
   | false =>
     simp only [Bool.false_eq_true,if_false];refine vI ?_;rcases h with h|h
     . exact .inl h
     . rcases List.mem_cons.mp h with z|z
       . cases z;simp at q
       . exact .inr z
   | true =>
     simp only [if_true];refine vI ?_;by_cases z:x=n
     . subst z;exact .inl ⟨(cells.lookup x).getD 0,by rw [List.lookup_cons];simp⟩
     . rcases h with ⟨c,h⟩|h
       . refine .inl ⟨c,?_⟩;rw [List.lookup_cons];have:(x == n)=false:=(by simpa using z);rw [this];exact h
       . rcases List.mem_cons.mp h with y|y
         . cases y;exact absurd rfl z
         . exact .inr y
theorem kG {env:Env} {x:Str} {k:NameKind}:∀ {l:List (Str × NameKind)},l.lookup x=some k ->
   (l.map fun (n,k)=>if (k == NameKind.free && env.scope.kind == .function && env.kindOf n == some .cell) then (n,NameKind.cell) else (n,k)).lookup x=some (if (k == NameKind.free && env.scope.kind == .function && env.kindOf x == some .cell) then NameKind.cell else k)
 | [],h=>by simp at h
 | (n,j)::r,h=>by
   have ih:=@kG env x k r;rw [List.map_cons];rw [List.lookup_cons] at h;cases z:x == n with
   | true =>
     rw [z] at h;cases h;have e:=eq_of_beq z;subst e;by_cases q:(k == NameKind.free && env.scope.kind == .function && env.kindOf x == some .cell)=true
     . simp only [q,if_true,List.lookup_cons,z]
     . simp only [q,if_false,List.lookup_cons,z,Bool.false_eq_true]
   | false =>
     rw [z] at h;dsimp only;by_cases q:(j == NameKind.free && env.scope.kind == .function && env.kindOf n == some .cell)=true
     . rw [if_pos q,List.lookup_cons,z];exact ih h
     . rw [if_neg q,List.lookup_cons,z];exact ih h
theorem Cz {X:Cx} {Nc:List Str} {scope:Scope} (own:Nat) (js:List Nat) (hc:∀ y∈scope.names,y.2≠.cell) (hk:scope.kind=.function) (hn:∀ y∈scope.names,y.2=.local->scope.names.lookup y.1=some .local) (hl:Nc.length=own+js.length)
   (hf:∀ y∈scope.names,y.2=.free->X.env.scope.names.lookup y.1=some .cell) (hX:X.env.scope.kind=.function) (hcell:∀ x,X.env.scope.names.lookup x=some .cell->∃ c,X.env.cells.lookup x=some c)
   (hU:∀ i,i<js.length->∃ x j,Nc[own+i]?=some x/\js[i]?=some j/\X.N[j]?=some x/\scope.names.lookup x=some .free):CompTxt X Nc own js scope (o6 X.env.cells scope.names []):=by
 have hs:∀ y∈scope.names,y.2=.free->(X.env.cells.lookup y.1).isSome=true:=fun y hy e=>by
   obtain ⟨c,q⟩:=hcell _ (hf y hy e);rw [q]
   rfl
 have free_cell:∀ x,scope.names.lookup x=some .free->X.env.scope.names.lookup x=some .cell:=fun x h=>hf (x,.free) (PySem.mem_of_lookup h) rfl;refine ⟨DF hs,hk,hc,hn,fun x c h=>vL hs (fun x c z=>by simp at z) h,fun x h=>?_,hl,fun i x h=>?_⟩
 . cases q:scope.names.lookup x with
   | none =>
     exfalso
     have:(relabel scope X.env).names.lookup x=none:=by
       unfold relabel;dsimp only
       revert q
       generalize scope.names=l
       induction l with
       | nil=>intro _;rfl
       | cons y l ih =>
         obtain ⟨n,k⟩:=y;intro q;rw [List.lookup_cons] at q;cases z:x == n with
         | true=>rw [z] at q;cases q
         | false =>
           rw [z] at q;rw [List.map_cons];dsimp only;by_cases w:(k == NameKind.free && X.env.scope.kind == .function && X.env.kindOf n == some .cell)=true
           . rw [if_pos w,List.lookup_cons,z];exact ih q
           . rw [if_neg w,List.lookup_cons,z];exact ih q
     rw [this] at h;rcases h with h|h <;> cases h
   | some k =>
     have r:(relabel scope X.env).names.lookup x=some _:=kG (env:=X.env) q;cases k with
     | free=>exact vI (.inr (PySem.mem_of_lookup q))
     | cell=>exact absurd rfl (hc _ (PySem.mem_of_lookup q))
     | _ =>
       rw [r] at h;simp at h
 . have hi:i<js.length:=by
     have:=(List.getElem?_eq_some_iff.mp h).1;omega
   obtain ⟨y,j,e1,e2,e3,e4⟩:=hU i hi;rw [h] at e1;cases e1;have fc:=free_cell x e4;refine ⟨j,e2,e3,fc,?_⟩;have r:(relabel scope X.env).names.lookup x=some _:=kG (env:=X.env) e4;rw [r];have:X.env.kindOf x=some .cell:=fc;rw [this,hX]
   rfl
end L2
set_option Elab.async false
set_option linter.all false
set_option maxRecDepth 100000
namespace L2
open PySem PySem.Spec PyProof.Rows
section
variable {X:Cx}
end
theorem Ih {K:PySem.W.Frag} {C T:Addr} {c0:Value} {dd:Option Addr} {cd:ClassData} {sl:Array (Option Value)} (h:K.lookup C=some ⟨c0,dd,.cls cd,sl⟩) (m:cd.mro=.ref C::.ref T::bmV) (C':Addr):PySem.W.mroIn K C (.ref C')=some (decide (C'=C) || decide (C'=T)):=by
 unfold PySem.W.mroIn PySem.W.clsIn;rw [h];simp only [Option.bind_some,m,List.isEmpty_cons,Bool.false_eq_true,if_false]
 congr 1
 by_cases h1:C'=C
 . subst h1;simp
 . by_cases h2:C'=T
   . subst h2;simp
   . have a:(Value.ref C' == Value.ref C)=false:=(by simpa using h1);have b:(Value.ref C' == Value.ref T)=false:=(by simpa using h2);simp [List.contains_cons,a,b,h1,h2]
structure XErr (K:PySem.W.Frag) (T C:Addr):Prop where
 x:XCls K C
 mr:∀ C',PySem.W.mroIn K C (.ref C')=some (decide (C'=C) || decide (C'=T))
 mv:PySem.W.mroIn K C (.type "ValueError")=some true
theorem wX {K:PySem.W.Frag} {C:Addr} {c0:Value} {dd:Option Addr} {cd:ClassData} {sl:Array (Option Value)} {r:List Value} (h:K.lookup C=some ⟨c0,dd,.cls cd,sl⟩) (m:cd.mro=.ref C::r) {v:Value} (hv:(Value.ref C::r).contains v=true):PySem.W.mroIn K C v=some true:=by
 unfold PySem.W.mroIn PySem.W.clsIn;rw [h];simp only [Option.bind_some,m,List.isEmpty_cons,Bool.false_eq_true,if_false,hv]
section
variable {K:PySem.W.Frag} {T C:Addr} {c0:Value} {dd:Option Addr} {cd:ClassData} {sl:Array (Option Value)}
theorem CF {r:List Value} (h1:PySem.W.typeIn K (.ref C)=some (.type "type")) (h2:PySem.W.findIn K (.ref C) "__getattribute__"=some (some (.builtin "BaseException.__getattribute__"))) (h3:PySem.W.findIn K (.ref C) "__getattr__"=some none)
   (h4:PySem.W.findIn K (.ref C) "__class__"=some (some (.builtin "object.__class__"))) (h5:PySem.W.specialIn K (.builtin "object.__class__") "__get__"=some (some (.builtin "getset_descriptor.__get__"))) (h6:PySem.W.takesIn K (.builtin "object.__class__")=some true)
   (h7:PySem.W.hasDictIn K C=true) (h:K.lookup C=some ⟨c0,dd,.cls cd,sl⟩) (m:cd.mro=.ref C::r) (a:r.contains (.type "object")=true) (b:r.contains (.type "BaseException")=true):XCls K C :=
 ⟨h1,h2,h3,h4,h5,h6,wX h m (by rw [List.contains_cons,a,Bool.or_true]),wX h m (by rw [List.contains_cons,b,Bool.or_true]),h7,wX h m (by simp)⟩
structure XTop (K:PySem.W.Frag) (T:Addr):Prop where
 x:XCls K T
theorem Iv (h1:PySem.W.typeIn K (.ref C)=some (.type "type")) (h2:PySem.W.findIn K (.ref C) "__getattribute__"=some (some (.builtin "BaseException.__getattribute__"))) (h3:PySem.W.findIn K (.ref C) "__getattr__"=some none)
   (h4:PySem.W.findIn K (.ref C) "__class__"=some (some (.builtin "object.__class__"))) (h5:PySem.W.specialIn K (.builtin "object.__class__") "__get__"=some (some (.builtin "getset_descriptor.__get__"))) (h6:PySem.W.takesIn K (.builtin "object.__class__")=some true)
   (h7:PySem.W.hasDictIn K C=true) (h:K.lookup C=some ⟨c0,dd,.cls cd,sl⟩) (m:cd.mro=.ref C::bmV):XTop K C:=⟨CF h1 h2 h3 h4 h5 h6 h7 h m (by decide +kernel) (by decide +kernel)⟩
theorem pW (h1:PySem.W.typeIn K (.ref C)=some (.type "type")) (h2:PySem.W.findIn K (.ref C) "__getattribute__"=some (some (.builtin "BaseException.__getattribute__"))) (h3:PySem.W.findIn K (.ref C) "__getattr__"=some none)
   (h4:PySem.W.findIn K (.ref C) "__class__"=some (some (.builtin "object.__class__"))) (h5:PySem.W.specialIn K (.builtin "object.__class__") "__get__"=some (some (.builtin "getset_descriptor.__get__"))) (h6:PySem.W.takesIn K (.builtin "object.__class__")=some true)
   (h7:PySem.W.hasDictIn K C=true) (h:K.lookup C=some ⟨c0,dd,.cls cd,sl⟩) (m:cd.mro=.ref C::.ref T::bmV):XErr K T C:=by
 have a:(Value.ref T::bmV).contains (.type "object")=true:=by rw [List.contains_cons];simp [bmV]
 have b:(Value.ref T::bmV).contains (.type "BaseException")=true:=by rw [List.contains_cons];simp [bmV]
 have c:(Value.ref T::bmV).contains (.type "ValueError")=true:=by rw [List.contains_cons];simp [bmV]
 exact ⟨CF h1 h2 h3 h4 h5 h6 h7 h m a b,Ih h m,wX h m (by rw [List.contains_cons,c,Bool.or_true])⟩
end
section
variable {P:Program} {w:World} {K:PySem.W.Frag} {mg:Str->Option Value} {base:Heap}
theorem Fun.okX {x qual:Str} {st:Stmt} {f:Addr} {fd:FuncData} {N ps:List Str} {k:Nat} {sp:Sp} (F:Fun K x qual st f fd) (S:FnScope N ps (aa st)) (len:∀ vs H Q E,sp vs H Q E->vs.length=ps.length)
   (hbody:∀ (cdv:Value) (A:Around) (outer:List Env) (s:Shared) (H:Hp) (vs:List V) (Q:VK) (E:XK),Room k (A.deeper (envOfC qual (aa st) s.heap.objs.size f cdv))->sp vs H Q E ->
     ∃ t,PSs (jZ (CXe P w) P w K mg base N qual (aa st) f cdv A outer s H E) (aE st) t/\t { nx:=fun _ H'=>Q .non H',rt:=Q } (start N vs) H):FnOk P w K mg base (CXe P w) (k+1) f fd ps sp:=by
 obtain ⟨oc,od,kV,doc,pm,an,cdv,ct,osl,rfl,lk,hcd⟩:=F.ex;exact HD lk hcd S len fun A outer s H vs Q E hr hsp=>hbody cdv A outer s H vs Q E hr hsp
end
theorem yr {C:Addr} {E:XK} {t:TA} {D:Ends} {σ:St} {H:Hp}:EN C E t D σ H=t σ H fun vs H1=>vs.length<=sizeLine/\E (.ref C) none H1:=rfl
theorem CC {tb:(St->XK)->TS} {th:TH} {D:Ends} {σ:St} {H:Hp}:Jw tb th D σ H=tb (fun σ' cls od H'=>th D σ' cls od H') D σ H:=rfl
theorem Am {K:PySem.W.Frag} {C':Addr} {i:Nat} {ts:TS} {tr:TH} {D:Ends} {σ:St} {cls:Value} {od:Option Addr} {H:Hp}:Hu K C' i ts tr D σ cls od H=∃ C b,cls=.ref C/\PySem.W.mroIn K C (.ref C')=some b /\
 if b=true then ∀ ea,H ea=none->ts (D.less i) (σ.set i (some (.ref ea))) (upd H ea (ExO ea cls od)) else tr D σ cls od H:=rfl
theorem sD:bootBuiltins "ValueError"=some (.type "ValueError"):=by decide +kernel
theorem uF {K:PySem.W.Frag} {H:Hp} {ea C C' Tl:Addr} {od:Option Addr} {Q:VK} (he:H ea=some (ExO ea (.ref C) od)) (hd:wx H od) (xe:XErr K Tl C) (x':XErr K Tl C') (ne:C'≠Tl) (q:Q (.bl (decide (C'=C))) H):DE K [.ref ea,.ref C'] H Q:=by
 refine ⟨ea,C,od,.ref C',decide (C'=C),rfl,he,hd,xe.x,⟨x'.x,?_⟩,q⟩;rw [xe.mr,decide_eq_false ne,Bool.or_false]
theorem CB {K:PySem.W.Frag} {H:Hp} {ea C Tl:Addr} {od:Option Addr} {Q:VK} (he:H ea=some (ExO ea (.ref C) od)) (hd:wx H od) (xe:XErr K Tl C) (q:Q (.bl true) H):DE K [.ref ea,.ty "ValueError"] H Q :=
 ⟨ea,C,od,.ty "ValueError",true,rfl,he,hd,xe.x,⟨by decide +kernel,xe.mv⟩,q⟩
theorem CU {H:Hp} {l b:Addr} {xs zs:List V} {Q:VK} (h1:H l=some (.lst xs)) (h2:H b=some (.lst zs)) (hz:xs.length+zs.length<=sizeLine) (q:∀ p,H p=none->Q (.ref p) (upd H p (.lst (xs++zs)))):rCat (.ref l) (.ref b) H Q:=⟨l,b,xs,zs,rfl,rfl,h1,h2,hz,q⟩
theorem Same.put {H H':Hp} {l:Addr} (e:Same H H') (n:H l=none) (o:HO):Same H (upd H' l o):=fun b u h=>by rw [am (az h n)];exact e b u h
theorem Ar (i:Int):∀ ns:List Int,inV (.int i) (ns.map V.int)=decide (i∈ns)
 | []=>by simp [inV]
 | n::ns=>by
   have ih:=Ar i ns;unfold inV at ih ⊢;rw [List.map_cons,List.any_cons,ih];have e:eqV (.int n) (.int i)=decide (n=i):=by first|rfl|simp [eqV]
   rw [e];by_cases h:i=n
   . subst h;simp
   . simp [h,Ne.symm h]
theorem yM:∀ ns:List Int,(ns.map V.int).all ms=true
 | []=>rfl
 | n::ns=>by rw [List.map_cons,List.all_cons,yM ns];rfl
theorem inL {K:PySem.W.Frag} {neg:Bool} {H:Hp} {p:Addr} {i:Int} {ns:List Int} {Q:VK} (h:H p=some (.lst (ns.map V.int))) (q:Q (.bl (if neg then !decide (i∈ns) else decide (i∈ns))) H):rIn K neg (.int i) (.ref p) H Q:=by
 refine ⟨p,_,rfl,.inl (SqL.of h),rfl,yM ns,?_⟩;rw [Ar];exact q
end L2
set_option Elab.async false
set_option linter.all false
set_option maxRecDepth 100000
namespace L2
open PySem PySem.Spec PyProof.Rows
theorem Ba {M:Model} {A:Around} {E:Value->Shared->Prop} {s:Shared} {env:Env} {x:Str} {px:Pos} {v:Value} {Q:Unit->Shared->Prop} (h:wpAny M A (storeName env x v) Q E s):wpAny M A (assign (.Name x px) env v) Q E s:=by
 show wpAny M A (do standAt px;bindName env x v) Q E s;exact wpAny_bind (wpAny_standAt (wpAny_bindName h))
section
variable {X:Cx} {Nc:List Str} {own:Nat} {js:List Nat} {scope:Scope} {cl:List (Str × Addr)}
theorem DS {i:Nat} {x:Str} {px pos:Pos} {elt target iter:Expr} {ifs:List Expr} {cpos:Pos} {wi:TI} {g:TG} {tc:TT} {te:TE} (hN:X.N.Nodup) (hxi:X.N[i]?=some x) (hxl:X.env.scope.names.lookup x=some .local) (hc:X.calm=true) (T:CompTxt X Nc own js scope cl)
   (hi:PI X target iter wi) (hg:∀ C s₂ H₁ fp,PG (X.comp Nc scope cl C s₂ H₁ fp) target g) (ht:∀ C s₂ H₁ fp,PTs (X.comp Nc scope cl C s₂ H₁ fp) ifs tc)
   (he:∀ C s₂ H₁ fp,PE (X.comp Nc scope cl C s₂ H₁ fp) elt te) (hs:∀ x,foldedSetIterable iter X.env x=pure x:=by intro _;rfl)
   (hsw:swapsWith (.ListComp elt [⟨target,iter,ifs,0⟩] scope cpos) (some (.Name x px)) pos.line X.env=pure true:=by rfl) :
   PS X (.Assign [.Name x px] (.ListComp elt [⟨target,iter,ifs,0⟩] scope cpos) pos) (xU (wk own js wi g tc te) (uD i)):=by
 intro pins s σ H D I h;rw [exec_Assign_Name_used _ _ _ _ hsw];refine wpAny_bind (wpAny_standAt (wpAny_bind ?_));rw [arm_evalThenUse_ListComp];refine wpAny_bind ?_;refine wpAny_comprehension_free (use:=some (assign (.Name x px) X.env)) rfl hs T.clos T.kind T.names (thn (hi pins s σ H _ I h) fun v s1 h1=>thn h1 fun itv s2 h2=>?_);obtain ⟨it,fp,tn,J,H1,rfl,I1,Tn,st,f1,R⟩:=h2;have hfp:∀ b∈fp,b<s2.heap.objs.size:=fun b hb=>let ⟨o,e,_⟩:=Tn.obj _ _ st b hb;Heap.lt_size e;refine wpAny_newObj_type (wpAny_newFunctionEnv T.nocell (by intro y hy;simp at hy) (fun h₁ hns₁ hsb₁=>?_) T.kind);dsimp only at hns₁ hsb₁ ⊢;generalize hH2:s2.heap.push { cls:=.type "list",dict:=none,data:=.seq ([]:List Value).toArray }=H2 at hns₁ hsb₁ ⊢;have hC:H2.objs.size=s2.heap.objs.size+1:=by rw [<- hH2,Heap.size_push]
 have hDC:s2.heap.objs.size≠H2.objs.size:=by rw [hC];exact Nat.ne_of_lt (Nat.lt_succ_self _)
 have hCle:s2.heap.objs.size<=H2.objs.size:=by rw [hC];exact Nat.le_succ _
 have below:∀ b,b<s2.heap.objs.size->b≠H2.objs.size:=fun b hb=>by rw [hC];exact Nat.ne_of_lt (Nat.lt_succ_of_lt hb)
 have old:∀ b o,s2.heap.get? b=some o->h₁.get? b=some o:=fun b o e=>hsb₁.extBut b o (below b (Heap.lt_size e)) (Heap.get?_push_of_some _ (hH2 ▸ Heap.get?_push_of_some _ e));have hacc:∃ n,h₁.get? s2.heap.objs.size=some { cls:=.type "list",data:=.seq ([]:List Value).toArray n }:=⟨_,hsb₁.extBut _ _ hDC (Heap.get?_push_of_some _ (hH2 ▸ Heap.get?_push_size _ rfl))⟩;have st₁:tn 0 h₁:=Tn.keep _ _ _ st fun b _ o e=>old b o e;obtain ⟨W,⟨m0,w0⟩,turn⟩:=R s2.heap.objs.size I1.fresh;have Ic:=qx (t:=s2.toks+([]:List (Str × Value)).length) T I1 hCle (Nat.le_refl _) hDC f1 hfp old hns₁ hacc;generalize hXc:X.comp Nc scope cl H2.objs.size s2 H1 fp=Xc at Ic;have stat:∀ {H':Hp},(∀ b∈fp,H' b=none)->∀ b∈fp,kd Xc [] H' b:=fun {H'} hn b hb=>by
   subst hXc;exact ⟨hn b hb,below b (hfp b hb),(qb T I1 hCle f1 hfp).exfs b hb,.inl hb,fun x c e=>(f1 b hb).2.2.2.2.1 x c (T.cells x c e),fun p hp=>by cases hp⟩
 have fr0:∀ b∈fp,upd H1 s2.heap.objs.size (.lst []) b=none:=fun b hb=>by
   rw [am (Nat.ne_of_lt (hfp b hb))];exact (f1 b hb).1
 have calmc:Xc.calm=true:=by subst hXc;exact hc
 have loop:∀ s₃:Shared,s₃={ s2 with heap:=h₁,toks:=s2.toks+([]:List (Str × Value)).length } ->
     codeAny (model X.prog X.w) X.A (.compLoop (.ListComp elt [⟨target,iter,ifs,0⟩] scope cpos) 0 (.ref it) (.ref s2.heap.objs.size) (compEnvC scope cl H2.objs.size X.env))
       (compPost (model X.prog X.w) X.A X.xe (some (assign (.Name x px) X.env)) (fun _ s'=>wpAny (model X.prog X.w) X.A (pure ()) (fun _ s''=>wpAny (model X.prog X.w) X.A (pure Flow.next) (SP X pins D) X.xe s'') X.xe s') (.ref s2.heap.objs.size) H2.objs.size) s₃:=by
   rintro s₃ rfl;refine u8 (fun n s'=>∃ i ys σ' H',Inv Xc [] σ' H' s'/\tn i s'.heap/\(∀ b∈fp,H' b=none)/\W i n ys σ' H') ?_ m0 ⟨0,[],_,_,Ic,st₁,fr0,w0⟩;rintro n s3 ⟨i,ys,σ3,H3,I3,st3,fr3,w3⟩;rcases turn i n ys σ3 H3 w3 with ⟨stop,q⟩|⟨go,step⟩
   . subst hXc;refine thn (Tn.done (X.comp Nc scope cl H2.objs.size s2 H1 fp) rfl rfl rfl hc i [] s3 σ3 H3 _ I3 (stat fr3) st3 stop) fun r s4 ⟨hr,I4⟩=>?_;subst hr;obtain ⟨m4,hn4,_⟩:=id I4.loc;have J:=lN I1 hCle f1 I4 (h':=s4.heap) (Heap.SameBut.refl _ _);have cl0:H2.objs.size≠X.env.locals:=Nat.ne_of_gt (Nat.lt_of_lt_of_le I1.lt hCle);have cy:X.s₀.heap.objs.size<=H2.objs.size:=Nat.le_trans I1.sz hCle;have cc:∀ y c,X.env.cells.lookup y=some c->c≠H2.objs.size:=fun y c e=>by
       obtain ⟨v',o',ho',_⟩:=I1.cell y c e;exact Nat.ne_of_lt (Nat.lt_of_lt_of_le (Heap.lt_size ho') hCle)
     have cp:∀ p∈X.pn++pins,p.1≠H2.objs.size:=fun p hp=>by
       obtain ⟨ho',_⟩:=I1.pin p hp;exact Nat.ne_of_lt (Nat.lt_of_lt_of_le (Heap.lt_size ho') hCle)
     refine Ba (tQ (v:=.ref s2.heap.objs.size) J hN hxi (.inl hxl) rfl (fun s5 I5 ⟨ad,sb,had⟩=>?_) (.inr hxl));have nad:H2.objs.size≠ad:=by
       rcases had with rfl|had
       . exact cl0
       . exact (cc _ _ had).symm
     obtain ⟨oo,es,ep,e1,e2⟩:=hn4;refine ⟨m4,⟨oo,es,ep,(sb.2 _ nad).trans e1,e2⟩,fun h' hs'=>wpAny_pure (wpAny_pure ⟨_,H3,?_,q⟩)⟩;exact I5.turned (it:=H2.objs.size) (t':=s5.toks) (fun b o n e=>hs'.extBut b o n e) I4.free cl0 (.inr cy) cc cp
   . subst hXc;refine thn (Tn.item (X.comp Nc scope cl H2.objs.size s2 H1 fp) rfl rfl rfl hc i [] s3 σ3 H3 _ I3 (stat fr3) st3 go) fun r s4 ⟨u,hr,h4⟩=>?_;subst hr;refine thn h4 fun _ s5 ⟨x,H5,I5,r5,y5,st5,fr5⟩=>?_;have I5':=I5.pinned (stat fr5) (Tn.obj _ _ st5);have back:∀ {σ7:St} {H7:Hp} {s7:Shared},Inv (X.comp Nc scope cl H2.objs.size s2 H1 fp) ([]++fT fp s5.heap) σ7 H7 s7->Inv (X.comp Nc scope cl H2.objs.size s2 H1 fp) [] σ7 H7 s7/\tn (i+1) s7.heap/\∀ b∈fp,H7 b=none:=fun {σ7 H7 s7} I7=>by
       refine ⟨I7.unpinned,Tn.keep _ _ _ st5 fun b hb o e=>(I7.pin (b,o) (List.mem_append_right _ (List.mem_append_right _ (cQ hb e)))).1,fun b hb=>?_⟩;obtain ⟨o,e,d⟩:=Tn.obj _ _ st5 b hb;exact (I7.pin (b,o) (List.mem_append_right _ (List.mem_append_right _ (cQ hb e)))).2.1
     refine thn (hg _ _ _ _ _ s5 σ3 H5 x u _ I5' r5 (step x H5 y5)) fun _ s6 ⟨σ6,H6,I6,q6⟩=>?_;refine qQ (ht _ _ _ _ _ s6 σ6 H6 _ I6 q6) fun ok s7 H7 I7 q7=>?_;cases ok with
     | false =>
       rw [if_neg Bool.false_ne_true] at q7 ⊢;obtain ⟨m',hm,w7⟩:=q7;obtain ⟨J1,J2,J3⟩:=back I7;exact ⟨m',hm,i+1,ys,σ6,H7,J1,J2,J3,w7⟩
     | true =>
       rw [if_pos rfl] at q7 ⊢;refine bh (he _ _ _ _ _ s7 σ6 H7 _ I7 q7) fun y s8 yv H8 I8 r8 ⟨hp8,hl8,m',hm,w8⟩=>?_;refine thn (cG _ s8 σ6 H8 (.ref s2.heap.objs.size) [yv] _ [y] (fun v' H'=>W (i+1) m' (ys++[yv]) σ6 H') I8 rfl (.cons r8 .nil) ⟨_,ys,yv,rfl,rfl,hp8,hl8,w8⟩) fun v9 s9 ⟨_,H9,I9,_,w9⟩=>?_;obtain ⟨J1,J2,J3⟩:=back I9;exact ⟨m',hm,i+1,ys++[yv],σ6,H9,J1,J2,J3,w9⟩
 exact codeAny_compStart_list (loop _ rfl) (Tn.self _ 0 _ _ _ st₁ (loop _ rfl))
end
end L2
set_option Elab.async false
set_option linter.all false
set_option maxRecDepth 100000
namespace L2
open PySem PySem.Spec PyProof.Rows
end L2
set_option Elab.async false
set_option linter.all false
set_option maxRecDepth 100000
namespace Pb
open L2 PySem
variable {m:Int} {rs:List Road} {r:Int} {par:Int->Int} {dep:Int->Nat}
end Pb
set_option Elab.async false
set_option linter.all false
set_option maxRecDepth 100000
namespace L2
open PySem PySem.Spec PyProof.Rows
def Itv (K:PySem.W.Frag) (a:Addr) (n:Nat):It :=
 ⟨fun i H=>i<n/\∃ xs x,SqL K H a xs/\xs[n - 1 - i]?=some x,fun i H x H'=>H'=H/\∀ xs,SqL K H a xs->xs[n - 1 - i]?=some x,fun i H=>n<=i⟩
def Jm (K:PySem.W.Frag) (tl:TE):TI:=fun σ H R=>tl σ H fun x H1=>∃ a xs,x=.ref a/\SqL K H1 a xs/\R (Itv K a xs.length) H1
section
variable {X:Cx} {tg e:Expr} {te:TE} {p2 pos:Pos}
end
end L2
set_option Elab.async false
set_option linter.all false
set_option maxRecDepth 100000
namespace L2
open PySem PySem.Spec PyProof.Rows
def E1 (te:TE):TE:=fun σ H Q=>te σ H fun x H1=>∃ i,x=.int i/\0<=i/\i<=100000/\∀ l,H1 l=none->Q (.ref l) (upd H1 l (.lst ((Pb.below i.toNat).map V.int)))
section
variable {X:Cx} {e:Expr} {te:TE} {p1 p2 pos pos2:Pos}
end
end L2
set_option Elab.async false
set_option linter.all false
set_option maxRecDepth 100000
namespace L2
open PySem PySem.Spec PyProof.Rows PySem.W
section
variable {X:Cx}
end
end L2
set_option Elab.async false
set_option linter.all false
set_option maxRecDepth 100000
namespace L2
open PySem PySem.Spec PyProof.Rows
section
variable {X:Cx}
end
theorem Eb {H:Hp} {l:Addr} {xs:List V} {i:Int} {v:V} {Q:Hp->Prop} (h:H l=some (.lst xs)) (i0:0<=i) (i1:i<xs.length) (q:Q (upd H l (.lst (xs.set i.toNat v)))):rSetL (.ref l) (.int i) v H Q :=
 ⟨l,xs,i,i.toNat,rfl,rfl,h,by unfold ixN;rw [if_pos i0,if_pos (by omega)],q⟩
theorem atG {xs:List Int} {i:Int} (i0:0<=i) (i1:i<xs.length):atI (xs.map V.int) i=some (.int (xs.getD i.toNat 0)):=cV i0 (by
 have h:i.toNat<xs.length:=by omega
 rw [List.getElem?_map,List.getElem?_eq_getElem h];simp [List.getD,h])
end L2
set_option Elab.async false
set_option linter.all false
set_option maxRecDepth 100000
namespace Pb
open L2
section
variable {m:Int} {rs:List Road} {r:Int} {par:Int->Int} {dep:Int->Nat}
variable {held:Int->Int} {con:Int->Int->Int}
end
end Pb
set_option Elab.async false
set_option linter.all false
set_option maxRecDepth 100000
namespace Pb
open L2
section
variable {m:Int} {rs:List Road} {r:Int} {par:Int->Int} {dep:Int->Nat} {held:Int->Int}
end
section
open PySem
end
end Pb
set_option Elab.async false
set_option linter.all false
set_option maxRecDepth 100000
namespace L2
open PySem PySem.Spec PyProof.Rows
def yf (xs:List Int) (lo hi:Option Int):List Int:=(xs.drop (HT.sIx xs.length 0 lo)).take (HT.sIx xs.length xs.length hi - HT.sIx xs.length 0 lo)
theorem FR (xs:List Int) (lo hi:Option Int):lV (xs.map V.int) lo hi=(yf xs lo hi).map V.int:=by
 unfold lV yf;rw [List.length_map,List.map_take,List.map_drop]
theorem GP (xs:List Int) (lo hi:Option Int):(yf xs lo hi).length<=xs.length:=by
 unfold yf;rw [List.length_take,List.length_drop];omega
theorem slI {K:PySem.W.Frag} {H:Hp} {a:Addr} {xs:List Int} {lo hi:Option Int} {Q:VK} (h:SqL K H a (xs.map V.int)) (q:∀ p,H p=none->Q (.ref p) (upd H p (.lst ((yf xs lo hi).map V.int)))):IV K (.ref a) lo hi H Q :=
 ⟨a,_,rfl,h,fun p hp=>by rw [FR];exact q p hp⟩
end L2
set_option Elab.async false
set_option linter.all false
set_option maxRecDepth 100000
namespace L2
open PySem PySem.Spec PyProof.Rows
def KA (lo st:Int) (n:Nat):It:=⟨fun i _=>i<n,fun i H x H'=>H'=H/\x=.int (lo+i*st),fun i _=>n<=i⟩
def Hm (ta:TA):TI:=fun σ H R=>ta σ H fun vs H1=>∃ i j c:Int,vs=[.int i,.int j,.int c]/\(0<=i/\i<=1000000/\0<=j/\j<=1000000/\0<c/\c<=1000000)/\R (KA i c (Builtin.Range.rangeSize i j c).toNat) H1
section
variable {X:Cx} {tg:Expr}
end
end L2
set_option Elab.async false
set_option linter.all false
set_option maxRecDepth 100000
namespace L2
open PySem PySem.Spec PyProof.Rows
theorem IC {c:Prop} [Decidable c] {A B:Prop} {P:Int->Prop} (m1 m2:Int) (hB:P m2->B) (hA:P m1->A) (h:∀ m,(m=m1\/m=m2)->P m):if c then A else B:=by
 by_cases z:c
 . rw [if_pos z];exact hA (h _ (.inl rfl))
 . rw [if_neg z];exact hB (h _ (.inr rfl))
end L2
namespace Pb
open L2 PySem
theorem Cy {α β:Type} {R:α->β->Prop}:∀ (n:Nat) {l₁:List α} {l₂:List β},Paired R l₁ l₂->Paired R (l₁.take n) (l₂.take n)
 | 0,_,_,_=>by rw [List.take_zero,List.take_zero];exact .nil
 | _+1,_,_,.nil=>.nil
 | n+1,_,_,.cons x xs=>.cons x (Cy n xs)
theorem Cm {α β:Type} {R:α->β->Prop}:∀ (n:Nat) {l₁:List α} {l₂:List β},Paired R l₁ l₂->Paired R (l₁.drop n) (l₂.drop n)
 | 0,_,_,h=>h
 | _+1,_,_,.nil=>.nil
 | n+1,_,_,.cons x xs=>Cm n xs
theorem wT {α β:Type} {R:α->β->Prop} {k₁:List α} {k₂:List β} (h:Paired R k₁ k₂):∀ {l₁:List α} {l₂:List β},Paired R l₁ l₂->Paired R (l₁++k₁) (l₂++k₂)
 | _,_,.nil=>h
 | _,_,.cons x xs=>.cons x (wT h xs)
theorem IW {α β:Type} {R:α->β->Prop} {ps:List α} {rs:List β} {q:α} {r:β} (n:Nat) (h:Paired R ps rs) (e:R q r):Paired R (ps.take n++q::ps.drop n) (rs.take n++r::rs.drop n):=wT (.cons e (Cm n h)) (Cy n h)
theorem ES {n:Nat} {rows:List Row} {row:Row} (R:Rows n rows) (k:row.k=(n:Int)+1) (ok:RowOk row):Rows (n+1) (rows++[row]):=by
 have rl:=R.len;refine ⟨by rw [List.length_append,rl];rfl,fun j r hj=>?_⟩;by_cases hjl:j<rows.length
 . rw [List.getElem?_append_left hjl] at hj;exact R.ok j r hj
 . have hj2:j=rows.length:=by
     have:=(List.getElem?_eq_some_iff.mp hj).1;rw [List.length_append] at this;simp at this;omega
   rw [hj2,List.getElem?_append_right (Nat.le_refl _),Nat.sub_self] at hj;cases hj;exact ⟨by rw [hj2,rl];exact k,ok⟩
section
variable {m:Int} {rs:List Road} {r:Int} {par:Int->Int} {dep:Int->Nat}
end
def dRd (r:Road):PyData:=.tuple [.int r.a,.int r.b,.int r.t,.int r.u]
theorem nO {K:PySem.W.Frag} {H:Hp}:∀ {ps:List Addr} {rs:List Road},Paired (fun p r=>H p=some (HO.tup [V.int r.a,V.int r.b,V.int r.t,V.int r.u])) ps rs->DeepAll K H (ps.map V.ref) (rs.map dRd)
 | _,_,.nil=>.nil
 | _,_,.cons x xs=>.cons (.tup (SqT.of x) (.cons (.int _) (.cons (.int _) (.cons (.int _) (.cons (.int _) .nil))))) (nO xs)
theorem xR:∀ rs:List Road,PyData.eqvAll (rs.map dRd) (rs.map dRd)=true
 | []=>by simp [PyData.eqvAll]
 | r::rs=>by
   rw [List.map_cons];simp only [PyData.eqvAll];rw [xR rs];simp [dRd,PyData.eqv,PyData.eqvAll]
theorem sZ:∀ rs:List Road,PyData.depthAll (rs.map dRd)<=1
 | []=>by simp [PyData.depthAll]
 | r::rs=>by
   rw [List.map_cons];simp only [PyData.depthAll];have:=sZ rs;have h:(dRd r).depth<=1:=by simp [dRd,PyData.depth,PyData.depthAll]
   omega
end Pb
set_option Elab.async false
set_option linter.all false
set_option maxRecDepth 100000
namespace L2
open PySem PySem.Spec PyProof.Rows
section
variable {P:Program} {w:World} {A:Around} {E:Value->Shared->Prop} {s:Shared} {l:Addr} {ob:Obj} {src:Heap->Array Value->Prop} {at':Addr->Nat->Heap->Prop}
end
def Ite (K:PySem.W.Frag) (c:Bool) (a:Addr):It :=
 ⟨fun i H=>∃ xs x,SqX K c H a xs/\xs[i]?=some x,
  fun i H v H'=>∃ p x,H p=none/\v=.ref p/\H'=upd H p (.tup [.int i,x])/\∀ xs,SqX K c H a xs->xs[i]?=some x,
  fun i H=>∃ xs,SqX K c H a xs/\xs.length=i⟩
def HC (K:PySem.W.Frag) (c:Bool) (tl:TE):TI:=fun σ H R=>tl σ H fun x H1=>∃ a,x=.ref a/\(∃ xs,SqX K c H1 a xs)/\R (Ite K c a) H1
section
variable {X:Cx} {e:Expr} {te:TE} {p2 pos:Pos}
end
end L2
set_option Elab.async false
set_option linter.all false
set_option maxRecDepth 100000
namespace Pb
open L2 PySem
end Pb
namespace L2
open PySem PySem.Spec PyProof.Rows
def HG (i j k:Nat) (ta:TA):TS:=fun D σ H=>ta σ H fun vs H1=>∃ v w z,vs=[v,w,z]/\D.nx (((σ.set i (some v)).set j (some w)).set k (some z)) H1
end L2
set_option Elab.async false
set_option linter.all false
set_option maxRecDepth 100000
namespace Pb
open L2
section
variable {m:Int} {rs:List Road} {r:Int} {par:Int->Int} {dep:Int->Nat} {held held':Int->Int} {con:Int->Int->Int}
end
end Pb
set_option Elab.async false
set_option linter.all false
set_option maxRecDepth 100000
namespace L2
open PySem PySem.Spec PyProof.Rows
theorem Jn (zs:List V) {k:Int} (k0:0<=k):lV zs none (some k)=zs.take k.toNat:=by
 unfold lV;have e1:HT.sIx zs.length 0 none=0:=rfl;have e2:HT.sIx zs.length zs.length (some k)=min k.toNat zs.length:=by
   show (if k<0 then (k+(zs.length:Int)).toNat else min k.toNat zs.length)=_;rw [if_neg (by omega)]
 rw [e1,e2,List.drop_zero,Nat.sub_zero,List.take_eq_take_iff];omega
theorem A4 (zs:List V) {k:Int} (k0:0<=k):lV zs (some k) none=zs.drop k.toNat:=by
 unfold lV;have e1:HT.sIx zs.length zs.length none=zs.length:=rfl;have e2:HT.sIx zs.length 0 (some k)=min k.toNat zs.length:=by
   show (if k<0 then (k+(zs.length:Int)).toNat else min k.toNat zs.length)=_;rw [if_neg (by omega)]
 rw [e1,e2,List.take_of_length_le (by rw [List.length_drop];omega)];by_cases c:k.toNat<=zs.length
 . rw [Nat.min_eq_left c]
 . rw [Nat.min_eq_right (by omega),List.drop_of_length_le (Nat.le_refl _),List.drop_of_length_le (by omega)]
end L2
namespace Pb
open L2 PySem
end Pb
set_option Elab.async false
set_option linter.all false
set_option maxRecDepth 100000
namespace Pb
open L2 PySem
section
variable {m:Int} {rs:List Road}
end
end Pb
set_option Elab.async false
set_option linter.all false
set_option maxRecDepth 100000
namespace L2
open PySem PySem.Spec PyProof.Rows
section
variable {X:Cx} {i o:Expr} {ty td:TE}
def Hw (ty td:TE):TE:=fun σ H Q=>ty σ H fun y H1=>td σ H1 fun x H2=>∃ a,x=.ref a/\((∃ o,DGet H2 a y o/\Q (.bl o.isSome) H2)\/(y=.non/\(∃ kvs,H2 a=some (.dK kvs))/\Q (.bl false) H2))
end
end L2
set_option Elab.async false
set_option linter.all false
set_option maxRecDepth 100000
namespace Pb
open L2 PySem
section
variable {m:Int} {rs:List Road} {r b:Int} {par:Int->Int} {dep:Int->Nat}
end
end Pb
namespace L2
theorem bW {A B:TS} {D:Ends} {σ:St} {H:Hp} (h:∀ N:St->Hp->Prop,(∀ σ' H',B D σ' H'->N σ' H')->A { D with nx:=N } σ H):DU A B D σ H:=h (B D) fun _ _ z=>z
end L2
set_option Elab.async false
set_option linter.all false
set_option maxRecDepth 100000
namespace L2
open PySem
theorem lx {K:PySem.W.Frag} {a:Addr} {xs:List V} {g:TG} {tb:TS} {D:Ends} {σ:St} {H:Hp} (Pv:Nat->St->Hp->Prop) (h0:Pv 0 σ H) (hl:∀ i σ H,i<=xs.length->Pv i σ H->SqL K H a xs)
   (hs:∀ (i:Nat) (x:V) (σ:St) (H:Hp) (N B:St->Hp->Prop),(∀ σ H,(g x σ H fun σ2 H2=>tb { D with nx:=N,ct:=N,bk:=D.nx } σ2 H2)->B σ H)->(∀ σ' H',Pv (i+1) σ' H'->N σ' H')->xs[i]?=some x->Pv i σ H->B σ H)
   (hd:∀ (B:St->Hp->Prop) σ H,(∀ σ H,D.nx σ H->B σ H)->Pv xs.length σ H->B σ H):ou (Itl K a) D g tb σ H :=
 yP Pv h0 hl (fun i x σ H N hN hx p=>hs i x σ H N (fun σ H=>g x σ H fun σ2 H2=>tb { D with nx:=N,ct:=N,bk:=D.nx } σ2 H2) (fun _ _ z=>z) hN hx p) fun σ H p=>hd (fun σ H=>D.nx σ H) σ H (fun _ _ z=>z) p
theorem C9 {lo:Int} {n:Nat} {g:TG} {tb:TS} {D:Ends} {σ:St} {H:Hp} (Pv:Nat->St->Hp->Prop) (h0:Pv 0 σ H)
   (hs:∀ (i:Nat) (σ:St) (H:Hp) (N B:St->Hp->Prop),(∀ σ H,(g (.int (lo+i)) σ H fun σ2 H2=>tb { D with nx:=N,ct:=N,bk:=D.nx } σ2 H2)->B σ H)->(∀ σ' H',Pv (i+1) σ' H'->N σ' H')->i<n->Pv i σ H->B σ H)
   (hd:∀ (B:St->Hp->Prop) σ H,(∀ σ H,D.nx σ H->B σ H)->Pv n σ H->B σ H):ou (Itr lo n) D g tb σ H :=
 mB Pv h0 (fun i σ H N hN hi p=>hs i σ H N (fun σ H=>g (.int (lo+i)) σ H fun σ2 H2=>tb { D with nx:=N,ct:=N,bk:=D.nx } σ2 H2) (fun _ _ z=>z) hN hi p) fun σ H p=>hd (fun σ H=>D.nx σ H) σ H (fun _ _ z=>z) p
end L2
set_option Elab.async false
set_option linter.all false
set_option maxRecDepth 100000
namespace Pb
open L2 PySem
section
variable {m:Int} {rs:List Road} {r:Int} {par:Int->Int} {dep:Int->Nat}
variable {para parb parc:Int->Int} {depa depb depc:Int->Nat} {a b c:Int}
end
section
variable {m:Int} {rs:List Road} {r b:Int} {par:Int->Int} {dep:Int->Nat}
end
end Pb
set_option Elab.async false
set_option linter.all false
set_option maxRecDepth 100000
namespace Pb
open L2 PySem
section
variable {m:Int} {rs:List Road} {r b:Int} {par:Int->Int} {dep:Int->Nat}
end
end Pb
set_option Elab.async false
set_option linter.all false
namespace L2
open PySem
def Kj (_ j:Int):Prop:=0<j/\j.natAbs.log2<9000
theorem FX {X:Cx}:OpR X (binaryOp .FloorDiv) (rI Kj fun i j=>.int (i / j)):=opI fun i j _ _ _ _ _ hc q=>by
 have h1:(0:Int)<j:=hc.1;exact PyProof.Rows.floordiv_int (by omega) (by rw [Int.fdiv_eq_ediv_of_nonneg i (by omega)];exact q) (.inl (PyProof.noPylong_of_log2 hc.2))
end L2
namespace Pb
open PySem L2
end Pb
set_option Elab.async false
set_option linter.all false
set_option maxRecDepth 100000
set_option exponentiation.threshold 5000
namespace Pb
open L2 PySem
section
variable {m:Int} {rs:List Road} {r:Int} {par:Int->Int} {dep:Int->Nat}
variable {op:Int->Int->Int} {held:Int->Int} {con:Int->Int->Int}
end
end Pb
set_option Elab.async false
set_option linter.all false
set_option maxRecDepth 100000
namespace L2
open PySem PySem.Spec PyProof.Rows
section
variable {X:Cx}
end
end L2
namespace Pb
end Pb
set_option Elab.async false
set_option linter.all false
set_option maxRecDepth 100000
namespace L2
open PySem PySem.Spec PyProof.Rows
theorem fH {l:List Addr} (h:l.Nodup) (i j:Nat) {a b:Addr} (hi:l[i]?=some a) (hj:l[j]?=some b) (ij:i≠j):a≠b:=fun z=>by
 subst z;obtain ⟨h1,e1⟩:=List.getElem?_eq_some_iff.mp hi;obtain ⟨h2,e2⟩:=List.getElem?_eq_some_iff.mp hj;rcases Nat.lt_or_gt_of_ne ij with q|q
 . exact List.pairwise_iff_getElem.mp h i j h1 h2 q (e1.trans e2.symm)
 . exact List.pairwise_iff_getElem.mp h j i h2 h1 q (e2.trans e1.symm)
inductive ClsAll (K:PySem.W.Frag) (C:Addr):List V->List Bool->Prop
 | nil:ClsAll K C [] []
 | cons {cv:V} {b:Bool} {cvs:List V} {bs:List Bool} (h:A5 K C cv b) (t:ClsAll K C cvs bs):ClsAll K C (cv::cvs) (b::bs)
theorem Cs {K:PySem.W.Frag} {C:Addr} (c:XCls K C):∀ {cvs:List V} {us:List Value} {bs:List Bool},Vals cvs us->ClsAll K C cvs bs->PySem.W.kitAny K (.ref C) us=some (bs.any id)
 | _,_,_,.nil,.nil=>rfl
 | _,_,_,.cons r t,.cons (b:=true) h hs=>by
   unfold PySem.W.kitAny;rw [xZ c r h]
   rfl
 | _,_,_,.cons r t,.cons (b:=false) h hs=>by
   unfold PySem.W.kitAny;rw [xZ c r h];have h2:=Cs c t hs;exact h2
def Hv (K:PySem.W.Frag):List V->Hp->VK->Prop:=fun xs H Q=>∃ ea C od tp cvs bs,xs=[.ref ea,.ref tp]/\H ea=some (ExO ea (.ref C) od)/\wx H od/\XCls K C/\H tp=some (.tup cvs)/\ClsAll K C cvs bs/\Q (.bl (bs.any id)) H
section
variable {X:Cx}
theorem Fb:dI X (.builtin "isinstance") (Hv X.K):=by
 intro pins s σ H xs us Q I r h;obtain ⟨ea,C,od,tp,cvs,bs,rfl,he,hd,c,ht,hk,q⟩:=h;obtain ⟨u,cu,rfl,ru,rc⟩:=wp r;cases (show u=Value.ref ea from ru);cases (show cu=Value.ref tp from rc);obtain ⟨ox,oo,ia⟩:=Al I he hd;obtain ⟨its,rv,⟨⟨oc,odd,dat,sl⟩,e,e1,n,e2⟩,_⟩:=I.tuple (SqT.of ht);cases e1;cases e2;exact PySem.W.kia_tup (Ad (x:=ea) (ox:=ox) (od:=oo) c) I.kIn ia e (Cs c rv hk) (fun z=>nomatch z) fun tk=>⟨.bl (bs.any id),H,I.tok tk,rfl,q⟩
theorem Bc:bootBuiltins "str"=some (.type "str"):=by decide +kernel
end
end L2
set_option Elab.async false
set_option linter.all false
set_option maxRecDepth 100000
namespace L2
open PySem PySem.Spec PyProof.Rows
section
variable {P:Program} {w:World} {A:Around} {R:Result->Shared->Prop} {I S:Addr} {fp wr:List Addr} {n:Nat} {Pv:Nat->Value->Prop} {St:Nat->Heap->Prop} {bt:Nat->Nat->Bool} {kw:List (Str × Value)}
end
section
variable {X:Cx} {x:Str} {p pos kpos:Pos} {e de:Expr} {t tk:TA}
def HA (K:PySem.W.Frag) (t tk:TA):TE:=fun σ H Q=>t σ H fun vs H1=>tk σ H1 fun zs H2=>∃ (q:Addr) (ns:List Int) (d:V),vs=[.ref q]/\zs=[d]/\SqL K H2 q (ns.map V.int)/\ns≠[]/\∀ y,y∈ns->(∀ x∈ns,y<=x)->Q (.int y) H2
def HE (t:TE):TE:=fun σ H Q=>t σ H fun x H1=>∃ b,x=.bl b/\Q (.bl (b != true)) H1
end
end L2
set_option Elab.async false
set_option linter.all false
set_option maxRecDepth 100000
namespace Pb
open L2 PySem
section
variable {m:Int} {rs:List Road} {r:Int} {par:Int->Int} {dep:Int->Nat}
variable {ch:Int->Option Int} {w:Int} {cn:Int->Int}
end
end Pb
set_option Elab.async false
set_option linter.all false
set_option maxRecDepth 100000
namespace L2
open PySem PySem.Spec PyProof.Rows PySem.W
section
variable {n:Nat}
variable (hn:0<n)
include hn
end
section
variable {prog:Program} {w:World} {A:Around} {E:Value->Shared->Prop} {s:Shared}
end
end L2
set_option Elab.async false
set_option linter.all false
set_option maxRecDepth 100000
namespace L2
open PySem PySem.Spec PyProof.Rows PySem.W Pb
section
variable {prog:Program} {w:World} {A:Around} {E:Value->Shared->Prop} {s:Shared} {it d:Addr} {i ep:Nat} {es:Array DictEntry}
end
section
variable {prog:Program} {w:World} {A:Around} {E:Value->Shared->Prop} {s:Shared} {fin:Bool} {C:Bool->Shared->Prop}
end
section
variable {prog:Program} {w:World} {A:Around} {E:Value->Shared->Prop} {s:Shared}
end
section
variable {X:Cx}
end
end L2
set_option Elab.async false
set_option linter.all false
set_option maxRecDepth 100000
namespace L2
end L2
namespace Pb
open L2 PySem
section
variable {m:Int} {rs:List Road} {r:Int} {par:Int->Int} {dep:Int->Nat}
end
section
end
end Pb
set_option Elab.async false
set_option linter.all false
set_option maxRecDepth 100000
namespace L2
open PySem PySem.Spec PyProof.Rows
def EW (tk tv:TE):TE:=fun σ H Q=>∀ p,H p=none->qc [(tk,tv)] σ (upd H p (.dT [])) fun ps H2=>H2 p=some (.dT [])/\∃ (k:List Key) (b:Addr) (y:V),ps=[(.ref b,y)]/\H2 b=some (.tup (k.map kV))/\Q (.ref p) (upd H2 p (.dT [(k,y)]))
end L2
set_option Elab.async false
set_option linter.all false
set_option maxRecDepth 100000
namespace Pb
open L2 PySem
end Pb
namespace Pb
open L2 PySem
section
variable {m:Int} {rs:List Road} {xs:List Int}
variable {r:Int} {par:Int->Int} {dep:Int->Nat}
end
end Pb
set_option Elab.async false
set_option linter.all false
set_option maxRecDepth 100000
namespace L2
open PySem PySem.Spec PyProof.Rows Pb
section
variable {X:Cx}
end
end L2
set_option Elab.async false
set_option linter.all false
set_option maxRecDepth 100000
namespace L2
open PySem PySem.Spec PyProof.Rows
end L2
namespace Pb
end Pb
namespace L2
open PySem Pb
end L2
namespace L2
open PySem
end L2
namespace L2
open PySem
end L2
namespace L2
open PySem PySem.Spec PyProof.Rows Pb
end L2
namespace L2
open PySem
end L2
set_option Elab.async false
set_option linter.all false
set_option maxRecDepth 100000
namespace Pb
open L2 PySem
section
variable {m:Int} {rs:List Road} {r:Int} {par:Int->Int} {dep:Int->Nat}
end
section
variable {m:Int} {rs:List Road} {xs:List Int}
end
end Pb
set_option Elab.async false
set_option linter.all false
set_option maxRecDepth 100000
namespace L2
open PySem PySem.Spec PyProof.Rows PySem.W Pb
section
variable {X:Cx} {pins:List (Addr × Obj)} {σ:St} {H:Hp} {s:Shared}
end
def Itd (d:Addr) (o:Obj) (kvs:List (List Key × V)):It :=
 ⟨fun i H=>H d=some (.frz o (.dT kvs))/\i<kvs.length,fun i H x H'=>H'=H/\∃ (q:Addr) (k:List Key) (v:V),x=.ref q/\kvs[i]?=some (k,v)/\H q=some (.tup (k.map kV)),fun i H=>H d=some (.frz o (.dT kvs))/\i=kvs.length⟩
def HI (tl:TE) (g:TG) (tb:TS):TS:=fun D σ H=>tl σ H fun x H1=>∃ (d:Addr) (kvs:List (List Key × V)),x=.ref d/\H1 d=some (.dT kvs) /\
 ∀ o,ou (Itd d o kvs) { D with nx:=fun σ' H'=>H' d=some (.frz o (.dT kvs))/\D.nx σ' (upd H' d (.dT kvs)) } g tb σ (upd H1 d (.frz o (.dT kvs)))
section
variable {X:Cx} {tg:Expr}
end
end L2
set_option Elab.async false
set_option linter.all false
set_option maxRecDepth 100000
namespace Pb
open L2 PySem
section
variable {α β:Type}
end
section
variable {m:Int} {rs:List Road} {r:Int} {par:Int->Int} {dep:Int->Nat}
end
end Pb
namespace Pb
open L2 PySem
section
variable {m:Int} {rs:List Road} {r:Int} {par:Int->Int} {dep:Int->Nat} {to:Bool}
end
end Pb
namespace Pb
open L2 PySem
end Pb
namespace Pb
open L2 PySem
end Pb
set_option Elab.async false
set_option linter.all false
set_option maxRecDepth 100000
namespace L2
open PySem PySem.Spec PyProof.Rows
section
variable {X:Cx} {cx:Str} {Nc:List Str} {own:Nat} {js:List Nat} {scope:Scope} {cl:List (Str × Addr)}
end
section
variable {X:Cx} {cx:Str} {Nc:List Str} {own:Nat} {js:List Nat} {scope:Scope} {cl:List (Str × Addr)}
end
end L2
set_option Elab.async false
set_option linter.all false
set_option maxRecDepth 100000
namespace L2
open PySem PySem.Spec PyProof.Rows PySem.W
section
variable {X:Cx}
theorem A9:∀ {ys:List Str} {its:List Value},Vals (ys.map V.str) its->StrsAre its ys
 | [],_,.nil=>.nil
 | y::ys,_,.cons h r=>by
   obtain ⟨t,rfl⟩:=h;exact .cons y t (A9 r)
def HF (K:PySem.W.Frag):V->List V->Hp->VK->Prop:=fun x vs H Q=>∃ z l ys,x=.str z/\vs=[.ref l]/\SqL K H l (ys.map V.str)/\(ys.map (·.length)).sum+ys.length*z.length<=16777216/\Q (.str (Str.join z ys)) H
theorem qe:MtM X "str.join" (HF X.K):=by
 intro pins s σ H x vs v us Q I rx rv h;obtain ⟨z,l,ys,rfl,rfl,hl,hok,q⟩:=h;obtain ⟨t,rfl⟩:=rx;obtain ⟨u,rfl,rl⟩:=iP rv;cases rl;obtain ⟨its,r,pl,hz⟩:=I.list hl;refine join_list pl.isList (by simpa using A9 r) hok fun t' k=>⟨.str _,H,I.tok _,⟨_,rfl⟩,?_⟩;unfold Txt.join;rw [StrLaws.glued_eq_join];exact q
theorem yk:∀ l:List (Str × Tok),Vals ((l.map (·.1)).map V.str) (strValues l)
 | []=>.nil
 | (y,t)::l=>.cons ⟨t,rfl⟩ (yk l)
theorem fo:MtM X "str.split" (fun x vs H Q=>∃ z y,x=.str z/\vs=[.str y]/\(y.length == 0)=false/\z.length<=60000/\∀ l,H l=none->Q (.ref l) (upd H l (.lst ((Txt.split z y).map V.str)))):=by
 intro pins s σ H x vs v us Q I rx rv h;obtain ⟨z,y,rfl,rfl,hy,hz,q⟩:=h;obtain ⟨t,rfl⟩:=rx;obtain ⟨u',rfl,u,rfl⟩:=iP rv;have hsz:z.length<=sizeLine:=Nat.le_trans hz (by decide);have fin:∀ (l:List (Str × Tok)) (k:Nat),l.map (·.1)=Txt.split z y->l.length<=sizeLine->EP X pins σ Q (.ref s.heap.objs.size) { s with toks:=k,heap:=s.heap.push { cls:=.type "list",data:=.seq (strValues l).toArray } }:=fun l k e hl=>by
   refine ⟨.ref s.heap.objs.size,_,I.laid (a:=s.heap.objs.size) (o:=.lst ((Txt.split z y).map V.str)) (t':=k) (fun b u e=>Heap.get?_push_of_some _ e) (Nat.le_refl _) ⟨?_,strValues l,_,?_,Heap.get?_push_size _ rfl⟩,rfl,q _ (I.hok.fresh (Nat.le_refl _))⟩
   . rw [List.length_map,<- e,List.length_map];exact hl
   . rw [<- e];exact yk l
 have sl:(Txt.split z y).length<=sizeLine:=Nat.le_trans (split_le z y) (Nat.le_trans (Nat.add_le_add_right hz 2) (by decide));have ln:∀ {l:List (Str × Tok)},l.map (·.1)=Txt.split z y->l.length<=sizeLine:=fun {l} e=>by
   have:=congrArg List.length e;rw [List.length_map] at this;rw [this];exact sl
 cases h1:(decide (z.length<y.length) || decide (Builtin.Str.strKind z<Builtin.Str.strKind y))
 . cases hf:(Builtin.Str.occurrences z y 0 z.length (z.length+1)).isEmpty
   . have es:Txt.split z y=Builtin.Str.partsBetween z (Builtin.Str.occurrences z y 0 z.length (z.length+1)) y.length:=by
       unfold Txt.split;rw [if_neg (ne_true_of_eq_false h1),if_neg (ne_true_of_eq_false hf)]
     refine call_meets F.slot_str_split (typeIs_str _ _ _) F.entry_str_split (F.args_str_split_2 _ _) (meets_str_split_sep z y t u h1 hy hf hsz (by rw [<- es];exact sl)) ?_;show wants _ _ _ { s with toks:=_,heap:=s.heap.push { cls:=.type "list",data:=.seq (strsFrom s.toks (Builtin.Str.partsBetween z (Builtin.Str.occurrences z y 0 z.length (z.length+1)) y.length)).toArray } };rw [strsFrom_eq];have e:(numbered s.toks (Builtin.Str.partsBetween z (Builtin.Str.occurrences z y 0 z.length (z.length+1)) y.length)).map (·.1)=Txt.split z y:=(numbered_texts _ _).trans es.symm;exact fin _ _ e (ln e)
   . have e:[(z,t)].map (·.1)=Txt.split z y:=by
       unfold Txt.split;rw [if_neg (ne_true_of_eq_false h1),if_pos hf]
       rfl
     exact call_meets F.slot_str_split (typeIs_str _ _ _) F.entry_str_split (F.args_str_split_2 _ _) (meets_str_split_not_found z y t u h1 hy hf) (fin [(z,t)] s.toks e (ln e))
 . have e:[(z,t)].map (·.1)=Txt.split z y:=by
     unfold Txt.split;rw [if_pos h1]
     rfl
   exact call_meets F.slot_str_split (typeIs_str _ _ _) F.entry_str_split (F.args_str_split_2 _ _) (meets_str_split_cannot_occur z y t u h1) (fin [(z,t)] s.toks e (ln e))
theorem E4:dI X (.type "int") (fun xs H Q=>∃ z i,xs=[.str z]/\PySem.intText? z=some i/\z.length<=640/\Q (.int i) H):=by
 intro pins s σ H xs us Q I r h;obtain ⟨z,i,rfl,hi,hl,q⟩:=h;obtain ⟨u,rfl,t,rfl⟩:=iP r;exact KIN.call_text hi hl ⟨.int i,H,I.tok _,⟨_,rfl⟩,q⟩
end
def Its (z:Str):It:=⟨fun i _=>i<z.cps.size,fun i H x H'=>H'=H/\∃ c,z.cps[i]?=some c/\x=.str ⟨#[c]⟩,fun i _=>z.cps.size<=i⟩
theorem FA {P:Program} {w:World} {K:PySem.W.Frag} {tg:Expr} (it:Addr) (z:Str) (t:Tok):Turn P w K tg (Its z) [it] it (fun i h=>h.IsStrIter it "str_ascii_iterator" z t i) where
 mem:=by simp
 obj:=fun i h st b hb=>by
   have e:b=it:=by simpa using hb
   subst e;obtain ⟨o,e,c,d⟩:=st;exact ⟨o,e,fun v z=>by rw [d] at z;cases z⟩
 keep:=fun i h h' st k=>let ⟨o,ho,r⟩:=st;⟨o,k it (by simp) o ho,r⟩
 item:=by
   intro X hP hw hK hc i pins s σ H E I hf st hg;subst hP hw hK;have hg:i<z.cps.size:=hg;obtain ⟨f0,f1,f2,f3,f4,f5⟩:=hf it (by simp);refine wpAny_pyNext_ascii_item st (c:=z.cps[i]) (by simp [hg]) fun h' st' sb=>?_;have I1:Inv X pins σ H { s with heap:=h',toks:=s.toks+1 }:=I.turned (t':=s.toks+1) (fun b o hb e=>(sb.2 b hb).trans e) f0 f1 f3 f4 f5;obtain ⟨o,e,c,d⟩:=id st';exact ⟨_,rfl,zX (s:={ s with heap:=h',toks:=s.toks+1 }) e c d (by decide) ⟨.str ⟨#[z.cps[i]]⟩,H,I1,⟨_,rfl⟩,⟨rfl,_,by simp [hg],rfl⟩,st',fun b hb=>(hf b hb).1⟩⟩
 done:=by
   intro X hP hw hK hc i pins s σ H E I hf st hg;subst hP hw hK;have hg:z.cps.size<=i:=hg;obtain ⟨f0,f1,f2,f3,f4,f5⟩:=hf it (by simp);exact wpAny_pyNext_ascii_end (I.ok.hd hc) st (by simp [hg]) fun h' eb=>⟨rfl,I.turned (t':=s.toks) (fun b o hb e=>eb b o hb e) f0 f1 f3 f4 f5⟩
 self:=fun _ _ _ _ _ st h=>wpAny_pyIter_striter_ascii st h
section
variable {X:Cx} {tg:Expr}
def Gd (tl:TE):TI:=fun σ H R=>tl σ H fun x H1=>∃ z,x=.str z/\z.cps.all (·<128)=true/\R (Its z) H1
theorem EC {l:Expr} {tl:TE} (hl:PE X l tl):PI X tg l (Gd tl):=by
 intro pins s σ H R I h;refine bh (hl pins s σ H _ I h) fun v s1 x H1 I1 r1 q1=>?_;obtain ⟨z,e,ha,q⟩:=q1;subst e;obtain ⟨t,rfl⟩:=r1;refine wpAny_pyIter_ascii ha ?_;refine ⟨s1.heap.objs.size,[s1.heap.objs.size],_,_,H1,rfl,I1.kept (t':=s1.toks) fun b o e=>Heap.get?_push_of_some _ e,FA _ z t,⟨_,Heap.get?_push_size _ rfl,rfl,rfl⟩,fun b hb=>?_,q⟩;have e:b=s1.heap.objs.size:=by simpa using hb
 subst e;exact I1.fpOk (Nat.le_refl _) (I1.hok.fresh (Nat.le_refl _))
end
section
variable {P:Program} {w:World} {A:Around} {E:Value->Shared->Prop} {s:Shared}
end
section
variable {X:Cx} {e:Expr} {te:TE} {p2 apos cpos pos2:Pos} {z:Str} {zp:Pos} {zk:Nat}
def EM (K:PySem.W.Frag) (z:Str) (te:TE):TE:=fun σ H Q=>te σ H fun x H1=>∃ (a:Addr) (ys:List Str),x=.ref a/\SqL K H1 a (ys.map V.str)/\(ys.map (·.length)).sum+ys.length*z.length<=16777216/\Q (.str (Str.join z ys.reverse)) H1
end
theorem Gz {X:Cx} {x y:Str} {pos:Pos} (hg:Gl X x) (hm:∃ t,X.mg x=some (.str y t)) (hd:(x == ("__debug__":Str))=false:=by decide):PE X (.Name x pos) (tC (.str y)):=by
 obtain ⟨t,e⟩:=hm;exact fL hg e ⟨t,rfl⟩ hd
theorem HZ {X:Cx}:OpR X (binaryOp .Pow) (rI (fun i j=>0<=j/\i.natAbs<2^1000/\j<=1000) fun i j=>.int (i^j.toNat)):=opI fun i j _ _ _ _ _ hc q=>by
 refine pow_int hc.1 ?_ q;have h1:=HR hc.2.1;have h2:(Builtin.Int.intBits i:Int)*j<=1000*1000:=Int.mul_le_mul (by omega) hc.2.2 hc.1 (by decide);omega
theorem FB {z:Str} {p:Addr} {Q:VK} {g:TG} {tc:TT} {te:TE} {σ0:St} {H0:Hp} (Pv:Nat->List V->St->Hp->Prop) (h0:Pv 0 [] σ0 H0)
   (hs:∀ (i c:Nat) (ys:List V) (σ:St) (H:Hp) (N:List V->St->Hp->Prop),(∀ ys' σ' H',Pv (i+1) ys' σ' H'->N ys' σ' H')->z.cps.toList[i]?=some c->Pv i ys σ H->g (.str ⟨#[c]⟩) σ H fun σ2 H2=>tc σ2 H2 fun b H3 =>
     if b=true then te σ2 H3 fun y H4=>H4 p=some (.lst ys)/\ys.length<sizeLine/\N (ys++[y]) σ2 (upd H4 p (.lst (ys++[y]))) else N ys σ2 H3)
   (hd:∀ ys σ H,Pv z.cps.toList.length ys σ H->Q (.ref p) H):tI (Its z) p Q g tc te σ0 H0:=by
 have sz:z.cps.size=z.cps.toList.length:=by simp
 refine ⟨fun i m ys σ H=>m=z.cps.toList.length - i/\i<=z.cps.toList.length/\Pv i ys σ H,⟨z.cps.toList.length,by simp,Nat.zero_le _,h0⟩,?_⟩;rintro i m ys σ H ⟨rfl,hi,pv⟩;by_cases hlt:i<z.cps.toList.length
 . refine .inr ⟨by show i<z.cps.size;omega,fun x H' y=>?_⟩;obtain ⟨rfl,c,hc,rfl⟩:=y;exact hs i c ys σ _ (fun ys' σ' H'=>∃ m',m'<z.cps.toList.length - i/\(m'=z.cps.toList.length - (i+1)/\i+1<=z.cps.toList.length/\Pv (i+1) ys' σ' H')) (fun ys' σ' H' pv'=>⟨z.cps.toList.length - (i+1),by omega,rfl,hlt,pv'⟩) (by rw [Array.getElem?_toList];exact hc) pv
 . have e:i=z.cps.toList.length:=by omega
   subst e;exact .inl ⟨by show z.cps.size<=_;omega,hd ys σ H pv⟩
end L2
set_option Elab.async false
set_option linter.all false
set_option maxRecDepth 100000
namespace Pb
open L2 PySem PySem.W NumText
def gL (n:Nat):List Nat:=(Nat.toDigits 10 n).map Char.toNat
def FS (n:Nat):Str:=⟨(gL n).toArray⟩
theorem pJ (n:Nat):(FS n).cps.toList=gL n:=rfl
theorem mH {a b:Str} (h:a.cps.toList=b.cps.toList):a=b:=by
 cases a;cases b
 congr 1
 exact Array.toList_inj.mp h
theorem zU (n:Nat):Str.ofString (toString ((n:Nat):Int))=FS n:=mH (KIN.signs_num n)
theorem Ka:∀ d:Nat,d<10->(Nat.digitChar d).toNat=48+d:=by decide
theorem k9 {n:Nat} (h:n<10):gL n=[48+n]:=by
 unfold gL;rw [Nat.toDigits_of_lt_base h];show [(Nat.digitChar n).toNat]=_;rw [Ka n h]
theorem qd {n:Nat} (h:10<=n):gL n=gL (n / 10)++[48+n % 10]:=by
 have hm:n % 10<10:=Nat.mod_lt n (by decide);have t:Nat.toDigits 10 (n / 10)++Nat.toDigits 10 (n % 10)=Nat.toDigits 10 (10*(n / 10)+n % 10):=Nat.toDigits_append_toDigits (by decide) (by omega) hm;rw [Nat.div_add_mod] at t;unfold gL;rw [<- t,List.map_append]
 congr 1
 exact k9 hm
theorem qS (n:Nat):AllDigits (gL n):=by
 induction n using Nat.strongRecOn with
 | _ n ih =>
   by_cases h:n<10
   . rw [k9 h];intro c hc;rw [List.mem_singleton.mp hc];omega
   . rw [qd (by omega)];intro c hc;rcases List.mem_append.mp hc with hc|hc
     . exact ih (n / 10) (by omega) c hc
     . rw [List.mem_singleton.mp hc];have:=Nat.mod_lt n (show 10 > 0 by decide);omega
theorem CA (n:Nat):gL n≠[]:=by
 by_cases h:n<10
 . rw [k9 h];simp
 . rw [qd (by omega)];simp
theorem ER (n:Nat) (h:0<n):∃ c r,gL n=c::r/\c≠48:=by
 induction n using Nat.strongRecOn with
 | _ n ih =>
   by_cases h2:n<10
   . exact ⟨48+n,[],k9 h2,by omega⟩
   . obtain ⟨c,r,e,hc⟩:=ih (n / 10) (by omega) (by omega);exact ⟨c,r++[48+n % 10],by rw [qd (by omega),e];rfl,hc⟩
theorem iC:∀ (k n:Nat),n<10^(k+1)->(gL n).length<=k+1
 | 0,n,h=>by rw [k9 (by simpa using h)];simp
 | k+1,n,h=>by
   by_cases h2:n<10
   . rw [k9 h2];simp
   . rw [qd (by omega),List.length_append,List.length_singleton];have:=iC k (n / 10) (by rw [Nat.pow_succ] at h;omega);omega
theorem A8 (n:Nat):digitsVal (gL n)=n:=KIN.val_back n
theorem app_list (a b:Str):(a++b).cps.toList=a.cps.toList++b.cps.toList:=PySem.W.KT.app_list a b
theorem bi (a:Str):a.length=a.cps.toList.length:=by
 show a.cps.size=_;simp
def ci (s:List Nat):List (List Nat)->List Nat
 | []=>[]
 | [x]=>x
 | x::y::r=>x++s++ci s (y::r)
theorem fg (z:Str):∀ ys:List Str,(Str.join z ys).cps.toList=ci z.cps.toList (ys.map (·.cps.toList))
 | []=>rfl
 | [x]=>rfl
 | x::y::r=>by
   show (x++z++Str.join z (y::r)).cps.toList=_;rw [app_list,app_list,fg z (y::r)]
   rfl
theorem wy {c:Nat}:∀ {a b X Y:List Nat},c ∉ a->c ∉ b->a++c::X=b++c::Y->a=b/\X=Y
 | [],[],X,Y,_,_,e=>⟨rfl,by simpa using e⟩
 | [],b::bs,X,Y,_,hb,e=>by
   have:=(List.cons.inj e).1;exact absurd (by rw [this];exact .head _) hb
 | a::as,[],X,Y,ha,_,e=>by
   have:=(List.cons.inj e).1;exact absurd (by rw [<- this];exact .head _) ha
 | a::as,b::bs,X,Y,ha,hb,e=>by
   obtain ⟨e1,e2⟩:=List.cons.inj e;obtain ⟨h1,h2⟩:=wy (fun h=>ha (.tail _ h)) (fun h=>hb (.tail _ h)) e2;exact ⟨by rw [e1,h1],h2⟩
theorem yE {c:Nat}:∀ {A B:List (List Nat)},A≠[]->B≠[]->(∀ a∈A,c ∉ a)->(∀ b∈B,c ∉ b)->ci [c] A=ci [c] B->A=B
 | [],_,h,_,_,_,_=>absurd rfl h
 | _,[],_,h,_,_,_=>absurd rfl h
 | [a],[b],_,_,_,_,e=>by rw [show a=b from e]
 | [a],b::b'::r,_,_,ha,_,e=>by
   have:c∈a:=by rw [show a=b++[c]++ci [c] (b'::r) from e];simp
   exact absurd this (ha a (.head _))
 | a::a'::r,[b],_,_,_,hb,e=>by
   have:c∈b:=by rw [<- show a++[c]++ci [c] (a'::r)=b from e];simp
   exact absurd this (hb b (.head _))
 | a::a'::r,b::b'::r',_,_,ha,hb,e=>by
   have e:a++[c]++ci [c] (a'::r)=b++[c]++ci [c] (b'::r'):=e;rw [List.append_assoc,List.append_assoc] at e;obtain ⟨h1,h2⟩:=wy (ha a (.head _)) (hb b (.head _)) e;rw [h1,yE (by simp) (by simp) (fun x hx=>ha x (.tail _ hx)) (fun x hx=>hb x (.tail _ hx)) h2]
theorem vT {c:Nat} {ys:List Str} (h:ys≠[]) (hc:∀ y∈ys,c ∉ y.cps.toList):Txt.split (Str.join ⟨#[c]⟩ ys) ⟨#[c]⟩=ys:=by
 have e:=StrLaws.join_split (Str.join ⟨#[c]⟩ ys) ⟨#[c]⟩;have f:=StrLaws.split_free (Str.join ⟨#[c]⟩ ys) c;have n:=PyProof.Rows.split_pos (Str.join ⟨#[c]⟩ ys) ⟨#[c]⟩;generalize Txt.split (Str.join ⟨#[c]⟩ ys) ⟨#[c]⟩=zs at e f n ⊢;have e':=congrArg (fun s:Str=>s.cps.toList) e;simp only [fg] at e';have e2:zs.map (·.cps.toList)=ys.map (·.cps.toList):=yE (c:=c) (by intro z;rw [List.map_eq_nil_iff.mp z] at n;simp at n) (by intro z;exact h (List.map_eq_nil_iff.mp z)) (fun a ha=>by obtain ⟨y,hy,rfl⟩:=List.mem_map.mp ha;exact f y hy) (fun a ha=>by obtain ⟨y,hy,rfl⟩:=List.mem_map.mp ha;exact hc y hy) e';have inj:∀ {l l':List Str},l.map (·.cps.toList)=l'.map (·.cps.toList)->l=l':=by
   intro l
   induction l with
   | nil=>intro l' e;cases l' with
     | nil=>rfl
     | cons _ _=>cases e
   | cons x l ih =>
     intro l' e;cases l' with
     | nil=>cases e
     | cons y l' =>
       obtain ⟨h1,h2⟩:=List.cons.inj e;rw [mH h1,ih h2]
 exact inj e2
theorem xz {m n:Nat} (h:m<10^n) (h1:n<=500) (h0:0<n):((m:Nat):Int).natAbs.log2<1920:=by
 show m.log2<1920;by_cases z:m=0
 . subst z;decide
 . refine (Nat.log2_lt z).mpr (Nat.lt_of_lt_of_le h ?_);refine Nat.le_trans (Nat.pow_le_pow_right (by decide) h1) ?_
   decide
def vNs (ns:List Nat):List V:=ns.map fun n:Nat=>V.int (n:Int)
theorem Ht:2^4000<=10^(1204+1):=by decide
theorem _root_.List.getElem?_map_some {α β:Type} {f:α->β} {l:List α} {i:Nat} {y:β} (h:(l.map f)[i]?=some y):∃ x,l[i]?=some x/\y=f x:=by
 rw [List.getElem?_map] at h;cases e:l[i]? with
 | none=>rw [e] at h;cases h
 | some x=>rw [e] at h;exact ⟨x,rfl,(Option.some.inj h).symm⟩
theorem GR (n:Nat) (h:n<10^60):PySem.intText? (FS n)=some (n:Int):=by
 have:=intText_digits (x:=FS n) (qS n) (CA n) (Nat.le_trans (Nat.le_of_eq (bi _)) (Nat.le_trans (iC 59 n h) (by decide)));rw [pJ,A8] at this;exact this
theorem ixS {z:Str} {i:Nat} {c:Nat} {H:Hp} {Q:VK} (hz:z.cps.toList.length<=60) (h:z.cps.toList[i]?=some c) (q:Q (.str ⟨#[c]⟩) H):rIxS (.str z) (.int i) H Q :=
 ⟨z,i,c,rfl,rfl,Nat.le_trans (Nat.le_of_eq (bi z)) (Nat.le_trans hz (by decide)),pM h,q⟩
theorem Kw:∀ d:Nat,d<10->(Str.ofString "0123456789").cps.toList[d]?=some (48+d):=by decide +kernel
theorem Kd {c:Nat} (h:48<=c/\c<=57):(!(Builtin.Str.occurrences (Str.ofString "0123456789") ⟨#[c]⟩ 0 (Str.ofString "0123456789").length 1).isEmpty)=true:=by
 rw [StrLaws.found_one,decide_eq_true_eq];have:=Kw (c - 48) (by omega);rw [show 48+(c - 48)=c by omega] at this;exact List.mem_of_getElem? this
theorem yL {c:Nat} {s:List Nat}:∀ {l:List (List Nat)},c∈ci s l->c∈s\/∃ x∈l,c∈x
 | [],h=>by cases h
 | [x],h=>.inr ⟨x,.head _,h⟩
 | x::y::r,h=>by
   rcases List.mem_append.mp (show c∈(x++s)++ci s (y::r) from h) with h|h
   . rcases List.mem_append.mp h with h|h
     . exact .inr ⟨x,.head _,h⟩
     . exact .inl h
   . rcases yL h with h|⟨z,hz,h⟩
     . exact .inl h
     . exact .inr ⟨z,.tail _ hz,h⟩
theorem oz {s:List Nat} {m:Nat}:∀ {l:List (List Nat)},(∀ x∈l,x.length<=m)->(ci s l).length<=(m+s.length)*l.length
 | [],h=>by simp [ci]
 | [x],h=>by
   have:=h x (.head _);show x.length<=(m+s.length)*1;omega
 | x::y::r,h=>by
   have h1:=h x (.head _);have h2:=oz (s:=s) (l:=y::r) fun z hz=>h z (.tail _ hz);show ((x++s)++ci s (y::r)).length<=_;rw [List.length_append,List.length_append,List.length_cons (a:=x),Nat.mul_succ];omega
def wds (ns:List Nat):Str:=Str.join " " (ns.map FS)
theorem Aw (ns:List Nat):(wds ns).cps.toList=ci [32] (ns.map gL):=by
 unfold wds;rw [fg,List.map_map]
 rfl
theorem Ia {ns:List Nat} {k:Nat} (h:∀ n∈ns,n<10^(k+1)):(wds ns).length<=(k+2)*ns.length:=by
 rw [bi,Aw];have:=oz (s:=[32]) (m:=k+1) (l:=ns.map gL) fun x hx=>by
   obtain ⟨n,hn,rfl⟩:=List.mem_map.mp hx;exact iC k n (h n hn)
 rw [List.length_map] at this;exact this
theorem Je {ns:List Nat} (nb:∀ n∈ns,n<2^4000) (hl:ns.length<=100):((ns.map FS).map (·.length)).sum+(ns.map FS).length*(Str.ofString " ").length<=16777216:=by
 rw [List.length_map,List.map_map];have:∀ l:List Nat,(∀ n∈l,n<2^4000)->(l.map ((fun x:Str=>x.length) ∘ FS)).sum<=1205*l.length:=by
   intro l
   induction l with
   | nil=>intro _;simp
   | cons n l ih =>
     intro h;have h1:(FS n).length<=1205:=by
       rw [bi];exact iC 1204 n (Nat.lt_of_lt_of_le (h n (.head _)) Ht)
     have h2:=ih fun x hx=>h x (.tail _ hx);rw [List.map_cons,List.sum_cons,List.length_cons];show (FS n).length+_<=_;omega
 have h3:=this ns nb;have h4:(Str.ofString " ").length=1:=rfl;rw [h4];omega
theorem Js {n:Nat} (h:n<2^4000):(FS n).length<=1205:=by
 rw [bi];exact iC 1204 n (Nat.lt_of_lt_of_le h Ht)
theorem eR (a b:Str):(a++b).length=a.length+b.length:=by
 rw [bi,app_list,List.length_append,<- bi,<- bi]
end Pb
set_option Elab.async false
set_option linter.all false
set_option maxRecDepth 100000
namespace L2
open PySem PySem.Spec PyProof.Rows PySem.W
theorem Ji {X:Cx} (K:PySem.W.Frag) (hK:X.K=K) {T:String} {name:Str} {id:String} {r:V->List V->Hp->VK->Prop} {o e:Expr} {es:List Expr} {to:TE} {t:TA} {apos cpos:Pos} (pa:PlainAttrs T) (slot:Slot T name id) (hty:typeOf (.builtin id)=pure (.type "method_descriptor")) (hm:MtR X id r) (ho:PE X o to) (ha:PA X (e::es) t)
   (hbase:attributeBase o name X.env (eval o X.env)=eval o X.env:=by rfl)
   (hfew:((backTo cpos (starEach (e::es) X.env)).all (fun x=>!x.1) && (backToKw cpos (keywordEach [] X.env)).all (fun x=>x.1.isSome)
     && decide ((e::es).length+([]:List Keyword).length+(if ([]:List Keyword).isEmpty then 0 else 1)<30))=true:=by rfl)
   (hline:(apos.endLine == cpos.line)=true:=by rfl) (hs:starEach (e::es) X.env=(false,eval e X.env)::starEach es X.env:=by rfl) (hplain:(backTo cpos (starEach es X.env)).any (·.1)=false:=by rfl) :
   PE X (.Call (.Attribute o name apos) (e::es) [] cpos) (tBM K T r to t):=by
 subst hK;exact bN pa slot hty hm ho ha hbase hfew hline hs hplain
end L2
namespace Pb
open L2 PySem PySem.W NumText
open PySem.StrLaws (At ChainG occ_tight partsBetween_eq partsFrom strSub_toList subAt_eq sub_whole)
section
variable {X:Str} {u c v:Nat}
end
end Pb
set_option Elab.async false
set_option linter.all false
set_option maxRecDepth 100000
namespace L2
open PySem PySem.Spec PyProof.Rows PySem.W
end L2
namespace Pb
open L2 PySem PySem.W NumText
def rwt (h:Str) (ns:List Nat):Str:=Str.join " " (h::ns.map FS)
structure HdOk (h:Str):Prop where
 len:h.length<=10
 sp:32 ∉ h.cps.toList
 nl:10 ∉ h.cps.toList
def hWeb:Str:=Str.ofString "web"
def hRoad:Str:=Str.ofString "road"
theorem Cl:HdOk hWeb:=⟨by decide,by decide,by decide⟩
theorem AI:HdOk hRoad:=⟨by decide,by decide,by decide⟩
theorem vj (h:Str) (ns:List Nat):(rwt h ns).cps.toList=ci [32] (h.cps.toList::ns.map gL):=by
 unfold rwt;rw [fg,List.map_cons,List.map_map]
 rfl
theorem Ff {h:Str} (ok:HdOk h) (ns:List Nat):Txt.split (rwt h ns) (Str.ofString " ")=h::ns.map FS :=
 vT (c:=32) (ys:=h::ns.map FS) (by simp) fun y hy hc=>by
   rcases List.mem_cons.mp hy with rfl|hy
   . exact ok.sp hc
   . obtain ⟨n,_,rfl⟩:=List.mem_map.mp hy;have:=qS n 32 hc;omega
theorem Cn {h:Str} (ok:HdOk h) {ns:List Nat} (hn:∀ n∈ns,n<10^60):(rwt h ns).length<=61*(ns.length+1):=by
 rw [bi,vj];have:=oz (s:=[32]) (m:=60) (l:=h.cps.toList::ns.map gL) fun x hx=>by
   rcases List.mem_cons.mp hx with rfl|hx
   . have:=ok.len;rw [bi] at this;omega
   . obtain ⟨n,h1,rfl⟩:=List.mem_map.mp hx;exact iC 59 n (hn n h1)
 rw [List.length_cons (as:=ns.map gL),List.length_map] at this;exact this
theorem Ii (m:Nat):Str.ofString "web " ++ FS m=rwt hWeb [m]:=mH (by
 rw [app_list,vj]
 rfl)
theorem Hi {n:Nat} {ns:List Nat}:Str.ofString "road " ++ wds (n::ns)=rwt hRoad (n::ns):=mH (by
 rw [app_list,vj,Aw]
 rfl)
def d6 (r:Road):List Nat:=[r.a.toNat,r.b.toNat,r.t.toNat,r.u.toNat]
theorem G5 {m:Int} {r:Road} (h:RoadOk m r) (hm:m<=24):eV r=vNs (d6 r)/\∀ n∈d6 r,n<10^60:=by
 have h1:=h.a0;have h2:=h.b0;have h3:=h.t0;have h4:=h.u0;have h5:=h.a1;have h6:=h.b1;have h7:=h.t1;have h8:=h.u1
 constructor
 . unfold eV d6 vNs;simp only [List.map_cons,List.map_nil];rw [Int.toNat_of_nonneg h1,Int.toNat_of_nonneg h2,Int.toNat_of_nonneg (Int.le_trans (by decide) h3),Int.toNat_of_nonneg (Int.le_trans (by decide) h4)]
 . intro n hn;unfold d6 at hn;simp only [List.mem_cons,List.not_mem_nil,or_false] at hn;rcases hn with rfl|rfl|rfl|rfl <;> omega
def vM (r:Road):Str:=rwt hRoad (d6 r)
def jq (m:Int) (rs:List Road):List Str:=rwt hWeb [m.toNat]::rs.map vM
theorem Ei {m:Int} {rs:List Road} (g:Good m rs):∀ y∈jq m rs,y.length<=305:=by
 intro y hy;have:=g.m24;rcases List.mem_cons.mp hy with rfl|hy
 . have:=Cn Cl (ns:=[m.toNat]) fun n hn=>by rw [List.mem_singleton.mp hn];omega
   have l1:[m.toNat].length=1:=rfl;omega
 . obtain ⟨r,hr,rfl⟩:=List.mem_map.mp hy;have:=Cn AI (ns:=d6 r) (G5 (g.ok r hr) g.m24).2;have l1:(d6 r).length=4:=rfl;unfold vM;omega
theorem yO {m:Int} {rs:List Road} (g:Good m rs):((jq m rs).length:Int)=m:=by
 have:=g.len;unfold jq;rw [List.length_cons,List.length_map];omega
end Pb
set_option Elab.async false
set_option linter.all false
set_option maxRecDepth 100000
namespace Pb
open L2 PySem
section
variable {m:Int} {rs:List Road} {r:Int} {par:Int->Int} {dep:Int->Nat} {held:Int->Int}
end
end Pb
set_option Elab.async false
set_option linter.all false
set_option maxRecDepth 100000
namespace L2
open PySem PySem.Spec PyProof.Rows
section
variable {prog:Program} {w:World} {A:Around} {E:Value->Shared->Prop} {R:Result->Shared->Prop} {s:Shared}
theorem tJ {elt target iter:Expr} {ifs:List Expr} {scope:Scope} {pos:Pos} {it acc:Value} {env:Env} (I:Nat->Shared->Prop)
   (turn:∀ n s,I n s->wpAny (model prog w) A (pyNext it) (fun r s₁=>match r with
     | none=>R (.ok .next) s₁
     | some v=>wpAny (model prog w) A (letOwnedTupleGo target it v) (fun _ s₁'=>wpAny (model prog w) A (assign target env v) (fun _ s₂ =>
         wpAny (model prog w) A (forIn ifs true fun c r=>if r=true then do let ok <- isTrue c env (eval c env);pure (ForInStep.yield ok) else pure (ForInStep.yield r)) (fun ok s₃ =>
           if ok=true then wpAny (model prog w) A (eval elt env) (fun x s₄ =>
             wpAny (model prog w) A (call (.builtin "list.append") [acc,x]) (fun _ s₅=>∃ m,m<n/\I m s₅) (fun _ _=>False) s₄) (notedBy (model prog w) A env fun e s'=>R (.error e) s') s₃
           else ∃ m,m<n/\I m s₃) (fun _ _=>False) s₂) (fun _ _=>False) s₁') (fun _ _=>False) s₁) (fun _ _=>False) s)
   (n:Nat) (h:I n s) :
   codeAny (model prog w) A (.compLoop (.ListComp elt [⟨target,iter,ifs,0⟩] scope pos) 0 it acc env) R s:=by
 refine codeAny_loop rfl I (fun n s hI=>?_) n h;show wpAny _ A ((compTurn (.ListComp elt [⟨target,iter,ifs,0⟩] scope pos) 0 it acc env).onRaise (fun x=>do noteFrame x env;theTreesLotGoes x)) _ _ s;refine wpAny_noted ?_;rw [compTurn_list];refine wpAny_bind (wpAny_standAt (wpAny_bind (wpAny_mono (turn n s hI) (fun r s₁ h₁=>?_) fun _ _ h'=>h'.elim)));cases r with
 | none=>exact wpAny_pure h₁
 | some v =>
   refine wpAny_bind (wpAny_mono h₁ (fun _ s₁' h₁'=>?_) fun _ _ h'=>h'.elim);refine wpAny_bind (wpAny_mono h₁' (fun _ s₂ h₂=>wpAny_bind (wpAny_mono h₂ (fun ok s₃ h₃=>?_) fun _ _ h'=>h'.elim)) fun _ _ h'=>h'.elim);cases ok with
   | true =>
     rw [if_pos rfl] at h₃;simp only [if_true];exact wpAny_bind (wpAny_bind (wpAny_mono h₃ (fun x s₄ h₄=>wpAny_bind (wpAny_mono h₄ (fun _ s₅ h₅=>wpAny_pure (wpAny_pure ⟨rfl,h₅⟩)) fun _ _ h'=>h'.elim)) fun _ _ h'=>h'))
   | false =>
     rw [if_neg Bool.false_ne_true] at h₃;simp only [Bool.false_eq_true,if_false]
     first
       | exact wpAny_pure ⟨rfl,h₃⟩
       | exact wpAny_bind (wpAny_pure (wpAny_pure ⟨rfl,h₃⟩))
end
section
variable {M:Model} {A:Around} {E:Value->Shared->Prop} {s:Shared} {Q:Unit->Shared->Prop} {fs:List Addr} {ea T L:Addr} {cls fl hd:Value} {od:Option Addr} {base:Heap} {env:Env} {outer:List Env}
theorem Hf {e:Value} {env env':Env} (h:env'.frame=env.frame):noteFrame e env'=noteFrame e env:=by
 unfold noteFrame PySem.frameOf;rw [h]
theorem IH {fr:Option Addr} (r:Err s.heap ea T cls od fl) (h:∀ h' fl',Err h' ea T cls od fl'->Kept fs [T] s.heap h'->Q () { s with heap:=h' }):wpAny M A (setFlight (.ref ea) fr) Q E s:=by
 obtain ⟨⟨oe,vs,h1,h2,h3,h4,h5,h6⟩,⟨oT,ts,t1,t2,t3⟩,ne⟩:=r;have sz:3<ts.size:=(Array.getElem?_eq_some_iff.mp t3).1;unfold setFlight;refine wpAny_bind (wpAny_field h1 h4 h5 ?_);rw [if_pos (by simp:(Value.ref T != Value.none)=true)];refine wpAny_setField t1 t2 sz (h _ (fr.elim .none fun f=>rawInt f) ⟨mC ⟨oe,vs,h1,h2,h3,h4,h5,h6⟩ ne,⟨_,_,Heap.get?_update_self _ t1 (Obj.isFreed_of_fields (Obj.data_mapFields t2 _)),Obj.data_mapFields t2 _,by simp [sz]⟩,ne⟩ (mL t1 t2 (by simp)))
theorem G2 (hfr:A.frames=some (env::outer)) (hl:s.heap.FunFrames base (env::outer)) (hf:env.frame=some L) (r:Err s.heap ea T cls od fl)
   (h:∀ h' T' fl',Err h' ea T' cls od fl'->Kept (frs (env::outer)) [ea,T] s.heap h'->(T'=T\/s.heap.get? T'=none)->Q () { s with heap:=h' }):wpAny M A (noteFrame (.ref ea) env) Q E s:=by
 have nT:=AA r.t hl;obtain ⟨⟨oe,vs,e1,e2,e3,e4,e5,e6⟩,⟨oT,ts,t1,t2,t3⟩,ne⟩:=id r;unfold noteFrame;simp only [hf];refine wpAny_bind (wpAny_field e1 e4 e5 ?_);rw [if_pos (by simp:(Value.ref T != Value.none)=true)];refine wpAny_bind (wpAny_field t1 t2 t3 ?_);by_cases z0:(fl == rawInt L)=true
 . rw [if_pos z0];exact wpAny_pure (h s.heap T fl r (Kept.of_all fun b o e=>e) (.inl rfl))
 rw [if_neg z0];have k1:Kept (frs (env::outer)) [ea,T] s.heap (s.heap.update T (Obj.mapFields (·.setIfInBounds 3 Value.none))):=mL t1 t2 (by simp);refine wpAny_bind (wpAny_setField t1 t2 (Array.getElem?_eq_some_iff.mp t3).1 ?_);refine vo hfr (hl.of_keeps fun b o e nf=>⟨o,?_,rfl⟩) hf (mC r.e ne) fun h' T' r' k2 n=>h h' T' _ r' (k1.trans (k2.mono (by simp))) (.inr ?_)
 . by_cases z:b=T
   . subst z;rw [t1] at e;cases e;exact absurd t2 (nf ts)
   . rw [Heap.get?_update_other _ _ (Ne.symm z)];exact e
 . cases q:s.heap.get? T' with
   | none=>rfl
   | some o =>
     obtain ⟨o',z⟩:=k1.there T' o q;rw [z] at n;cases n
theorem E8 (hfr:A.frames=some (env::outer)) (hl:s.heap.FunFrames base (env::outer)) (hf:env.frame=some L) (r:Err s.heap ea T cls od fl)
   (h:∀ h' T',Err h' ea T' cls od .none->Kept (frs (env::outer)) [ea,T] s.heap h'->(T'=T\/s.heap.get? T'=none)->Q () { s with heap:=h' }):wpAny M A (leaving env (.ref ea)) Q E s:=by
 unfold leaving;have nl:∀ {T1 b:Addr} {o:Obj},(T1=T\/s.heap.get? T1=none)->s.heap.get? b=some o->b ∉ [ea,T]->b ∉ [T1]:=fun {T1 b o} d e x z=>by
   rw [List.mem_singleton.mp z] at e x;rcases d with rfl|d
   . exact x (by simp)
   . rw [d] at e;cases e
 refine wpAny_bind (G2 hfr hl hf r fun h1 T1 fl1 r1 k1 n1=>pX (fs:=frs (env::outer)) (s:={ s with heap:=h1 }) r1 fun h2 r2 k2=>h h2 T1 r2 ⟨fun b o e f x=>k2.keep b o (k1.keep b o e f x) f (nl n1 e x),fun b o e f x=>?_,fun b o e=>?_⟩ n1)
 . obtain ⟨s1,e1⟩:=k1.slot b o e f x;obtain ⟨s2,e2⟩:=k2.slot b _ e1 f (nl n1 e x);exact ⟨s2,e2⟩
 . obtain ⟨o1,e1⟩:=k1.there b o e;exact k2.there b o1 e1
end
def uK (X:Cx) (E:XK):Prop:=∀ (pins:List (Addr × Obj)) (σ:St) (H:Hp) (s:Shared) (ea T:Addr) (cls:Value) (od:Option Addr) (fl:Value),Inv X pins σ H s->Err s.heap ea T cls od fl->Loose X pins H ea->Loose X pins H T->E cls od H->X.xe (.ref ea) s
section
variable {P:Program} {w:World} {K:PySem.W.Frag} {mg:Str->Option Value} {base:Heap} {N:List Str} {qual:Str} {scope:Scope} {f:Addr} {cd:Value} {A:Around} {outer:List Env} {s:Shared} {H:Hp} {E:XK}
theorem zZ:uK (jZ (CXe P w) P w K mg base N qual scope f cd A outer s H E) E:=by
 intro pins σ H1 s1 ea T cls od fl J er le lt q;refine E8 (base:=base) J.ok.frames J.stack rfl er fun h' T' er' k nT=>?_;have fr:∀ b∈frs (envOfC qual scope s.heap.objs.size f cd::outer),H1 b=none:=J.stkFree;have tu:H1 T'=none/\s.heap.get? T'=none:=by
   rcases nT with rfl|nT
   . exact ⟨lt.un,lt.new⟩
   . exact ⟨o5 J.hok nT,iV J nT⟩
 refine ⟨ea,T',cls,od,H1,rfl,J.os,J.bare,qK J k ?_,m8 J.hok k fr ?_,le.un,tu.1,le.new,tu.2,er',q⟩
 . intro b hb;simp only [List.mem_cons,List.not_mem_nil,or_false] at hb;rcases hb with rfl|rfl
   . exact le.new
   . exact lt.new
 . intro b hb;simp only [List.mem_cons,List.not_mem_nil,or_false] at hb;rcases hb with rfl|rfl
   . exact le.un
   . exact lt.un
end
section
variable {X:Cx} {Nc:List Str} {own:Nat} {js:List Nat} {scope:Scope} {cl:List (Str × Addr)}
theorem yu {pins:List (Addr × Obj)} {σ σ':St} {H₁:Hp} {s₂ s':Shared} {C:Addr} {fp:List Addr} {h5:Heap} {E:XK} {e acc:Value} {use:Option (Value->Sem Unit)} {Q:Value->Shared->Prop} {D:Addr->Obj->Prop}
   (hx:X.ex=[]) (hst:X.stack=X.env::X.outer) (hf:X.env.frame=some X.env.locals) (hp:uK X E) (I:Inv X pins σ H₁ s₂) (hC:s₂.heap.objs.size<=C) (f1:∀ b∈fp,kd X pins H₁ b)
   (ob:∀ b∈fp,∃ o,h5.get? b=some o/\D b o) (z:XP (CXe X.prog X.w) (X.comp Nc scope cl C s₂ H₁ fp) ([]++fT fp h5) σ' E e s') :
   notedBy (model X.prog X.w) X.A (compEnvC scope cl C X.env) (fun x s''=>compPost (model X.prog X.w) X.A X.xe use Q acc C (.error x) s'') e s':=by
 obtain ⟨H7,s7,I7,ea,T,cls,od,H',rfl,os,bare,un,hok,n1,n2,g1,g2,er,q⟩:=z;have J:=I7.call' (ch:=[]) os un hok bare (by simp);have fresh:∀ {s8:Shared} {H8:Hp},Inv (X.comp Nc scope cl C s₂ H₁ fp) ([]++fT fp h5) σ' H8 s8->∀ b,s8.heap.get? b=none->H' b=none->Loose (X.comp Nc scope cl C s₂ H₁ fp) ([]++fT fp h5) H' b:=fun {s8 H8} I8 b z u=>by
   obtain ⟨a1,a2,a3⟩:=I8.apart z;refine ⟨u,?_,a1,a2,a3⟩;rcases I8.young z with y|y
   . exact y
   . obtain ⟨o,eo,_⟩:=ob b y;exact absurd rfl (a3 (b,o) (List.mem_append_right _ (List.mem_append_right _ (cQ y eo))))
 have le:=fresh I7 ea g1 n1;have lt:=fresh I7 T g2 n2;have fr:=J.ok.frames;have st:=J.stack;replace fr:X.A.frames=some X.stack:=fr;replace st:s'.heap.FunFrames X.base X.stack:=st;rw [hst] at fr st;show wpAny _ _ (noteFrame (.ref ea) (compEnvC scope cl C X.env)) _ _ s';rw [Hf (env:=X.env) (env':=compEnvC scope cl C X.env) rfl];refine xW fr st hf er fun h2 T2 er2 k2 nT2=>?_;rw [<- hst] at k2;have J2:Inv (X.comp Nc scope cl C s₂ H₁ fp) ([]++fT fp h5) σ' H' { s' with heap:=h2 }:=J.moved (tk:=s'.toks) k2 fun b hb=>by
   simp only [List.mem_cons,List.not_mem_nil,or_false] at hb;rcases hb with rfl|rfl
   . exact le.all
   . exact lt.all
 have lt2:=fresh J T2 nT2 (o5 hok nT2);obtain ⟨m,hn,_⟩:=id J2.loc;have goal:∃ m,h2.Ns C m/\∀ h',Heap.SameBut C h2 h'->∀ cenv:Env,cenv.locals=C->wpAny (model X.prog X.w) X.A (passOn "comprehension.variables-let-go" (.ref ea) cenv:Sem Value) (fun _ _=>False) X.xe { s' with heap:=h' }:=by
   refine ⟨m,hn,fun h3 hs3 cenv _=>?_⟩;have J3:Inv X pins σ H' { s' with heap:=h3 }:=lN (s':={ s' with heap:=h2 }) I hC f1 J2.unpinned hs3;have wide:∀ b,Loose (X.comp Nc scope cl C s₂ H₁ fp) ([]++fT fp h5) H' b->Loose X pins H' b:=fun b l=>by
     obtain ⟨a1,a2,a3⟩:=I.apart l.new;refine ⟨l.un,?_,a1,a2,a3⟩;rcases I.young l.new with y|y
     . exact y
     . rw [hx] at y;cases y
   have k3:∀ b o,b≠C->h2.get? b=some o->h3.get? b=some o:=fun b o n e=>hs3.extBut b o n e;have er3:Err h3 ea T2 cls od (rawInt X.env.locals):=by
     obtain ⟨⟨oe,vs,a1,a2⟩,⟨oT,ts,b1,b2⟩,ne⟩:=er2;exact ⟨⟨oe,vs,k3 _ _ le.loc a1,a2⟩,⟨oT,ts,k3 _ _ lt2.loc b1,b2⟩,ne⟩
   obtain ⟨⟨oe,vs,a1,a2,a3,a4,a5,a6⟩,_,_⟩:=id er3;unfold PySem.passOn;refine wpAny_bind (wpAny_field (s:={ s' with heap:=h3 }) a1 a4 a5 ?_);rw [if_neg (by simp)];refine wpAny_bind (IH (fs:=frs X.stack) (s:={ s' with heap:=h3 }) er3 fun h4 fl4 er4 k4=>?_);have J4:Inv X pins σ H' { s' with heap:=h4 }:=J3.moved (tk:=s'.toks) k4 fun b hb=>by rw [List.mem_singleton.mp hb];exact (wide _ lt2).all
   exact wpAny_throw (hp pins σ H' { s' with heap:=h4 } ea T2 cls od fl4 J4 er4 (wide _ le) (wide _ lt2) q)
 cases use with
 | none=>exact goal
 | some u=>exact goal
end
section
variable {X:Cx} {Nc:List Str} {own:Nat} {js:List Nat} {scope:Scope} {cl:List (Str × Addr)}
theorem Gx {elt target iter:Expr} {ifs:List Expr} {pos:Pos} {wi:TI} {g:TG} {tc:TT} {ex:XK->TE} {E:XK} (hx:X.ex=[]) (hst:X.stack=X.env::X.outer) (hf:X.env.frame=some X.env.locals) (hp:uK X E) (hc:X.calm=true) (T:CompTxt X Nc own js scope cl)
   (hi:PI X target iter wi) (hg:∀ C s₂ H₁ fp,PG (X.comp Nc scope cl C s₂ H₁ fp) target g) (ht:∀ C s₂ H₁ fp,PTs (X.comp Nc scope cl C s₂ H₁ fp) ifs tc)
   (he:∀ C s₂ H₁ fp,PEx (CXe X.prog X.w) (X.comp Nc scope cl C s₂ H₁ fp) elt ex) (hs:∀ x,foldedSetIterable iter X.env x=pure x:=by intro _;rfl) :
   PE X (.ListComp elt [⟨target,iter,ifs,0⟩] scope pos) (wk own js wi g tc (ex E)):=by
 intro pins s σ H Q I h;rw [eval_ListComp];refine wpAny_comprehension_free (use:=none) rfl hs T.clos T.kind T.names (thn (hi pins s σ H _ I h) fun v s1 h1=>thn h1 fun itv s2 h2=>?_);obtain ⟨it,fp,tn,J,H1,rfl,I1,Tn,st,f1,R⟩:=h2;have hfp:∀ b∈fp,b<s2.heap.objs.size:=fun b hb=>let ⟨o,e,_⟩:=Tn.obj _ _ st b hb;Heap.lt_size e;refine wpAny_newObj_type (wpAny_newFunctionEnv T.nocell (by intro y hy;simp at hy) (fun h₁ hns₁ hsb₁=>?_) T.kind);dsimp only at hns₁ hsb₁ ⊢;generalize hH2:s2.heap.push { cls:=.type "list",dict:=none,data:=.seq ([]:List Value).toArray }=H2 at hns₁ hsb₁ ⊢;have hC:H2.objs.size=s2.heap.objs.size+1:=by rw [<- hH2,Heap.size_push]
 have hDC:s2.heap.objs.size≠H2.objs.size:=by rw [hC];exact Nat.ne_of_lt (Nat.lt_succ_self _)
 have hCle:s2.heap.objs.size<=H2.objs.size:=by rw [hC];exact Nat.le_succ _
 have below:∀ b,b<s2.heap.objs.size->b≠H2.objs.size:=fun b hb=>by rw [hC];exact Nat.ne_of_lt (Nat.lt_succ_of_lt hb)
 have old:∀ b o,s2.heap.get? b=some o->h₁.get? b=some o:=fun b o e=>hsb₁.extBut b o (below b (Heap.lt_size e)) (Heap.get?_push_of_some _ (hH2 ▸ Heap.get?_push_of_some _ e));have hacc:∃ n,h₁.get? s2.heap.objs.size=some { cls:=.type "list",data:=.seq ([]:List Value).toArray n }:=⟨_,hsb₁.extBut _ _ hDC (Heap.get?_push_of_some _ (hH2 ▸ Heap.get?_push_size _ rfl))⟩;have st₁:tn 0 h₁:=Tn.keep _ _ _ st fun b _ o e=>old b o e;obtain ⟨W,⟨m0,w0⟩,turn⟩:=R s2.heap.objs.size I1.fresh;have Ic:=qx (t:=s2.toks+([]:List (Str × Value)).length) T I1 hCle (Nat.le_refl _) hDC f1 hfp old hns₁ hacc;generalize hXc:X.comp Nc scope cl H2.objs.size s2 H1 fp=Xc at Ic;have stat:∀ {H':Hp},(∀ b∈fp,H' b=none)->∀ b∈fp,kd Xc [] H' b:=fun {H'} hn b hb=>by
   subst hXc;exact ⟨hn b hb,below b (hfp b hb),(qb T I1 hCle f1 hfp).exfs b hb,.inl hb,fun x c e=>(f1 b hb).2.2.2.2.1 x c (T.cells x c e),fun p hp=>by cases hp⟩
 have fr0:∀ b∈fp,upd H1 s2.heap.objs.size (.lst []) b=none:=fun b hb=>by
   rw [am (Nat.ne_of_lt (hfp b hb))];exact (f1 b hb).1
 have calmc:Xc.calm=true:=by subst hXc;exact hc
 have loop:∀ s₃:Shared,s₃={ s2 with heap:=h₁,toks:=s2.toks+([]:List (Str × Value)).length } ->
     codeAny (model X.prog X.w) X.A (.compLoop (.ListComp elt [⟨target,iter,ifs,0⟩] scope pos) 0 (.ref it) (.ref s2.heap.objs.size) (compEnvC scope cl H2.objs.size X.env))
       (compPost (model X.prog X.w) X.A X.xe none (EP X pins σ Q) (.ref s2.heap.objs.size) H2.objs.size) s₃:=by
   rintro s₃ rfl;refine tJ (fun n s'=>∃ i ys σ' H',Inv Xc [] σ' H' s'/\tn i s'.heap/\(∀ b∈fp,H' b=none)/\W i n ys σ' H') ?_ m0 ⟨0,[],_,_,Ic,st₁,fr0,w0⟩;rintro n s3 ⟨i,ys,σ3,H3,I3,st3,fr3,w3⟩;rcases turn i n ys σ3 H3 w3 with ⟨stop,q⟩|⟨go,step⟩
   . subst hXc;refine thn (Tn.done (X.comp Nc scope cl H2.objs.size s2 H1 fp) rfl rfl rfl hc i [] s3 σ3 H3 _ I3 (stat fr3) st3 stop) fun r s4 ⟨hr,I4⟩=>?_;subst hr;obtain ⟨m4,hn4,_⟩:=id I4.loc;exact ⟨m4,hn4,fun h' hs'=>⟨.ref s2.heap.objs.size,H3,lN I1 hCle f1 I4 hs',rfl,q⟩⟩
   . subst hXc;refine thn (Tn.item (X.comp Nc scope cl H2.objs.size s2 H1 fp) rfl rfl rfl hc i [] s3 σ3 H3 _ I3 (stat fr3) st3 go) fun r s4 ⟨u,hr,h4⟩=>?_;subst hr;refine thn h4 fun _ s5 ⟨x,H5,I5,r5,y5,st5,fr5⟩=>?_;have I5':=I5.pinned (stat fr5) (Tn.obj _ _ st5);have back:∀ {σ7:St} {H7:Hp} {s7:Shared},Inv (X.comp Nc scope cl H2.objs.size s2 H1 fp) ([]++fT fp s5.heap) σ7 H7 s7->Inv (X.comp Nc scope cl H2.objs.size s2 H1 fp) [] σ7 H7 s7/\tn (i+1) s7.heap/\∀ b∈fp,H7 b=none:=fun {σ7 H7 s7} I7=>by
       refine ⟨I7.unpinned,Tn.keep _ _ _ st5 fun b hb o e=>(I7.pin (b,o) (List.mem_append_right _ (List.mem_append_right _ (cQ hb e)))).1,fun b hb=>?_⟩;obtain ⟨o,e,d⟩:=Tn.obj _ _ st5 b hb;exact (I7.pin (b,o) (List.mem_append_right _ (List.mem_append_right _ (cQ hb e)))).2.1
     refine thn (hg _ _ _ _ _ s5 σ3 H5 x u _ I5' r5 (step x H5 y5)) fun _ s6 ⟨σ6,H6,I6,q6⟩=>?_;refine qQ (ht _ _ _ _ _ s6 σ6 H6 _ I6 q6) fun ok s7 H7 I7 q7=>?_;cases ok with
     | false =>
       rw [if_neg Bool.false_ne_true] at q7 ⊢;obtain ⟨m',hm,w7⟩:=q7;obtain ⟨J1,J2,J3⟩:=back I7;exact ⟨m',hm,i+1,ys,σ6,H7,J1,J2,J3,w7⟩
     | true =>
       rw [if_pos rfl] at q7 ⊢;refine wpAny_mono (he _ _ _ _ E _ s7 σ6 H7 _ I7 q7) (fun y s8 ⟨yv,H8,I8,r8,hp8,hl8,m',hm,w8⟩=>?_) fun e s8 z=>yu hx hst hf hp I1 hCle f1 (Tn.obj _ _ st5) z;refine thn (cG _ s8 σ6 H8 (.ref s2.heap.objs.size) [yv] _ [y] (fun v' H'=>W (i+1) m' (ys++[yv]) σ6 H') I8 rfl (.cons r8 .nil) ⟨_,ys,yv,rfl,rfl,hp8,hl8,w8⟩) fun v9 s9 ⟨_,H9,I9,_,w9⟩=>?_;obtain ⟨J1,J2,J3⟩:=back I9;exact ⟨m',hm,i+1,ys++[yv],σ6,H9,J1,J2,J3,w9⟩
 exact codeAny_compStart_list (loop _ rfl) (Tn.self _ 0 _ _ _ st₁ (loop _ rfl))
theorem pA {i:Nat} {x:Str} {px pos:Pos} {elt target iter:Expr} {ifs:List Expr} {cpos:Pos} {wi:TI} {g:TG} {tc:TT} {ex:XK->TE} {E:XK} (hx:X.ex=[]) (hst:X.stack=X.env::X.outer) (hf:X.env.frame=some X.env.locals) (hp:uK X E) (hN:X.N.Nodup) (hxi:X.N[i]?=some x) (hxl:X.env.scope.names.lookup x=some .local) (hc:X.calm=true) (T:CompTxt X Nc own js scope cl)
   (hi:PI X target iter wi) (hg:∀ C s₂ H₁ fp,PG (X.comp Nc scope cl C s₂ H₁ fp) target g) (ht:∀ C s₂ H₁ fp,PTs (X.comp Nc scope cl C s₂ H₁ fp) ifs tc)
   (he:∀ C s₂ H₁ fp,PEx (CXe X.prog X.w) (X.comp Nc scope cl C s₂ H₁ fp) elt ex) (hs:∀ x,foldedSetIterable iter X.env x=pure x:=by intro _;rfl)
   (hsw:swapsWith (.ListComp elt [⟨target,iter,ifs,0⟩] scope cpos) (some (.Name x px)) pos.line X.env=pure true:=by rfl) :
   PS X (.Assign [.Name x px] (.ListComp elt [⟨target,iter,ifs,0⟩] scope cpos) pos) (xU (wk own js wi g tc (ex E)) (uD i)):=by
 intro pins s σ H D I h;rw [exec_Assign_Name_used _ _ _ _ hsw];refine wpAny_bind (wpAny_standAt (wpAny_bind ?_));rw [arm_evalThenUse_ListComp];refine wpAny_bind ?_;refine wpAny_comprehension_free (use:=some (assign (.Name x px) X.env)) rfl hs T.clos T.kind T.names (thn (hi pins s σ H _ I h) fun v s1 h1=>thn h1 fun itv s2 h2=>?_);obtain ⟨it,fp,tn,J,H1,rfl,I1,Tn,st,f1,R⟩:=h2;have hfp:∀ b∈fp,b<s2.heap.objs.size:=fun b hb=>let ⟨o,e,_⟩:=Tn.obj _ _ st b hb;Heap.lt_size e;refine wpAny_newObj_type (wpAny_newFunctionEnv T.nocell (by intro y hy;simp at hy) (fun h₁ hns₁ hsb₁=>?_) T.kind);dsimp only at hns₁ hsb₁ ⊢;generalize hH2:s2.heap.push { cls:=.type "list",dict:=none,data:=.seq ([]:List Value).toArray }=H2 at hns₁ hsb₁ ⊢;have hC:H2.objs.size=s2.heap.objs.size+1:=by rw [<- hH2,Heap.size_push]
 have hDC:s2.heap.objs.size≠H2.objs.size:=by rw [hC];exact Nat.ne_of_lt (Nat.lt_succ_self _)
 have hCle:s2.heap.objs.size<=H2.objs.size:=by rw [hC];exact Nat.le_succ _
 have below:∀ b,b<s2.heap.objs.size->b≠H2.objs.size:=fun b hb=>by rw [hC];exact Nat.ne_of_lt (Nat.lt_succ_of_lt hb)
 have old:∀ b o,s2.heap.get? b=some o->h₁.get? b=some o:=fun b o e=>hsb₁.extBut b o (below b (Heap.lt_size e)) (Heap.get?_push_of_some _ (hH2 ▸ Heap.get?_push_of_some _ e));have hacc:∃ n,h₁.get? s2.heap.objs.size=some { cls:=.type "list",data:=.seq ([]:List Value).toArray n }:=⟨_,hsb₁.extBut _ _ hDC (Heap.get?_push_of_some _ (hH2 ▸ Heap.get?_push_size _ rfl))⟩;have st₁:tn 0 h₁:=Tn.keep _ _ _ st fun b _ o e=>old b o e;obtain ⟨W,⟨m0,w0⟩,turn⟩:=R s2.heap.objs.size I1.fresh;have Ic:=qx (t:=s2.toks+([]:List (Str × Value)).length) T I1 hCle (Nat.le_refl _) hDC f1 hfp old hns₁ hacc;generalize hXc:X.comp Nc scope cl H2.objs.size s2 H1 fp=Xc at Ic;have stat:∀ {H':Hp},(∀ b∈fp,H' b=none)->∀ b∈fp,kd Xc [] H' b:=fun {H'} hn b hb=>by
   subst hXc;exact ⟨hn b hb,below b (hfp b hb),(qb T I1 hCle f1 hfp).exfs b hb,.inl hb,fun x c e=>(f1 b hb).2.2.2.2.1 x c (T.cells x c e),fun p hp=>by cases hp⟩
 have fr0:∀ b∈fp,upd H1 s2.heap.objs.size (.lst []) b=none:=fun b hb=>by
   rw [am (Nat.ne_of_lt (hfp b hb))];exact (f1 b hb).1
 have calmc:Xc.calm=true:=by subst hXc;exact hc
 have loop:∀ s₃:Shared,s₃={ s2 with heap:=h₁,toks:=s2.toks+([]:List (Str × Value)).length } ->
     codeAny (model X.prog X.w) X.A (.compLoop (.ListComp elt [⟨target,iter,ifs,0⟩] scope cpos) 0 (.ref it) (.ref s2.heap.objs.size) (compEnvC scope cl H2.objs.size X.env))
       (compPost (model X.prog X.w) X.A X.xe (some (assign (.Name x px) X.env)) (fun _ s'=>wpAny (model X.prog X.w) X.A (pure ()) (fun _ s''=>wpAny (model X.prog X.w) X.A (pure Flow.next) (SP X pins D) X.xe s'') X.xe s') (.ref s2.heap.objs.size) H2.objs.size) s₃:=by
   rintro s₃ rfl;refine tJ (fun n s'=>∃ i ys σ' H',Inv Xc [] σ' H' s'/\tn i s'.heap/\(∀ b∈fp,H' b=none)/\W i n ys σ' H') ?_ m0 ⟨0,[],_,_,Ic,st₁,fr0,w0⟩;rintro n s3 ⟨i,ys,σ3,H3,I3,st3,fr3,w3⟩;rcases turn i n ys σ3 H3 w3 with ⟨stop,q⟩|⟨go,step⟩
   . subst hXc;refine thn (Tn.done (X.comp Nc scope cl H2.objs.size s2 H1 fp) rfl rfl rfl hc i [] s3 σ3 H3 _ I3 (stat fr3) st3 stop) fun r s4 ⟨hr,I4⟩=>?_;subst hr;obtain ⟨m4,hn4,_⟩:=id I4.loc;have J:=lN I1 hCle f1 I4 (h':=s4.heap) (Heap.SameBut.refl _ _);have cl0:H2.objs.size≠X.env.locals:=Nat.ne_of_gt (Nat.lt_of_lt_of_le I1.lt hCle);have cy:X.s₀.heap.objs.size<=H2.objs.size:=Nat.le_trans I1.sz hCle;have cc:∀ y c,X.env.cells.lookup y=some c->c≠H2.objs.size:=fun y c e=>by
       obtain ⟨v',o',ho',_⟩:=I1.cell y c e;exact Nat.ne_of_lt (Nat.lt_of_lt_of_le (Heap.lt_size ho') hCle)
     have cp:∀ p∈X.pn++pins,p.1≠H2.objs.size:=fun p hp=>by
       obtain ⟨ho',_⟩:=I1.pin p hp;exact Nat.ne_of_lt (Nat.lt_of_lt_of_le (Heap.lt_size ho') hCle)
     refine Ba (tQ (v:=.ref s2.heap.objs.size) J hN hxi (.inl hxl) rfl (fun s5 I5 ⟨ad,sb,had⟩=>?_) (.inr hxl));have nad:H2.objs.size≠ad:=by
       rcases had with rfl|had
       . exact cl0
       . exact (cc _ _ had).symm
     obtain ⟨oo,es,ep,e1,e2⟩:=hn4;refine ⟨m4,⟨oo,es,ep,(sb.2 _ nad).trans e1,e2⟩,fun h' hs'=>wpAny_pure (wpAny_pure ⟨_,H3,?_,q⟩)⟩;exact I5.turned (it:=H2.objs.size) (t':=s5.toks) (fun b o n e=>hs'.extBut b o n e) I4.free cl0 (.inr cy) cc cp
   . subst hXc;refine thn (Tn.item (X.comp Nc scope cl H2.objs.size s2 H1 fp) rfl rfl rfl hc i [] s3 σ3 H3 _ I3 (stat fr3) st3 go) fun r s4 ⟨u,hr,h4⟩=>?_;subst hr;refine thn h4 fun _ s5 ⟨x,H5,I5,r5,y5,st5,fr5⟩=>?_;have I5':=I5.pinned (stat fr5) (Tn.obj _ _ st5);have back:∀ {σ7:St} {H7:Hp} {s7:Shared},Inv (X.comp Nc scope cl H2.objs.size s2 H1 fp) ([]++fT fp s5.heap) σ7 H7 s7->Inv (X.comp Nc scope cl H2.objs.size s2 H1 fp) [] σ7 H7 s7/\tn (i+1) s7.heap/\∀ b∈fp,H7 b=none:=fun {σ7 H7 s7} I7=>by
       refine ⟨I7.unpinned,Tn.keep _ _ _ st5 fun b hb o e=>(I7.pin (b,o) (List.mem_append_right _ (List.mem_append_right _ (cQ hb e)))).1,fun b hb=>?_⟩;obtain ⟨o,e,d⟩:=Tn.obj _ _ st5 b hb;exact (I7.pin (b,o) (List.mem_append_right _ (List.mem_append_right _ (cQ hb e)))).2.1
     refine thn (hg _ _ _ _ _ s5 σ3 H5 x u _ I5' r5 (step x H5 y5)) fun _ s6 ⟨σ6,H6,I6,q6⟩=>?_;refine qQ (ht _ _ _ _ _ s6 σ6 H6 _ I6 q6) fun ok s7 H7 I7 q7=>?_;cases ok with
     | false =>
       rw [if_neg Bool.false_ne_true] at q7 ⊢;obtain ⟨m',hm,w7⟩:=q7;obtain ⟨J1,J2,J3⟩:=back I7;exact ⟨m',hm,i+1,ys,σ6,H7,J1,J2,J3,w7⟩
     | true =>
       rw [if_pos rfl] at q7 ⊢;refine wpAny_mono (he _ _ _ _ E _ s7 σ6 H7 _ I7 q7) (fun y s8 ⟨yv,H8,I8,r8,hp8,hl8,m',hm,w8⟩=>?_) fun e s8 z=>yu hx hst hf hp I1 hCle f1 (Tn.obj _ _ st5) z;refine thn (cG _ s8 σ6 H8 (.ref s2.heap.objs.size) [yv] _ [y] (fun v' H'=>W (i+1) m' (ys++[yv]) σ6 H') I8 rfl (.cons r8 .nil) ⟨_,ys,yv,rfl,rfl,hp8,hl8,w8⟩) fun v9 s9 ⟨_,H9,I9,_,w9⟩=>?_;obtain ⟨J1,J2,J3⟩:=back I9;exact ⟨m',hm,i+1,ys++[yv],σ6,H9,J1,J2,J3,w9⟩
 exact codeAny_compStart_list (loop _ rfl) (Tn.self _ 0 _ _ _ st₁ (loop _ rfl))
end
section
variable {X:Cx}
theorem oS (K:PySem.W.Frag) (h:X.K=K):dI X (.builtin "isinstance") (DE K):=by subst h;exact GF
theorem wc (K:PySem.W.Frag) (h:X.K=K):dI X (.builtin "isinstance") (Hv K):=by subst h;exact Fb
theorem El {a:Expr} {ta:TE} (K:PySem.W.Frag) (h:X.K=K) (ha:PE X a ta) (he:∀ whole,isTrue a X.env whole=(do let v <- whole;standAt a.pos;holding [v] (truthy v))) :
   PT X a (fun σ H Q=>ta σ H fun x H'=>∃ k,F1 K x H' k/\Q k H'):=by subst h;exact Ao ha he
end
end L2
set_option Elab.async false
set_option linter.all false
set_option maxRecDepth 100000
namespace L2
open PySem PySem.Spec PyProof.Rows
section
variable {prog:Program} {w:World} {A:Around} {E:Value->Shared->Prop} {h:Heap} {g:Array GenState} {d:Drawn} {t:Nat} {os:OsState}
variable {nm q:Str} {C N:Addr} {bs bm bmB:List Value} {hdct:Bool} {sn:List Str} {sub:List Value} {ab:Bool} {col:Option Bool} {dd:Option Addr} {k0 k1 k2 k3 k5:Option Value} {B newId initId:String}
theorem xi (F:ExcBaseFacts B newId initId bmB) (T:OwnTail h bmB bm) {mN:Str->Option Value} {au:List Value} {fI:Addr} {oI:Obj} {Q:Fin->Shared->Prop}
   (hC:h.get? C=some (excClassObj nm q C N bs bm hdct sn sub ab col dd k0 k1 k2 k3 k5 newId)) (hn:h.Ns N mN) (hi:mN "__init__"=some (.ref fI)) (hfI:h.get? fI=some oI) (hfc:oI.cls=.type "function")
   (hq:∀ h' e,Heap.MadeExcOf h h' e (.ref C) au->wpAny (model prog w) A (call (.ref fI) (.ref e::au)) (fun r s'=>r=.none/\Q (.done (.ret (.ref e))) s') E ⟨h',g,d,t,os⟩) (hrest:au.length<=sizeLine) :
   wpAny (model prog w) A (Builtin.«type.__call__» ⟨.ref C::au,[]⟩) Q E ⟨h,g,d,t,os⟩:=by
 repeat (first|with_reducible refine wpAny_loadPart_at hC ?_|with_reducible refine wpAny_madeBy_exc hC ?_|wp_step)
 refine codeAny_call_builtin_code (Code.quiet_builtin _ F.quiet) (wpAny_check_new_subT F T hC ?_);refine codeAny_exc_new_subT F T hC ?_ hrest;show wpAny _ _ _ _ _ _;have up:∀ b o,h.get? b=some o->((h.push { cls:=.type "tuple",data:=.seq au.toArray }).push { cls:=.ref C,data:=.fields #[.ref h.objs.size,.none,.none,.none,.bool false,.none] }).get? b=some o:=fun b o e=>Heap.get?_push_of_some _ (Heap.get?_push_of_some _ e);have hC1:=up _ _ hC;have hf1:=up _ _ hfI;have hn1:=hn.keeps up;have T1:=T.keeps up;have hget:((h.push { cls:=.type "tuple",data:=.seq au.toArray }).push { cls:=.ref C,data:=.fields #[.ref h.objs.size,.none,.none,.none,.bool false,.none] }).get? (h.objs.size+1)=some { cls:=.ref C,data:=.fields #[.ref h.objs.size,.none,.none,.none,.bool false,.none] }:=by heap_get
 have hcC:(Value.ref C::bm).contains (.ref C)=true:=by simp
 unfold isInstance
 repeat (first|with_reducible refine wpAny_loadPart_at hget ?_|(with_reducible refine wpAny_isSubtype_exc hC1 ?_;rw [hcC])|wp_step)
 show wpAny _ _ (typeLookup (.ref C) _) _ _ _;refine wpAny_typeLookup_tail hC1 hn1 T1 F.mroIs F.init.lookup ?_;rw [hi];refine wpAny_holding (wpAny_bind ?_);unfold bindSpecial;refine wpAny_bind (wpAny_typeOf (T:="function") ⟨_,hf1,hfc⟩ ?_);rw [if_pos (by decide)];refine wpAny_pure (wpAny_bind (wpAny_mono (hq _ (h.objs.size+1) ⟨up,Heap.get?_none_of_le (Nat.le_succ _),h.objs.size,hget,Heap.get?_none_of_le (Nat.le_refl _),?_⟩) (fun r s' hr=>?_) fun _ _ x=>x))
 . exact Heap.get?_push_of_some _ (Heap.get?_push_at rfl rfl)
 . obtain ⟨rfl,hQ⟩:=hr
   wp_walk
   exact hQ
theorem DB (F:ExcBaseFacts B newId initId bmB) (T:OwnTail h bmB bm) {mN:Str->Option Value} {au:List Value} {fI:Addr} {oI:Obj} {Q:Value->Shared->Prop}
   (hC:h.get? C=some (excClassObj nm q C N bs bm hdct sn sub ab col dd k0 k1 k2 k3 k5 newId)) (hn:h.Ns N mN) (hi:mN "__init__"=some (.ref fI)) (hfI:h.get? fI=some oI) (hfc:oI.cls=.type "function")
   (hq:∀ h' e,Heap.MadeExcOf h h' e (.ref C) au->wpAny (model prog w) (A.under (.builtin "type.__call__" ⟨.ref C::au,[]⟩)) (call (.ref fI) (.ref e::au)) (fun r s'=>r=.none/\Q (.ref e) s') E ⟨h',g,d,t,os⟩) (hrest:au.length<=sizeLine) :
   wpAny (model prog w) A (call (.ref C) au) Q E ⟨h,g,d,t,os⟩:=by
 have f1:=tc_lookup;have f2:=tc_bind (.ref C);have hT:(⟨h,g,d,t,os⟩:Shared).TypeIs (.ref C) "type":=⟨_,hC,rfl⟩;refine wpAny_call (codeAny_of_tree ?_);show wpAny _ _ (callAny (.ref C) _) _ _ _
 repeat (any_goals (first|assumption|with_reducible refine wpAny_loadPart_at hC ?_|wp_step))
 refine ⟨rfl,?_⟩;refine codeAny_call_builtin_at (Code.quiet_builtin _ (by decide +kernel)) entry_typeCall (wpAny_check_type_call_sub hC (xi F T hC hn hi hfI hfc (fun h' e hm=>?_) hrest));exact hq h' e hm
end
section
variable {M:Model} {A:Around} {E:Value->Shared->Prop} {env:Env}
variable {nm q:Str} {C N:Addr} {bs bm:List Value} {hdct:Bool} {sn:List Str} {sub:List Value} {ab:Bool} {col:Option Bool} {dd:Option Addr} {k0 k1 k2 k3 k5:Option Value} {newId:String}
theorem qL {s:Shared} {x:Sem Value} {Q:Flow->Shared->Prop} (hbase:bm.contains (.type "BaseException")=true) (hh:A.handled=none)
   (h:wpAny M A x (fun v s₁=>∃ e a0 od sl,v=.ref e/\s₁.heap.get? C=some (excClassObj nm q C N bs bm hdct sn sub ab col dd k0 k1 k2 k3 k5 newId) /\
     s₁.heap.get? e=some { cls:=.ref C,dict:=od,data:=.fields #[a0,.none,.none,.none,.bool false,.none],slots:=sl }/\E (.ref e) s₁) E s) :
   wpAny M A (raiseStmt env (some x) none) Q E s:=by
 have hcB:(Value.ref C::bm).contains (.type "BaseException")=true:=by rw [List.contains_cons,hbase,Bool.or_true]
 unfold raiseStmt;refine wpAny_bind (wpAny_mono h (fun v s₁ h₁=>?_) fun _ _ x=>x);obtain ⟨e,a0,od,sl,rfl,hC,he,hE⟩:=h₁;obtain ⟨hp,g,d,tk,os⟩:=s₁
 repeat (first|with_reducible refine wpAny_loadPart_at he ?_|with_reducible refine wpAny_loadPart_at hC ?_|(with_reducible refine wpAny_isSubtype_exc hC ?_;rw [hcB])|wp_step)
 exact wpAny_raiseNew_none hh hE
end
section
variable {prog:Program} {w:World} {A:Around} {E:Value->Shared->Prop} {s:Shared} {env:Env}
variable {nm q:Str} {C N:Addr} {bs bm bmB:List Value} {hdct:Bool} {sn:List Str} {sub:List Value} {ab:Bool} {col:Option Bool} {dd:Option Addr} {k0 k1 k2 k3 k5:Option Value} {B newId initId:String}
theorem vp (F:ExcBaseFacts B newId initId bmB) {x:Str} {np cpos pos:Pos} {args:List Expr} {Q:Flow->Shared->Prop}
   (hbase:bm.contains (.type "BaseException")=true) (hh:A.handled=none) (hplain:(backTo cpos (starEach args env)).any (·.1)=false)
   (h:wpAny (model prog w) A (eval (.Name x np) env) (fun f s₁=>f=.ref C/\wpAny (model prog w) A (evalArgs (.ref C) true (backTo cpos (starEach args env)) [])
     (fun a s₂=>a.kw=[]/\a.pos.length<=sizeLine/\∃ mN fI oI,s₂.heap.get? C=some (excClassObj nm q C N bs bm hdct sn sub ab col dd k0 k1 k2 k3 k5 newId)/\s₂.heap.Ns N mN/\OwnTail s₂.heap bmB bm/\mN "__init__"=some (.ref fI)/\s₂.heap.get? fI=some oI/\oI.cls=.type "function" /\
       ∀ h' e,Heap.MadeExcOf s₂.heap h' e (.ref C) a.pos->wpAny (model prog w) (A.under (.builtin "type.__call__" ⟨.ref C::a.pos,[]⟩)) (call (.ref fI) (.ref e::a.pos)) (fun r s'=>r=.none /\
         s'.heap.get? C=some (excClassObj nm q C N bs bm hdct sn sub ab col dd k0 k1 k2 k3 k5 newId)/\(∃ a0 od sl,s'.heap.get? e=some { cls:=.ref C,dict:=od,data:=.fields #[a0,.none,.none,.none,.bool false,.none],slots:=sl })/\E (.ref e) s') E { s₂ with heap:=h' }) E s₁) E s) :
   wpAny (model prog w) A (exec (.Raise (some (.Call (.Name x np) args [] cpos)) none pos) env) Q E s:=by
 rw [arm_exec_Raise]
 first
   | refine wpAny_bind (wpAny_standAt (qL (C:=C) (nm:=nm) (q:=q) (N:=N) (bs:=bs) (bm:=bm) (hdct:=hdct) (sn:=sn) (sub:=sub) (ab:=ab) (col:=col) (dd:=dd) (k0:=k0) (k1:=k1) (k2:=k2) (k3:=k3) (k5:=k5) (newId:=newId) hbase hh (wpAny_bind (wpAny_mono (wpAny_Call_ofName (wpAny_mono h (fun f s₁ h₁=>?_) fun _ _ x=>x)) (fun v s₃ h₃=>wpAny_bind (wpAny_standAt (wpAny_pure h₃))) fun _ _ x=>x))))
   | (simp only [evalOpt,Option.map];refine wpAny_bind (wpAny_standAt (qL (C:=C) (nm:=nm) (q:=q) (N:=N) (bs:=bs) (bm:=bm) (hdct:=hdct) (sn:=sn) (sub:=sub) (ab:=ab) (col:=col) (dd:=dd) (k0:=k0) (k1:=k1) (k2:=k2) (k3:=k3) (k5:=k5) (newId:=newId) hbase hh (wpAny_bind (wpAny_mono (wpAny_Call_ofName (wpAny_mono h (fun f s₁ h₁=>?_) fun _ _ x=>x)) (fun v s₃ h₃=>wpAny_bind (wpAny_standAt (wpAny_pure h₃))) fun _ _ x=>x)))))
   | (refine wpAny_bind (wpAny_standAt (qL (C:=C) (nm:=nm) (q:=q) (N:=N) (bs:=bs) (bm:=bm) (hdct:=hdct) (sn:=sn) (sub:=sub) (ab:=ab) (col:=col) (dd:=dd) (k0:=k0) (k1:=k1) (k2:=k2) (k3:=k3) (k5:=k5) (newId:=newId) hbase hh ?_));refine wpAny_bind (wpAny_mono (wpAny_Call_ofName (wpAny_mono h (fun f s₁ h₁=>?_) fun _ _ x=>x)) (fun v s₃ h₃=>wpAny_bind (wpAny_standAt (wpAny_pure h₃))) fun _ _ x=>x))
 obtain ⟨rfl,h₁⟩:=h₁;unfold callWith;refine wpAny_bind (wpAny_holding (wpAny_mono h₁ (fun a s₂ h₂=>wpAny_bind (wpAny_standAt ?_)) fun _ _ x=>x));obtain ⟨apos,akw⟩:=a;obtain ⟨hkw,hlen,mN,fI,oI,hC,hn,T,hi,hf,hfc,h₂⟩:=h₂;obtain rfl:akw=[]:=hkw;obtain ⟨hp,g,d,tk,os⟩:=s₂;simp only [hplain];refine wpAny_bind (wpAny_keeperOf_exc hC ?_);refine wpAny_bind (DB F T hC hn hi hf hfc (fun h' e hm=>wpAny_mono (h₂ h' e hm) (fun r s' hr=>⟨hr.1,wpAny_bind (wpAny_holding (wpAny_point (wpAny_pure ?_)))⟩) fun _ _ y=>y) hlen);obtain ⟨_,c1,⟨a0,od,sl,c2⟩,c3⟩:=hr;exact ⟨e,a0,od,sl,rfl,c1,c2,c3⟩
end
def ExN (ea:Addr) (cls:Value) (od:Option Addr):HO:=.ext fun h=>∃ a0 sl,h.get? ea=some { cls:=cls,dict:=od,data:=.fields #[a0,.none,.none,.none,.bool false,.none],slots:=sl }
def del (H:Hp) (a:Addr):Hp:=fun b=>if b=a then none else H b
theorem ka {H:Hp} {a b:Addr} (h:b≠a):del H a b=H b:=if_neg h
theorem vK {H:Hp} {a:Addr}:del H a a=none:=if_pos rfl
section
variable {X:Cx} {pins:List (Addr × Obj)} {σ:St} {H:Hp} {s:Shared}
theorem Inv.trackN {ea:Addr} {cls:Value} {od:Option Addr} (I:Inv X pins σ H s) (l:Loose X pins H ea) (e:∃ a0 sl,s.heap.get? ea=some { cls:=cls,dict:=od,data:=.fields #[a0,.none,.none,.none,.bool false,.none],slots:=sl }):Inv X pins σ (upd H ea (ExN ea cls od)) s:=by
 have ne:∀ b,b≠ea->upd H ea (ExN ea cls od) b=H b:=fun b z=>am z;have nt:∀ b u,H b=some u->upd H ea (ExN ea cls od) b=some u:=fun b u z=>by rw [ne b (az z l.un)];exact z
 refine ⟨I.ok,I.os,I.bare,⟨I.base.keep,I.base.slot,fun b o q n x=>?_,I.base.there,fun b xs q=>nt _ _ (I.base.tups b xs q),fun b o u q=>nt _ _ (I.base.frzs b o u q),fun b ps q=>?_⟩,I.loc,I.cell,?_,fun x c q=>?_,fun p hp=>?_,?_,I.len⟩
 . rw [ne b (by rintro rfl;rw [l.new] at q;cases q)];exact I.base.free b o q n x
 . obtain ⟨more,z⟩:=I.base.tbls b ps q;exact ⟨more,nt _ _ z⟩
 . rw [ne _ (Ne.symm l.loc)];exact I.free
 . rw [ne _ (l.cel x c q)];exact I.freeC x c q
 . obtain ⟨z1,z2,z3,z4,z5⟩:=I.pin p hp;exact ⟨z1,by rw [ne _ (l.pin p hp)];exact z2,z3,z4,z5⟩
 . intro b u q;by_cases z:b=ea
   . subst z;rw [ag] at q;cases q;obtain ⟨a0,sl,h1⟩:=e;refine ⟨⟨a0,sl,h1⟩,⟨_,h1⟩,?_⟩;rintro g1 g2 ⟨a,l,a1⟩ kk;exact ⟨a,l,kk _ a1⟩
   . rw [ne b z] at q;exact (I.hok b u q).stay (fun _ _ _ r=>r) (fun c r=>nt _ _ r) fun c xs r=>nt _ _ r
theorem Inv.untrack {ea:Addr} {φ:Heap->Prop} (I:Inv X pins σ H s) (e:H ea=some (.ext φ)):Inv X pins σ (del H ea) s:=by
 have nt:∀ b u,H b=some u->b≠ea->del H ea b=some u:=fun b u z n=>by rw [ka n];exact z
 have nn:∀ b,H b=none->del H ea b=none:=fun b z=>by
   by_cases q:b=ea
   . rw [q,vK]
   . rw [ka q];exact z
 refine ⟨I.ok,I.os,I.bare,⟨I.base.keep,I.base.slot,fun b o q n x=>nn _ (I.base.free b o q n x),I.base.there,fun b xs q=>?_,fun b o u q=>?_,fun b ps q=>?_⟩,I.loc,I.cell,nn _ I.free,fun x c q=>nn _ (I.freeC x c q),fun p hp=>?_,?_,I.len⟩
 . have z:=I.base.tups b xs q;exact nt _ _ z (by rintro rfl;rw [e] at z;cases z)
 . have z:=I.base.frzs b o u q;exact nt _ _ z (by rintro rfl;rw [e] at z;cases z)
 . obtain ⟨more,z⟩:=I.base.tbls b ps q;exact ⟨more,nt _ _ z (by rintro rfl;rw [e] at z;cases z)⟩
 . obtain ⟨z1,z2,z3,z4,z5⟩:=I.pin p hp;exact ⟨z1,nn _ z2,z3,z4,z5⟩
 . intro b u q;have nb:b≠ea:=by rintro rfl;rw [vK] at q;cases q
   rw [ka nb] at q;exact (I.hok b u q).stay (fun _ _ _ r=>r) (fun c r=>nt _ _ r (by rintro rfl;rw [e] at r;cases r)) fun c xs r=>nt _ _ r (by rintro rfl;rw [e] at r;cases r)
end
def Cp (X:Cx) (E:XK):Prop:=∀ (pins:List (Addr × Obj)) (σ:St) (H:Hp) (s:Shared) (ea:Addr) (cls:Value) (od:Option Addr),Inv X pins σ H s->ja s.heap ea cls od .none->Loose X pins H ea->E cls od H->X.xe (.ref ea) s
section
variable {P:Program} {w:World} {K:PySem.W.Frag} {mg:Str->Option Value} {base:Heap} {N:List Str} {qual:Str} {scope:Scope} {f:Addr} {cd:Value} {A:Around} {outer:List Env} {s:Shared} {H:Hp} {E:XK}
theorem p7:Cp (jZ (CXe P w) P w K mg base N qual scope f cd A outer s H E) E:=by
 intro pins σ H1 s1 ea cls od J er le q;refine y3 (base:=base) J.ok.frames J.stack rfl er fun h2 T' er' k nT=>?_;have fr:∀ b∈frs (envOfC qual scope s.heap.objs.size f cd::outer),H1 b=none:=J.stkFree;refine ⟨ea,T',cls,od,H1,rfl,J.os,J.bare,qK J k ?_,m8 J.hok k fr ?_,le.un,o5 J.hok nT,le.new,iV J nT,er',q⟩
 . intro b hb;rw [List.mem_singleton.mp hb];exact le.new
 . intro b hb;rw [List.mem_singleton.mp hb];exact le.un
end
theorem Dp {K:PySem.W.Frag} {h:Heap} {N:Addr} {mg:Str->Option Value} {n:Str} {v:Value} (X:K.In h) (G:h.Ns N mg) (e:PySem.W.nsIn K N n=some (some v)):mg n=some v:=by
 obtain ⟨o,es,ep,ho,hd,_,hf⟩:=G;unfold PySem.W.nsIn at e;split at e
 . rename_i c d es' n' sl q
   have:=X _ _ q;rw [ho] at this;cases this;cases hd;split at e
   . rename_i en he
     cases e;rw [<- hf];unfold nsFind findBy;rw [<- Array.find?_toList,he]
     rfl
   . rename_i he
     split at e <;> cases e
 . cases e
def mx (K:PySem.W.Frag) (C fI:Addr):Prop:=∃ (nm qn:Str) (N:Addr) (bs bm:List Value) (hdct:Bool) (sn:List Str) (sub:List Value) (ab:Bool) (col:Option Bool) (dd:Option Addr) (k0 k1 k2 k3 k5:Option Value),
   K.lookup C=some (excClassObj nm qn C N bs bm hdct sn sub ab col dd k0 k1 k2 k3 k5 "ValueError.__new__")/\PySem.W.nsOkIn K N=true/\PySem.W.nsIn K N "__init__"=some (some (.ref fI))/\PySem.W.tailIn K bmV bm=true/\PySem.W.isFn K (.ref fI)=true
def pZ (C:Addr) (sp:Sp) (E:XK) (t:TA):TS:=fun _ σ H=>t σ H fun vs H1=>vs.length<=sizeLine/\∀ ea,H1 ea=none->sp (.ref ea::vs) (upd H1 ea (ExN ea (.ref C) none)) (fun v H2=>v=.non/\∃ od,H2 ea=some (ExN ea (.ref C) od)/\E (.ref C) od (del H2 ea)) fun _ _ _=>False
section
variable {X:Cx} {x:Str} {np cpos pos:Pos} {e0:Expr} {es:List Expr} {t:TA} {C fI:Addr} {E:XK} {CX:CXT} {k:Nat} {fd:FuncData} {ps:List Str} {sp:Sp}
theorem lB (q:mx X.K C fI) (F:FnOk X.prog X.w X.K X.mg X.base CX k fI fd ps sp) (hq:bH CX) (hr:Room (k+1) X.A) (hb:Binds X.K fd ps []) (hx:X.ex=[]) (hc:X.calm=true) (hR:Cp X E) (hg:Gl X x) (hm:X.mg x=some (.ref C)) (ha:PA X (e0::es) t) (hdb:(x == ("__debug__":Str))=false:=by decide)
   (he:starEach (e0::es) X.env=(false,eval e0 X.env)::starEach es X.env:=by rfl) (hpl:(backTo cpos (starEach es X.env)).any (·.1)=false:=by rfl):PS X (.Raise (some (.Call (.Name x np) (e0::es) [] cpos)) none pos) (pZ C sp E t):=by
 intro pins s σ H D I h;obtain ⟨nm,qn,N,bs,bm,hdct,sn,sub,ab,col,dd,k0,k1,k2,k3,k5,ho,z5,z6,z4,z7⟩:=q;have B:=I.mod.kin;have T0:=PySem.W.tail_of_in B z4;have N0:X.base.Ns N (X.base.nsMap N):=.of_isNs (PySem.W.isNs_of_in B z5);have n0:=Dp B N0 z6;obtain ⟨oI,lI,cI⟩:∃ oI,X.K.lookup fI=some oI/\oI.cls=.type "function":=by
   have z:=beq_iff_eq.mp z7;unfold PySem.W.typeIn at z;exact Option.map_eq_some_iff.mp z
 have hp:(backTo cpos (starEach (e0::es) X.env)).any (·.1)=false:=by
   rw [he];show (false || (backTo cpos (starEach es X.env)).any (·.1))=false;rw [hpl]
   rfl
 refine vp (C:=C) (nm:=nm) (q:=qn) (N:=N) (bs:=bs) (bm:=bm) (hdct:=hdct) (sn:=sn) (sub:=sub) (ab:=ab) (col:=col) (dd:=dd) (k0:=k0) (k1:=k1) (k2:=k2) (k3:=k3) (k5:=k5) PySem.F.excBase_ValueError
   (T0.hasType (by decide +kernel)) (I.ok.hd hc) hp (jG I hg hm ⟨rfl,?_⟩ hdb)
 have g:=ha cpos pins s σ H _ I h;rw [he] at g ⊢;refine Calls.evalArgs_plain (thn g fun us s1 ⟨vs,H1,I1,r1,q1⟩=>⟨rfl,by show us.length<=_;rw [<- r1.length];exact q1.1,X.base.nsMap N,fI,oI,I1.bk _ _ (B _ _ ho),N0.keeps I1.bk,T0.keeps I1.bk,n0,I1.bk _ _ (B _ _ lI),cI,fun h' ea m=>?_⟩);obtain ⟨tt,m1,_,_⟩:=m.there;have le:Loose X pins H1 ea:=by
   obtain ⟨a1,a2,a3⟩:=I1.apart m.new;refine ⟨o5 I1.hok m.new,?_,a1,a2,a3⟩;rcases I1.young m.new with y|y
   . exact y
   . rw [hx] at y;cases y
 have I2:Inv X pins σ (upd H1 ea (ExN ea (.ref C) none)) { s1 with heap:=h' }:=Inv.trackN (I1.kept (t':=s1.toks) m.keeps) le ⟨_,_,m1⟩;have sp1:=q1.2 ea le.un;have r2:Vals (V.ref ea::vs) (Value.ref ea::us):=.cons rfl r1;have hl:(Value.ref ea::us).length=ps.length:=by rw [<- r2.length];exact F.len _ _ _ _ sp1
 refine wpAny_call (codeAny_mono (F.run _ X.stack _ _ ⟨Value.ref ea::us,[]⟩ (Value.ref ea::us) _ _ _ (hr.make C us []) (I2.env0.make C us []) (by have:=hb { s1 with heap:=h' } (Value.ref ea::us) I2.kIn (by rw [List.append_nil];exact hl);rw [List.append_nil] at this;exact this) r2 sp1) fun r s' hq'=>?_);cases r with
 | error e=>exact (hq _ _ _ _ _ hq').elim
 | ok fl =>
   cases fl with
   | ret u =>
     obtain ⟨v,H',I3,rv,ev,od,e3,q3⟩:=I2.after hq';subst ev;obtain rfl:u=Value.none:=rv;obtain ⟨⟨a0,sl,e4⟩,_,_⟩:=(show ObjOk X.prog X.w H' s'.heap ea (ExN ea (.ref C) od) from I3.hok ea _ e3);refine ⟨rfl,I3.bk _ _ (B _ _ ho),⟨a0,od,sl,e4⟩,?_⟩;refine hR pins σ (del H' ea) s' ea (.ref C) od (I3.untrack e3) ⟨_,_,e4,rfl,rfl,rfl,rfl,rfl⟩ ⟨vK,le.new,le.loc,le.cel,le.pin⟩ q3
   | next=>exact False.elim hq'
   | brk=>exact False.elim hq'
   | cont=>exact False.elim hq'
end
structure BaseIn (K:PySem.W.Frag) (Tl:Addr):Prop where
 ga:PySem.W.specialIn K (.ref Tl) "__getattribute__"=some (some (.builtin "type.__getattribute__"))
 rd:PySem.W.readsIn K Tl (.type "type")=true
 fd:PySem.W.findCls K (.ref Tl) (.type "type") "__init__"=some (.val (.builtin "ValueError.__init__"))
def Fd (K:PySem.W.Frag) (t:TA):TE:=fun σ H Q=>t σ H fun vs H1=>∃ ea C fI od au,vs=.ref ea::au/\au.length<=sizeLine/\mx K C fI/\H1 ea=some (ExN ea (.ref C) od)/\Q .non H1
section
variable {X:Cx} {x:Str} {np apos pos:Pos} {e0:Expr} {es:List Expr} {t:TA} {Tl:Addr} {pl:Sem Bool}
theorem Bz (b:BaseIn X.K Tl) (hg:Gl X x) (hm:X.mg x=some (.ref Tl)) (ha:PA X (e0::es) t) (hdb:(x == ("__debug__":Str))=false:=by decide)
   (he:starEach (e0::es) X.env=(false,eval e0 X.env)::starEach es X.env:=by rfl) (hpl:(backTo pos (starEach es X.env)).any (·.1)=false:=by rfl)
   (ht:eval (.Call (.Attribute (.Name x np) "__init__" apos) (e0::es) [] pos) X.env=(do
     let ov <- eval (.Name x np) X.env
     standAt apos.atName
     let (f,first) <- holding [ov] (getMethod ov "__init__" pl)
     callWith pos f first (backTo pos (starEach (e0::es) X.env)) (backToKw pos (keywordEach [] X.env))):=by rfl) :
   PE X (.Call (.Attribute (.Name x np) "__init__" apos) (e0::es) [] pos) (Fd X.K t):=by
 intro pins s σ H Q I h;refine PySem.W.methodCall_KW (pl:=pl) (jG I hg hm ?_ hdb) ht;refine PySem.W.method_cls I.kIn b.ga (PySem.W.cls_value I.kIn b.rd b.fd (by decide +kernel) ?_);have I0:=I.tok (s.toks+1);have g0:=ha pos pins _ σ H _ I0 h;rw [he] at g0 ⊢;refine PySem.W.callWith_of (P:=fun _=>True) (by show ((false || (backTo pos (starEach es X.env)).any (·.1)) || false)=false;rw [hpl];rfl) (fun h _=>⟨.machine,.inr (.inl rfl),.now⟩) (Calls.evalArgs_plain (thn g0 fun us s1 ⟨vs,H1,I1,r1,ea,C,fI,od,au,ev,hl,q,e1,q1⟩=>⟨trivial,?_⟩));subst ev;obtain ⟨u,us',rfl,ru,rr⟩:∃ u us',us=u::us'/\RelV (.ref ea) u/\Vals au us':=by cases r1 with|cons a c=>exact ⟨_,_,rfl,a,c⟩
 obtain rfl:u=Value.ref ea:=ru;obtain ⟨nm,qn,N,bs,bm,hdct,sn,sub,ab,col,dd,k0,k1,k2,k3,k5,ho,z5,z6,z4,z7⟩:=q;have B:=I.mod.kin;have T0:=(PySem.W.tail_of_in B z4).keeps I1.bk;have hC:=I1.bk _ _ (B _ _ ho);obtain ⟨⟨a0,sl,e4⟩,_,_⟩:=(show ObjOk X.prog X.w H1 s1.heap ea (ExN ea (.ref C) od) from I1.hok ea _ e1);have F:=PySem.F.excBase_ValueError;obtain ⟨hp,g,d,tk,os⟩:=s1;refine wpAny_call (codeAny_call_builtin F.init.plain F.initEntry (wpAny_check_init_subT F T0 hC e4 rfl ?_))
 wp_walk
 have ul:us'.length=au.length:=rr.length.symm;rw [if_neg (by rw [List.size_toArray];omega)]
 wp_walk
 have lt:ea<hp.objs.size:=Heap.lt_size e4;have e5:(hp.push { cls:=Value.type "tuple",data:=Data.seq us'.toArray }).get? ea=some { cls:=.ref C,dict:=od,data:=.fields #[a0,.none,.none,.none,.bool false,.none],slots:=sl }:=Heap.get?_push_of_some _ e4;have fin:EP X pins σ Q .none ⟨(hp.push { cls:=Value.type "tuple",data:=Data.seq us'.toArray }).update ea (Obj.mapFields fun x=>x.setIfInBounds 0 (Value.ref hp.objs.size)),g,d,tk,os⟩:=by
   have e6:=Heap.get?_update_self (Obj.mapFields fun x=>x.setIfInBounds 0 (Value.ref hp.objs.size)) e5 rfl;have I2:=I1.write (x:=ea) (e:=ea) (o:=ExN ea (.ref C) od) (t':=tk) (h':=(hp.push { cls:=Value.type "tuple",data:=Data.seq us'.toArray }).update ea (Obj.mapFields fun x=>x.setIfInBounds 0 (Value.ref hp.objs.size))) (by rw [e1];trivial) (.inl rfl) (fun b u n z=>by rw [Heap.get?_update_other _ _ (Ne.symm n)];exact Heap.get?_push_of_some _ z) ⟨_,e6⟩
     ⟨⟨_,_,e6⟩,⟨_,e6⟩,by
       rintro g1 g2 ⟨a,l,a1⟩ kk;exact ⟨a,l,kk _ a1⟩⟩
   have es:upd H1 ea (ExN ea (.ref C) od)=H1:=by
     funext b
     by_cases z:b=ea
     . rw [z,ag,e1]
     . rw [am z]
   rw [es] at I2;exact ⟨.non,H1,I2,rfl,q1⟩
 show wpAny _ _ (match a0 with|Value.ref a=>letGo [a0]|x=>pure ()) _ _ _;cases a0 with
 | ref a=>exact wpAny_letGo (wpAny_pure fin)
 | _=>exact wpAny_pure (wpAny_pure fin)
end
end L2
set_option Elab.async false
set_option linter.all false
set_option maxRecDepth 100000
namespace L2
open PySem PySem.Spec PyProof.Rows PySem.W PySem.Builtin PySem.Builtin.ObjectAttr
theorem CQ (self:Value):refuseLoop self "__setattr__" bmV=pure ():=by kernel_rfl
section
variable {K:PySem.W.Frag} {prog:Program} {w:World} {A:Around} {s:Shared} {x C Tl:Addr} {R:Result->Shared->Prop}
theorem Iu {ox:Obj} {od:Option Obj} {name:Str} {tk:Tok} {v:Value} {cd:ClassData} (X:K.In s.heap) (I:PySem.W.InstAt s.heap x ox C od) (hc:PySem.W.clsIn K C=some cd) (hmro:cd.mro=.ref C::.ref Tl::bmV) (ht:PySem.W.takerIn K C name=some none)
   (h:∀ b,wpAny (model prog w) A.in1 (storeInOwnDict (.ref x) (.ref C) (.str name tk) name v b)
     (fun fin s'=>match fin with|.done f=>R (.ok f) s'|.again c'=>c'.quiet=true/\codeAny (model prog w) A c' R s') (fun e s'=>R (.error e) s') s) :
   codeAny (model prog w) A (.call (.builtin "object.__setattr__") ⟨[.ref x,.str name tk,v],[]⟩) R s:=by
 have SF:=PySem.F.store_object;have ne:cd.mro.isEmpty=false:=by rw [hmro];rfl
 have sub:PySem.W.Looks (model prog w) s.heap (isInstance (.ref x) (.type "object")) true:=I.type.andThen (PySem.W.looks_mroIn X (by unfold PySem.W.mroIn;rw [hc,Option.bind_some,if_neg (by rw [ne];decide),hmro];simp));refine codeAny_call_builtin SF.slot.plain SF.entry (@check_slot (model prog w) _ _ s "object.__setattr__" "object" "__setattr__" (.ref x) [.str name tk,v] [] _ SF.kind SF.split sub (SF.args (.ref x) (.str name tk) v) ?_);obtain ⟨attr,ha,hr⟩:=Option.bind_eq_some_iff.mp ht;have hm:PySem.W.Looks (model prog w) s.heap (mroOf (.ref C)) cd.mro:=(PySem.W.looks_clsIn X hc).andThen .now;have L3:PySem.W.Looks (model prog w) s.heap (storeTaker? attr) none:=by
   cases attr with
   | none=>exact .now
   | some a =>
     obtain ⟨b,hb,z⟩:=Option.map_eq_some_iff.mp hr;refine (PySem.W.looks_takesIn X hb).andThen ?_;cases b
     . exact .now
     . cases z
 rw [PySem.W.osa_eq,refuse_eq];refine wpAny_bind (wpAny_bind (I.type.here (wpAny_bind (hm.here ?_))));rw [hmro,refuseLoop_ref,refuseLoop_ref,CQ];refine wpAny_pure (wpAny_bind (I.type.here (wpAny_bind ((PySem.W.looks_findIn X ha).here (wpAny_bind (L3.here ?_))))));exact h _
theorem Eu {name:Str} {tk:Tok} {v:Value} {b:Bool} {oe:Obj} {vs:Array Value} {cd:ClassData} {Q:Fin->Shared->Prop} {E:Value->Shared->Prop} (X:K.In s.heap) (he:s.heap.get? x=some oe) (h1:oe.cls=.ref C) (h2:oe.dict=none) (h3:oe.data=.fields vs) (hc:PySem.W.clsIn K C=some cd) (hh:cd.hasDict=true)
   (h:∀ h' dx,s.heap.get? dx=none->h'.get? x=some { oe with dict:=some dx }->h'.Ns1 dx (fun y=>if y=name then some v else none)->(∀ c o,c≠x->s.heap.get? c=some o->h'.get? c=some o)->Q (.done (.ret .none)) { s with heap:=h',toks:=s.toks+1 }) :
   wpAny (model prog w) A (storeInOwnDict (.ref x) (.ref C) (.str name tk) name v b) Q E s:=by
 obtain ⟨hp,g,d,t,os⟩:=s;have L:=PySem.W.looks_clsIn (M:=model prog w) X hc;unfold storeInOwnDict ownDictForStores instanceDict;refine wpAny_bind (wpAny_pure ?_);simp only [show (Value.ref C == Value.type "module")=false from rfl,Bool.false_eq_true,if_false];refine wpAny_bind (wpAny_bind (wpAny_loadPart_at he ?_));rw [h1];refine wpAny_bind (L.at ?_);rw [hh,h2,h3];show wpAny _ _ (do let d <- alloc { cls:=Value.type "dict",data:=Data.dict #[] };update x fun o=>{ cls:=o.cls,dict:=some d,data:=o.data,slots:=o.slots };dictMade (Value.ref C) x d) _ _ _;have ex:=Heap.get?_push_of_some { cls:=Value.type "dict",data:=Data.dict #[] } he;have lt:x<hp.objs.size:=Heap.lt_size he;refine wpAny_bind (wpAny_alloc' (wpAny_bind (wpAny_update' (o:=oe) ex ?_)));show wpAny _ _ (pure (some hp.objs.size)) _ _ _;refine wpAny_pure ?_;show wpAny _ _ (storeInDict hp.objs.size (Value.str name tk) name v) _ _ _;unfold storeInDict;refine wpAny_bind (wpAny_pure (wpAny_bind ?_));have ed:((hp.push { cls:=Value.type "dict",data:=Data.dict #[] }).update x fun o=>{ cls:=o.cls,dict:=some hp.objs.size,data:=o.data,slots:=o.slots }).get? hp.objs.size=some { cls:=Value.type "dict",data:=Data.dict #[] }:=by
   rw [Heap.get?_update_other _ _ (Nat.ne_of_lt lt)];exact Heap.get?_push_size _ rfl
 have ns:((hp.push { cls:=Value.type "dict",data:=Data.dict #[] }).update x fun o=>{ cls:=o.cls,dict:=some hp.objs.size,data:=o.data,slots:=o.slots }).Ns1 hp.objs.size (fun _=>none):=by
   refine ⟨_,#[],_,ed,rfl,?_,?_,fun _=>rfl⟩
   . intro e he;simp at he
   . first|exact uniqKeys_empty|(unfold UniqKeys;simp)|(intro i j;simp)|decide
 refine wpAny_nsSet1 (s:=⟨_,g,d,t,os⟩) ns fun h' hn2 hs2=>?_;obtain ⟨oD,esD,epD,hoD,hdD,hcD⟩:=hn2.count (PySem.Within.cons name v (ns:=[]) (fun _ z=>(z rfl).elim));refine wpAny_bind (wpAny_lookBehind hoD (by rw [hdD];exact pastItsLine_dict (Nat.le_trans hcD (by show 1<=sizeLine+1;omega))) ?_);refine wpAny_pure (h h' hp.objs.size (Heap.get?_none_of_le (Nat.le_refl _)) ?_ hn2 fun c o nc e=>?_)
 . rw [hs2.2 _ (Nat.ne_of_lt lt),Heap.get?_update_self _ ex (Obj.isFreed_of_fields h3)]
 . have lc:=Heap.lt_size e;rw [hs2.2 _ (Nat.ne_of_lt lc),Heap.get?_update_other _ _ (Ne.symm nc)];exact Heap.get?_push_of_some _ e
end
section
variable {X:Cx} {pins:List (Addr × Obj)} {σ:St} {H:Hp} {s:Shared}
theorem Inv.trackO {a:Addr} {o:HO} (I:Inv X pins σ H s) (l:Loose X pins H a) (ok:ObjOk X.prog X.w (upd H a o) s.heap a o):Inv X pins σ (upd H a o) s:=by
 have ne:∀ b,b≠a->upd H a o b=H b:=fun b z=>am z;have nt:∀ b u,H b=some u->upd H a o b=some u:=fun b u z=>by rw [ne b (az z l.un)];exact z
 refine ⟨I.ok,I.os,I.bare,⟨I.base.keep,I.base.slot,fun b o q n x=>?_,I.base.there,fun b xs q=>nt _ _ (I.base.tups b xs q),fun b o u q=>nt _ _ (I.base.frzs b o u q),fun b ps q=>?_⟩,I.loc,I.cell,?_,fun x c q=>?_,fun p hp=>?_,?_,I.len⟩
 . rw [ne b (by rintro rfl;rw [l.new] at q;cases q)];exact I.base.free b o q n x
 . obtain ⟨more,z⟩:=I.base.tbls b ps q;exact ⟨more,nt _ _ z⟩
 . rw [ne _ (Ne.symm l.loc)];exact I.free
 . rw [ne _ (l.cel x c q)];exact I.freeC x c q
 . obtain ⟨z1,z2,z3,z4,z5⟩:=I.pin p hp;exact ⟨z1,by rw [ne _ (l.pin p hp)];exact z2,z3,z4,z5⟩
 . intro b u q;by_cases z:b=a
   . subst z;rw [ag] at q;cases q;exact ok
   . rw [ne b z] at q;exact (I.hok b u q).stay (fun _ _ _ r=>r) (fun c r=>nt _ _ r) fun c xs r=>nt _ _ r
end
structure XSet (K:PySem.W.Frag) (C Tl:Addr) (f:Str):Prop where
 sa:PySem.W.findIn K (.ref C) "__setattr__"=some (some (.builtin "object.__setattr__"))
 cd:∃ cd,PySem.W.clsIn K C=some cd/\cd.mro=.ref C::.ref Tl::bmV/\cd.hasDict=true
 tk:PySem.W.takerIn K C f=some none
section
variable {X:Cx} {pins:List (Addr × Obj)} {σ:St} {H:Hp} {s:Shared} {A:Around} {E:Value->Shared->Prop} {ea C Tl:Addr} {f:Str}
theorem IB {y:V} {u:Value} {Q:Unit->Shared->Prop} (h0:X.ex=[]) (I:Inv X pins σ H s) (e:H ea=some (ExN ea (.ref C) none)) (c:XSet X.K C Tl f) (ry:RelV y u)
   (h:∀ s' dx,H dx=none->dx≠ea->Inv X pins σ (upd (upd H ea (ExN ea (.ref C) (some dx))) dx (.xd [(f,y)])) s'->Q () s'):wpAny (model X.prog X.w) A (setAttr (.ref ea) f u) Q E s:=by
 obtain ⟨⟨a0,sl,e4⟩,_,_⟩:=(show ObjOk X.prog X.w H s.heap ea (ExN ea (.ref C) none) from I.hok ea _ e);obtain ⟨cd,hc,hm,hd⟩:=c.cd;have J:PySem.W.InstAt s.heap ea _ C none:=⟨e4,rfl,rfl,trivial⟩;refine PySem.W.set_plain I.kIn J c.sa (Iu (s:={ s with toks:=s.toks+1 }) (Tl:=Tl) I.kIn J hc hm c.tk fun b=>Eu (s:={ s with toks:=s.toks+1 }) I.kIn e4 rfl rfl rfl hc hd fun h' dx nd hx hn kp=>?_);have ne:dx≠ea:=fun z=>by rw [z] at nd;rw [show s.heap.get? ea=none from nd] at e4;cases e4
 have hu:=o5 I.hok nd;have I2:=I.write (x:=ea) (e:=ea) (o:=ExN ea (.ref C) (some dx)) (t':=s.toks+1+1) (h':=h') (by rw [e];trivial) (.inl rfl) (fun b u n z=>kp b u n z) ⟨_,hx⟩
   ⟨⟨_,_,hx⟩,⟨_,hx⟩,by
     rintro g1 g2 ⟨a,l,a1⟩ kk;exact ⟨a,l,kk _ a1⟩⟩
 have l2:Loose X pins (upd H ea (ExN ea (.ref C) (some dx))) dx:=by
   obtain ⟨a1,a2,a3⟩:=I.apart nd;refine ⟨by rw [am ne];exact hu,?_,a1,a2,a3⟩;rcases I.young nd with z|z
   . exact z
   . rw [h0] at z;cases z
 refine h _ dx hu ne (I2.trackO l2 ⟨_,hn,fun g=>?_⟩);show RelO (List.lookup g [(f,y)]) (if g=f then some u else none);by_cases q:g=f
 . rw [if_pos q,q,List.lookup_cons_self];exact ry
 . rw [if_neg q,List.lookup_cons,show (g == f)=false from by simpa using q];trivial
end
def Kc (K:PySem.W.Frag) (ta tv:TE) (f:Str):TS:=fun D σ H=>tv σ H fun y H1=>ta σ H1 fun x H2=>∃ ea C Tl,x=.ref ea/\H2 ea=some (ExN ea (.ref C) none)/\XSet K C Tl f/\∀ dx,H2 dx=none->dx≠ea->D.nx σ (upd (upd H2 ea (ExN ea (.ref C) (some dx))) dx (.xd [(f,y)]))
section
variable {X:Cx} {o value:Expr} {ta tv:TE} {f:Str} {pos pos':Pos}
theorem Iq (h0:X.ex=[]) (ha:PE X o ta) (hv:PE X value tv) (hs:swapsWith value (some (.Attribute o f pos')) pos.line X.env=pure false):PS X (.Assign [.Attribute o f pos'] value pos) (Kc X.K ta tv f):=by
 intro pins s σ H D I h;refine plainObj_wpAny_Assign_Attribute (bh (hv pins s σ H _ I h) fun u s1 y H1 I1 ry q=>bh (ha pins s1 σ H1 _ I1 q) fun ov s2 x H2 I2 rx ⟨ea,C,Tl,ex,e2,c,q2⟩=>?_) hs;subst ex;obtain rfl:ov=Value.ref ea:=rx;exact IB h0 I2 e2 c ry fun s3 dx n1 n2 I3=>⟨σ,_,I3,q2 dx n1 n2⟩
end
section
variable {prog:Program} {w:World} {A:Around} {E:Value->Shared->Prop} {s:Shared} {K:PySem.W.Frag} {x C:Addr} {ox:Obj} {od:Obj}
theorem Im {name:Str} {v:Value} {expr:Bool} {Q:Value->Shared->Prop} (X:K.In s.heap) (I:PySem.W.InstAt s.heap x ox C (some od)) (c:XCls K C) (ha:PySem.W.findIn K (.ref C) name=some none) (hl:PySem.W.lookIn name od=some (some v)) (hv:PySem.W.handedIn v=true)
   (h:Q v { s with toks:=s.toks+1 }):wpAny (model prog w) A (getAttr (.ref x) name expr) Q E s:=by
 obtain ⟨hh,g,dr,t,os⟩:=s;have L0:=I.type (M:=model prog w);have L1:=PySem.W.looks_findIn (M:=model prog w) X c.ga;have L2:=PySem.W.looks_findIn (M:=model prog w) X c.gt;have L3:=PySem.W.looks_find (M:=model prog w) X I (PySem.W.findObj_own c.hd ha rfl hl);have n2:(Value.builtin "BaseException.__getattribute__" == Value.builtin "object.__getattribute__")=false:=by decide +kernel
 have n1:(onTheHeap (Value.ref C) && Value.builtin "BaseException.__getattribute__" == Value.builtin "object.__getattribute__")=false:=by rw [n2];rfl
 have b1:=F.excAttr_ValueError.ga.bind (.ref x);refine wpAny_bind (wpAny_mkText (wpAny_holding (wpAny_bind (L0.at (wpAny_bind (L1.at ?_))))));dsimp only;rw [n1];simp only [Bool.false_eq_true,if_false];unfold getAttrByItsOwn hookBefore callGetattribute boundAndCalled;simp only [onTheHeap,Bool.and_false,Bool.false_eq_true,if_false,if_true];refine wpAny_bind (L2.at (wpAny_bind (wpAny_attempt (wpAny_holding (wpAny_bind (wpAny_of_eq b1 ?_))))));refine wpAny_call (codeAny_call_builtin F.excAttr_ValueError.ga.plain F.entry_bexc_ga (yH X I c ?_));unfold Builtin.«object.__getattribute__»
 repeat lk
 show wpAny _ _ (handedOut v) _ _ _;exact PySem.W.handed_on hv h
end
def Hs (K:PySem.W.Frag) (f:Str) (x:V) (H:Hp) (Q:VK):Prop:=∃ ea C dx fs v,x=.ref ea/\H ea=some (ExO ea (.ref C) (some dx))/\XCls K C/\PySem.W.findIn K (.ref C) f=some none/\H dx=some (.xd fs)/\fs.lookup f=some v/\Q v H
section
variable {X:Cx} {o:Expr} {ta:TE} {f:Str} {pos:Pos}
theorem II {pins:List (Addr × Obj)} {σ:St} {H:Hp} {s:Shared} {x:V} {ov:Value} {Q:VK} {b:Bool} (I:Inv X pins σ H s) (rx:RelV x ov) (h:Hs X.K f x H Q):wpAny (model X.prog X.w) X.A (getAttr ov f b) (EP X pins σ Q) X.xe s:=by
 obtain ⟨ea,C,dx,fs,v,rfl,he,c,hn,hd,hl,q⟩:=h;obtain rfl:ov=Value.ref ea:=rx;obtain ⟨⟨oe,vs,h1,h2,h3,h4,_⟩,_,_⟩:=(show ObjOk X.prog X.w H s.heap ea (ExO ea (.ref C) (some dx)) from I.hok ea _ he);obtain ⟨mA,ns,rl⟩:=(show ObjOk X.prog X.w H s.heap dx (.xd fs) from I.hok dx _ hd);obtain ⟨od,ho,lk⟩:=yA ns;obtain ⟨u,hu,ru⟩:=RelO.some_of (v:=v) (o:=mA f) (by rw [<- hl];exact rl f);have J:PySem.W.InstAt s.heap ea oe C (some od):=⟨h1,h2,by unfold PySem.W.notCls;rw [h4],by rw [h3];exact ho⟩;exact Im I.kIn J c hn (by rw [lk,hu]) (yo ru) ⟨v,H,I.tok _,ru,q⟩
theorem IJ (K:PySem.W.Frag) (hK:X.K=K) (he:PE X o ta) (hb:attributeBase o f X.env (eval o X.env)=eval o X.env):PE X (.Attribute o f pos) (fun σ H Q=>ta σ H fun x H1=>Hs K f x H1 Q):=by
 subst hK;intro pins s σ H Q I h;exact Cw hb (bh (he pins s σ H _ I h) fun u s1 x H1 I1 rx q=>II I1 rx q)
end
theorem IK {K:PySem.W.Frag} {C Tl:Addr} {f:Str} {c0:Value} {dd:Option Addr} {cd:ClassData} {sl:Array (Option Value)} (l:K.lookup C=some ⟨c0,dd,.cls cd,sl⟩) (m:cd.mro=.ref C::.ref Tl::bmV) (h:PySem.W.hasDictIn K C=true)
   (s:PySem.W.findIn K (.ref C) "__setattr__"=some (some (.builtin "object.__setattr__"))) (a:PySem.W.findIn K (.ref C) f=some none):XSet K C Tl f:=by
 obtain ⟨cd',e,hd⟩:=PySem.W.any_some h;have e2:PySem.W.clsIn K C=some cd:=by unfold PySem.W.clsIn;rw [l]
 rw [e2] at e;cases e;exact ⟨s,⟨cd,e2,m,hd⟩,by unfold PySem.W.takerIn;rw [a];rfl⟩
theorem GN {K:PySem.W.Frag} {C fI:Addr} {o:Obj} (nm qn:Str) (N:Addr) (bs bm:List Value) (hdct:Bool) (sn:List Str) (sub:List Value) (ab:Bool) (col:Option Bool) (dd:Option Addr) (k0 k1 k2 k3 k5:Option Value) (l:K.lookup C=some o)
   (e:o=excClassObj nm qn C N bs bm hdct sn sub ab col dd k0 k1 k2 k3 k5 "ValueError.__new__") (a:PySem.W.nsOkIn K N=true) (b:PySem.W.nsIn K N "__init__"=some (some (.ref fI))) (c:PySem.W.tailIn K bmV bm=true) (d:PySem.W.isFn K (.ref fI)=true):mx K C fI:=by
 subst e;exact ⟨_,_,_,_,_,_,_,_,_,_,_,_,_,_,_,_,l,a,b,c,d⟩
end L2
set_option Elab.async false
set_option linter.all false
set_option maxRecDepth 100000
namespace L2
open PySem
def ET (K:PySem.W.Frag) (C':Addr) (ts:TS) (tr:TH):TH:=fun D σ cls od H=>∃ C b,cls=.ref C/\PySem.W.mroIn K C (.ref C')=some b/\if b=true then ts D σ H else tr D σ cls od H
section
variable {X:Cx} {x:Str} {np pos:Pos} {C':Addr} {b0:Stmt} {suite:List Stmt} {au:List ExceptHandler} {ts:TS} {tr:TH}
end
end L2
namespace Pb
open L2 PySem
theorem pV {H:Hp} {ea dx:Addr} {a b c:HO} (ne:H ea=none) (nd:upd H ea a dx=none) (nde:dx≠ea):Same H (del (upd (upd (upd H ea a) ea b) dx c) ea):=fun q o e=>by
 have n1:q≠ea:=az e ne;have n2:q≠dx:=fun z=>by rw [z] at e;rw [am nde,e] at nd;cases nd
 rw [ka n1,am n2,am n1,am n1];exact e
end Pb
set_option Elab.async false
set_option linter.all false
set_option maxRecDepth 100000
namespace Pb
open L2 PySem
section
variable {m:Int} {rs:List Road}
end
section
variable {m:Int} {rs:List Road} {r:Int} {par:Int->Int} {dep:Int->Nat} {st:Int->Int} {xs ys:List Int}
end
end Pb
set_option Elab.async false
set_option linter.all false
set_option maxRecDepth 100000
namespace L2
open PySem PySem.Spec PyProof.Rows
section
variable {X:Cx}
def Jj (t:TE):TE:=fun σ H Q=>t σ H fun x H1=>∃ b,x=.bl b/\Q (.bl (b == true)) H1
end
end L2
namespace Pb
open L2 PySem
section
variable {m:Int} {rs:List Road} {r:Int} {par:Int->Int} {dep:Int->Nat} {P:Int->Int} {xs:List Int}
end
end Pb
set_option Elab.async false
set_option linter.all false
set_option maxRecDepth 100000
namespace Pb
open L2 PySem
def Reach (rs:List Road) (ks:List Int):Prop:=∀ S:Int->Prop,S 0->(∀ r∈rs,(S r.a↔S r.b))->∀ k∈ks,S k
theorem Reach.start {rs:List Road}:Reach rs [0]:=fun S s0 _ k hk=>by rw [List.mem_singleton.mp hk];exact s0
theorem Reach.add {rs:List Road} {ks:List Int} (h:Reach rs ks) {p e:Int} (hp:p∈ks) (he:e∈cY rs p):Reach rs (ks++[e]):=fun S s0 hS k hk=>by
 rcases List.mem_append.mp hk with z|z
 . exact h S s0 hS k z
 . rw [List.mem_singleton.mp z];have sp:=h S s0 hS p hp;obtain ⟨r,hr,y⟩:=li.mp he;rcases y with ⟨y1,y2⟩|⟨y1,y2⟩
   . rw [<- y2];rw [<- y1] at sp;exact (hS r hr).mp sp
   . rw [<- y2];rw [<- y1] at sp;exact (hS r hr).mpr sp
theorem Reach.joined {m:Int} {rs:List Road} {ks:List Int} (h:Reach rs ks) (m0:0<=m) (nd:ks.Nodup) (rng:∀ k∈ks,0<=k/\k<m) (l:(ks.length:Int)=m):lF m rs:=fun S s0 hS v v0 v1=>by
 have all:v∈ks:=by
   refine Classical.byContradiction fun z=>?_;have:=eU m0 (q9 nd z) fun x hx=>by
     rcases List.mem_append.mp hx with y|y
     . exact rng x y
     . rw [List.mem_singleton.mp y];exact ⟨v0,v1⟩
   rw [List.length_append,List.length_singleton] at this;omega
 exact h S s0 hS v all
theorem vt {m:Int} {r:Road}:RoadOk m r↔((0<=r.a/\r.a<m)/\(0<=r.b/\r.b<m)/\r.a≠r.b)/\((2<=r.t/\r.t<=1000000)/\(2<=r.u/\r.u<=1000000)) :=
 ⟨fun h=>⟨⟨⟨h.a0,h.a1⟩,⟨h.b0,h.b1⟩,h.ne⟩,⟨h.t0,h.t1⟩,⟨h.u0,h.u1⟩⟩,fun ⟨⟨a,b,c⟩,d,e⟩=>⟨a.1,a.2,b.1,b.2,c,d.1,d.2,e.1,e.2⟩⟩
end Pb
set_option Elab.async false
set_option linter.all false
set_option maxRecDepth 100000
namespace L2
open PySem PySem.Spec PyProof.Rows
section
variable {prog:Program} {w:World} {A:Around} {E:Value->Shared->Prop} {s:Shared}
end
section
variable {X:Cx} {tg:Expr} {Nc:List Str} {own:Nat} {js:List Nat} {scope:Scope} {cl:List (Str × Addr)}
end
section
variable {X:Cx} {x n:Str} {np pos:Pos} {i:Nat} {C':Addr} {b0:Stmt} {suite:List Stmt} {au:List ExceptHandler} {ts:Addr->TS} {tr:TH}
end
end L2
namespace Pb
open L2 PySem
end Pb
set_option Elab.async false
set_option linter.all false
set_option maxRecDepth 100000
namespace Pb
open L2 PySem
end Pb
set_option Elab.async false
set_option linter.all false
set_option maxRecDepth 100000
namespace L2
open PySem
end L2
namespace Pb
open PySem L2
theorem vF {α β:Type} {R:α->β->Prop} {a:α} {b:β} (e:R a b):∀ {l:List α} {l':List β},Paired R l l'->Paired R (l++[a]) (l'++[b])
 | _,_,.nil=>.cons e .nil
 | _,_,.cons x xs=>.cons x (vF e xs)
section
variable {m:Int} {rs:List Road} {r:Int} {par:Int->Int} {dep:Int->Nat} {nd:Int->Int}
end
end Pb
set_option Elab.async false
set_option linter.all false
set_option maxRecDepth 100000
namespace Pb
open PySem L2
section
variable {m:Int} {rs:List Road} {r:Int} {par:Int->Int} {dep:Int->Nat} {nd:Int->Int}
variable {w:Int->Int}
variable {x st bl:Int->Int}
end
end Pb
set_option Elab.async false
set_option linter.all false
set_option maxRecDepth 100000
namespace Pb
open PySem L2
section
variable {m:Int} {rs:List Road} {r:Int} {par:Int->Int} {dep:Int->Nat} {nd w:Int->Int}
end
end Pb
set_option Elab.async false
set_option linter.all false
set_option maxRecDepth 100000
namespace L2
open PySem PySem.Spec PyProof.Rows
section
variable {X:Cx}
def Hr (t:TE):TE:=fun σ H Q=>t σ H fun x H1=>∃ b,x=.bl b/\Q (.bl (b != false)) H1
end
end L2
namespace L2
open PySem Pb
end L2
set_option Elab.async false
set_option linter.all false
set_option maxRecDepth 100000
namespace Pb
open PySem L2
section
variable {m:Int} {rs:List Road} {r:Int} {par:Int->Int} {dep:Int->Nat} {nd w:Int->Int}
end
end Pb
set_option Elab.async false
set_option linter.all false
set_option maxRecDepth 100000
namespace Pb
open PySem L2
section
variable {m:Int} {rs:List Road} {r:Int} {par:Int->Int} {dep:Int->Nat} {near t u:Int}
end
end Pb
set_option Elab.async false
set_option linter.all false
set_option maxRecDepth 100000
namespace Pb
open PySem L2
section
variable {m:Int} {rs:List Road} {r:Int} {par:Int->Int} {dep:Int->Nat} {nd w:Int->Int}
end
end Pb
set_option Elab.async false
set_option linter.all false
set_option maxRecDepth 100000
namespace Pb
open PySem L2
section
variable {m:Int} {rs:List Road} {r:Int} {par:Int->Int} {dep:Int->Nat} {nd w:Int->Int}
end
end Pb
set_option Elab.async false
set_option linter.all false
set_option maxRecDepth 100000
namespace L2
open PySem PySem.Spec PyProof.Rows
def Hy (i j:Nat) (ta:TA):TS:=fun D σ H=>ta σ H fun vs H1=>∃ v w,vs=[v,w]/\D.nx ((σ.set i (some v)).set j (some w)) H1
end L2
namespace Pb
open PySem L2
end Pb
set_option Elab.async false
set_option linter.all false
set_option maxRecDepth 100000
namespace Pb
open PySem L2
end Pb
set_option Elab.async false
set_option linter.all false
set_option maxRecDepth 100000
namespace Pb
open L2 PySem PySem.W NumText
section
variable {CX:CXT} {X:Cx} {x:Str} {p pos:Pos} {e:Expr} {ex:XK->TE} {T:String} {r:List V->Hp->VK->Prop}
theorem uT (hc:dI X.nox (.type T) r) (hg:Gl X x) (hm:X.mg x=none) (hv:bootBuiltins x=some (.type T)) (ha:PEx CX X e ex) (hn:x≠"__name__":=by decide) (hdb:(x == ("__debug__":Str))=false:=by decide)
   (he:starEach [e] X.env=(false,eval e X.env)::starEach [] X.env:=by rfl):PEx CX X (.Call (.Name x p) [e] [] pos) (fun E σ H Q=>ex E σ H fun v H1=>r [v] H1 Q):=by
 intro E pins s σ H Q I h;refine wpAny_Call_Name_kw (pN I hg hm hv ?_ hn hdb);refine PyProof.Rows.callWith_type1 ?_ he rfl;rw [he];refine Calls.spliced_cons (wpAny_mono (ha E pins s σ H _ I h) (fun u s1 ⟨v,H1,I1,r1,q1⟩=>Calls.spliced_nil ?_) fun _ _ z=>z);exact wpAny_mono (hc pins s1 σ H1 [v] [u] Q (I1.wish _) (.cons r1 .nil) q1) (fun _ _ ⟨v,H',I',r,q⟩=>⟨v,H',I'.unwish,r,q⟩) fun _ _ z=>False.elim z
end
theorem Eg {X:Cx}:MtM X "str.index" (fun x vs H Q=>∃ z y i au,x=.str z/\vs=[.str y]/\Builtin.Str.occurrences z y 0 z.length 1=i::au/\Q (.int ((i:Nat):Int)) H):=by
 intro pins s σ H x vs v us Q I rx rv h;obtain ⟨z,y,i,au,rfl,rfl,ho,q⟩:=h;obtain ⟨t,rfl⟩:=rx;obtain ⟨u',rfl,u,rfl⟩:=iP rv;exact PySem.call_gives PySem.F.slot_str_index (typeIs_str _ _ _) PySem.F.entry_str_index (PySem.F.args_str_index_2 _ _) (PySem.gives_str_index z y t u i au ho) ⟨.int (i:Nat),H,I.tok _,⟨_,rfl⟩,q⟩
theorem JC:∀ d:Nat,d<10->Builtin.Str.occurrences (Str.ofString "0123456789") ⟨#[48+d]⟩ 0 (Str.ofString "0123456789").length 1=[d]:=by decide +kernel
theorem GB {z:Str} {g:TG} {tb:TS} {D:Ends} {σ:St} {H:Hp} (Pv:Nat->St->Hp->Prop) (h0:Pv 0 σ H)
   (hs:∀ (i c:Nat) (σ:St) (H:Hp) (N:St->Hp->Prop),(∀ σ' H',Pv (i+1) σ' H'->N σ' H')->z.cps.toList[i]?=some c->Pv i σ H->g (.str ⟨#[c]⟩) σ H fun σ2 H2=>tb { D with nx:=N,ct:=N,bk:=D.nx } σ2 H2) (hd:∀ σ H,Pv z.cps.toList.length σ H->D.nx σ H) :
   ou (Its z) D g tb σ H:=by
 have sz:z.cps.size=z.cps.toList.length:=by simp
 refine ⟨fun i m σ H=>m=z.cps.toList.length - i/\i<=z.cps.toList.length/\Pv i σ H,⟨z.cps.toList.length,by simp,Nat.zero_le _,h0⟩,?_⟩;rintro i m σ H ⟨rfl,hi,pv⟩;by_cases hlt:i<z.cps.toList.length
 . refine .inr ⟨by show i<z.cps.size;omega,Pv (i+1),fun σ' H' pv'=>⟨z.cps.toList.length - (i+1),by omega,rfl,hlt,pv'⟩,fun x H' y=>?_⟩;obtain ⟨rfl,c,hc,rfl⟩:=y;exact hs i c σ _ (Pv (i+1)) (fun _ _ z=>z) (by rw [Array.getElem?_toList];exact hc) pv
 . have e:i=z.cps.toList.length:=by omega
   subst e;exact .inl ⟨by show z.cps.size<=_;omega,hd σ H pv⟩
def nv (l:List Nat):Nat:=l.foldl (fun a c=>a*10+(c - 48)) 0
theorem CL (l:List Nat) (d:Nat):nv (l++[d])=nv l*10+(d - 48):=by
 unfold nv;rw [List.foldl_append]
 rfl
structure Fig (l:List Nat):Prop where
 len1:1<=l.length
 len60:l.length<=60
 all:∀ c∈l,48<=c/\c<=57
 lead:l=[48]\/l.head?≠some 48
theorem Cj:∀ (k:Nat) (l:List Nat),l.length=k->l≠[]->(∀ c∈l,48<=c/\c<=57)->(l=[48]\/l.head?≠some 48)->gL (nv l)=l/\(l.head?≠some 48->0<nv l)/\nv l<10^l.length
 | 0,l,hk,ne,_,_=>absurd (List.length_eq_zero_iff.mp hk) ne
 | k+1,l,hk,ne,al,ld=>by
   obtain ⟨i,d,e⟩:=(List.eq_nil_or_concat l).resolve_left ne;rw [List.concat_eq_append] at e;subst e;have hd:=al d (by simp);rw [CL,List.length_append,List.length_singleton,Nat.pow_succ];by_cases hi:i=[]
   . subst hi;have z:nv []=0:=rfl;rw [z,Nat.zero_mul,Nat.zero_add];refine ⟨?_,fun h=>?_,?_⟩
     . rw [k9 (by omega),show 48+(d - 48)=d by omega]
       rfl
     . have:d≠48:=fun z=>h (by rw [z];rfl);omega
     . show d - 48<1*10;omega
   . have hh:(i++[d]).head?=i.head?:=by
       cases i with
       | nil=>exact absurd rfl hi
       | cons _ _=>rfl
     have h48:i.head?≠some 48:=by
       rcases ld with h|h
       . have:=congrArg List.length h;rw [List.length_append] at this;have p:=List.length_pos_iff.mpr hi;rw [List.length_singleton,List.length_singleton] at this;omega
       . rw [hh] at h;exact h
     obtain ⟨h1,h2,h3⟩:=Cj k i (by rw [List.length_append] at hk;simpa using hk) hi (fun c hc=>al c (List.mem_append.mpr (.inl hc))) (.inr h48);have p:=h2 h48;refine ⟨?_,fun _=>by omega,by omega⟩;rw [qd (by omega),show (nv i*10+(d - 48)) / 10=nv i by omega,h1,show 48+(nv i*10+(d - 48)) % 10=d by omega]
theorem Fig.fs {w:Str} (h:Fig w.cps.toList):w=FS (nv w.cps.toList)/\nv w.cps.toList<10^60:=by
 have ne:w.cps.toList≠[]:=fun z=>by have:=h.len1;rw [z] at this;simp at this
 obtain ⟨h1,_,h3⟩:=Cj _ _ rfl ne h.all h.lead;exact ⟨mH (by rw [pJ,h1]),Nat.lt_of_lt_of_le h3 (Nat.pow_le_pow_right (by decide) h.len60)⟩
theorem Fn {n:Nat} (h:n<10^60):Fig (FS n).cps.toList:=by
 rw [pJ];refine ⟨List.length_pos_iff.mpr (CA n),iC 59 n h,qS n,?_⟩;by_cases z:n=0
 . subst z;exact .inl rfl
 . obtain ⟨c,r,e,hc⟩:=ER n (by omega);refine .inr ?_;rw [e];exact fun q=>hc (by injection q)
theorem J9 (n:Nat) (h:n<10^60):nv (FS n).cps.toList=n:=by
 have:=(Fn h).fs.1;have e:=congrArg (fun s:Str=>digitsVal s.cps.toList) this;simp only [pJ,A8] at e;exact e.symm
open Classical in
noncomputable def numW (w:Str):Option Nat:=if Fig w.cps.toList then some (nv w.cps.toList) else none
theorem tZ {w:Str} {n:Nat}:numW w=some n↔n<10^60/\w=FS n:=by
 unfold numW
 constructor
 . intro h;split at h
   . next f =>
     injection h with h
     rw [<- h];exact ⟨f.fs.2,f.fs.1⟩
   . cases h
 . rintro ⟨h,rfl⟩;rw [if_pos (Fn h),J9 n h]
theorem lL {w:Str}:numW w=none↔¬ Fig w.cps.toList:=by
 unfold numW;split
 . next f=>exact ⟨fun h=>(by cases h),fun h=>absurd f h⟩
 . next f=>exact ⟨fun _=>f,fun _=>rfl⟩
theorem yG {c:Nat}:(!(Builtin.Str.occurrences (Str.ofString "0123456789") ⟨#[c]⟩ 0 (Str.ofString "0123456789").length 1).isEmpty)=decide (48<=c/\c<=57):=by
 by_cases h:48<=c/\c<=57
 . rw [Kd h,decide_eq_true h]
 . rw [StrLaws.found_one,decide_eq_false h,decide_eq_false_iff_not];intro m;have l:(Str.ofString "0123456789").cps.toList=[48,49,50,51,52,53,54,55,56,57]:=by decide +kernel
   rw [l] at m;simp at m;omega
def ig (z:Str):List Str:=if z=Str.ofString "" then [] else Txt.split z (Str.ofString " ")
def WOk (w:Str):Prop:=(w.cps.all fun x=>decide (x<128))=true/\w.length<=60000
def iw (z:Str):List Str:=if z=Str.ofString "." then [] else Txt.split z (Str.ofString " / ")
def wsp (z:Str):List Str:=Txt.split z (Str.ofString " ")
def zT (p:Str) (ns:List Nat):Prop:=(wsp p).map numW=ns.map some/\ns.length=3
def KB (p:Str):Prop:=p.length<=60000/\(wsp p).length<=2000/\∀ w∈wsp p,WOk w
theorem CD:∀ {ws:List Str},(∀ w∈ws,numW w≠none)->∃ ns:List Nat,ws.map numW=ns.map some
 | [],_=>⟨[],rfl⟩
 | w::ws,h=>by
   obtain ⟨ns,e⟩:=CD (ws:=ws) fun x hx=>h x (.tail _ hx);cases hw:numW w with
   | none=>exact absurd hw (h w (.head _))
   | some n=>exact ⟨n::ns,by rw [List.map_cons,List.map_cons,hw,e]⟩
end Pb
set_option Elab.async false
set_option linter.all false
set_option maxRecDepth 100000
namespace L2
open PySem PySem.Spec PyProof.Rows
def rSlS:V->Option Int->Option Int->Hp->VK->Prop:=fun x lo hi H Q=>∃ z,x=.str z/\z.length<=sizeLine/\Q (.str (Txt.slice z lo hi)) H
theorem E2 {X:Cx}:SlR X rSlS:=by
 intro pins s σ H x v vl vu lo hi sl Q I rx hs pl pu h;obtain ⟨z,rfl,hz,q⟩:=h;obtain ⟨t,rfl⟩:=rx;refine ⟨"str",_,PySem.F.slot_str_getitem.lookup,typeIs_str _ _ _,?_⟩;have fin:∀ t' k,EP X pins σ Q (.str (Txt.slice z lo hi) t') { s with toks:=k }:=fun t' k=>⟨.str _,H,I.tok _,⟨_,rfl⟩,q⟩;obtain ⟨o,h1,h2,h3⟩:=hs;cases pl with
 | none =>
   cases pu with
   | none=>exact wpAny_getItem_str_slice (l:=none) (u:=none) (st:=none) ⟨o,h1,h2,h3⟩ rfl (post_val_or_str ⟨Nat.le_trans (Txt.slice_le z _ _) hz,fin⟩)
   | int j uj=>exact wpAny_getItem_str_slice (l:=none) (u:=some (j,uj)) (st:=none) ⟨o,h1,h2,h3⟩ rfl (post_val_or_str ⟨Nat.le_trans (Txt.slice_le z _ _) hz,fin⟩)
 | int i ui =>
   cases pu with
   | none=>exact wpAny_getItem_str_slice (l:=some (i,ui)) (u:=none) (st:=none) ⟨o,h1,h2,h3⟩ rfl (post_val_or_str ⟨Nat.le_trans (Txt.slice_le z _ _) hz,fin⟩)
   | int j uj=>exact wpAny_getItem_str_slice (l:=some (i,ui)) (u:=some (j,uj)) (st:=none) ⟨o,h1,h2,h3⟩ rfl (post_val_or_str ⟨Nat.le_trans (Txt.slice_le z _ _) hz,fin⟩)
theorem xB {X:Cx}:OpR X (binaryOp .Mult) (fun x y H Q=>∃ z n,x=.str z/\y=.int n/\MulOk z n/\Q (.str (Txt.mul z n)) H):=by
 intro pins s σ H x y v u Q I rx ry h;obtain ⟨z,n,rfl,rfl,hm,q⟩:=h;obtain ⟨t,rfl⟩:=rx;obtain ⟨t',rfl⟩:=ry;exact SB.mul hm fun t' k=>⟨.str _,H,I.tok _,⟨_,rfl⟩,q⟩
end L2
namespace Pb
open L2 PySem PySem.W NumText
theorem yB {z:Str} {l u:Option Int}:∀ c∈(Txt.slice z l u).cps.toList,c∈z.cps.toList:=fun c hc=>by
 unfold Txt.slice at hc;split at hc
 . exact hc
 . simp only [List.mem_filterMap] at hc;obtain ⟨i,_,hi⟩:=hc;exact List.mem_of_getElem? (by rw [Array.getElem?_toList];exact hi)
theorem yI {s:List Nat}:∀ {l:List (List Nat)} {x:List Nat},x∈l->(∀ c∈x,c∈ci s l)/\x.length<=(ci s l).length
 | [],x,h=>by cases h
 | [y],x,h=>by rw [List.mem_singleton.mp h];exact ⟨fun _ z=>z,Nat.le_refl _⟩
 | y::y'::r,x,h=>by
   have e:ci s (y::y'::r)=y++s++ci s (y'::r):=rfl;rw [e];rcases List.mem_cons.mp h with rfl|h
   . exact ⟨fun c hc=>List.mem_append.mpr (.inl (List.mem_append.mpr (.inl hc))),by rw [List.length_append,List.length_append];omega⟩
   . obtain ⟨h1,h2⟩:=yI (s:=s) h;exact ⟨fun c hc=>List.mem_append.mpr (.inr (h1 c hc)),by rw [List.length_append];omega⟩
theorem yy {s:List Nat} (hs:1<=s.length):∀ l:List (List Nat),l.length<=(ci s l).length+1
 | []=>Nat.zero_le _
 | [y]=>by rw [List.length_singleton];omega
 | y::y'::r=>by
   have e:ci s (y::y'::r)=y++s++ci s (y'::r):=rfl;have:=yy hs (y'::r);rw [e,List.length_append,List.length_append,List.length_cons];omega
theorem rS (z y:Str):ci y.cps.toList ((Txt.split z y).map (·.cps.toList))=z.cps.toList:=by
 have e:=congrArg (fun s:Str=>s.cps.toList) (StrLaws.join_split z y);simp only [fg] at e;exact e
theorem yK {z y p:Str} (h:p∈Txt.split z y):(∀ c∈p.cps.toList,c∈z.cps.toList)/\p.length<=z.length:=by
 obtain ⟨h1,h2⟩:=yI (s:=y.cps.toList) (List.mem_map.mpr ⟨p,h,rfl⟩:p.cps.toList∈(Txt.split z y).map (·.cps.toList));rw [rS] at h1 h2;exact ⟨h1,by rw [bi,bi];exact h2⟩
theorem yC {z y:Str} (hy:1<=y.length):(Txt.split z y).length<=z.length+1:=by
 have:=yy (s:=y.cps.toList) (by rw [<- bi];exact hy) ((Txt.split z y).map (·.cps.toList));rw [rS,List.length_map,<- bi] at this;exact this
theorem qO (z y:Str):Txt.split z y≠[]:=fun e=>by
 have n:=PyProof.Rows.split_pos z y;rw [e] at n;simp at n
def Pl (z:Str):Prop:=∀ c∈z.cps.toList,c<128/\c≠10
theorem Pl.wok {z:Str} (h:Pl z) (l:z.length<=60000):WOk z:=by
 refine ⟨?_,l⟩;rw [Array.all_eq_true_iff_forall_mem];intro x hx;rw [decide_eq_true_eq];exact (h x (by simpa using hx)).1
theorem Pl.sub {z w:Str} (h:Pl z) (hw:∀ c∈w.cps.toList,c∈z.cps.toList):Pl w:=fun c hc=>h c (hw c hc)
theorem Pl.app {a b:Str} (h:Pl a) (g:Pl b):Pl (a++b):=fun c hc=>by
 rw [app_list] at hc;exact (List.mem_append.mp hc).elim (h c) (g c)
theorem Pl.join {s:Str} {l:List Str} (hs:Pl s) (hl:∀ w∈l,Pl w):Pl (Str.join s l):=fun c hc=>by
 rw [fg] at hc;rcases yL hc with hc|⟨x,hx,hc⟩
 . exact hs c hc
 . obtain ⟨w,hw,rfl⟩:=List.mem_map.mp hx;exact hl w hw c hc
theorem Pl.fs (n:Nat):Pl (FS n):=fun c hc=>by
 have:=qS n c hc;omega
theorem Pl.row {z:Str} (h:Pl z):10 ∉ z.cps.toList:=fun e=>(h 10 e).2 rfl
structure Rw (z:Str):Prop where
 pl:Pl z
 len:z.length<=1900
theorem Rw.wsp {z:Str} (h:Rw z):z.length<=60000/\(wsp z).length<=2000/\∀ w∈wsp z,WOk w:=by
 have:=h.len;have c:(Pb.wsp z).length<=z.length+1:=yC (y:=Str.ofString " ") (by decide);refine ⟨by omega,by omega,fun w hw=>?_⟩;have s:=yK hw;exact (h.pl.sub s.1).wok (by omega)
def rj:Option Nat->V
 | some n=>.int (n:Int)
 | none=>.non
theorem Ct:∀ {ws:List Str} {ns:List Nat},ws.map numW=ns.map some->ws.map (fun w=>rj (numW w))=vNs ns
 | [],[],_=>rfl
 | [],_::_,e=>by cases e
 | _::_,[],e=>by cases e
 | w::ws,n::ns,e=>by
   obtain ⟨e1,e2⟩:=List.cons.inj e;rw [List.map_cons,Ct e2,e1]
   rfl
theorem Ik (ws:List Str):(∃ w∈ws,numW w=none)/\inV V.non (ws.map fun w=>rj (numW w))=true\/∃ ns:List Nat,ws.map numW=ns.map some/\inV V.non (ws.map fun w=>rj (numW w))=false:=by
 by_cases bad:∃ w∈ws,numW w=none
 . refine .inl ⟨bad,?_⟩;unfold inV;rw [List.any_eq_true];obtain ⟨w,hw,z⟩:=bad;exact ⟨_,List.mem_map.mpr ⟨w,hw,rfl⟩,by rw [z];rfl⟩
 . obtain ⟨ns,en⟩:=CD (ws:=ws) (fun w hw z=>bad ⟨w,hw,z⟩);refine .inr ⟨ns,en,?_⟩;rw [<- Bool.not_eq_true];unfold inV;rw [List.any_eq_true];rintro ⟨x,hx,hz⟩;obtain ⟨w,hw,rfl⟩:=List.mem_map.mp hx;cases hn:numW w with
   | none=>exact bad ⟨w,hw,hn⟩
   | some n=>rw [hn] at hz;cases hz
theorem Co:∀ {ws:List Str} {ns:List Nat},ws.map numW=ns.map some->ws=ns.map FS/\∀ n∈ns,n<10^60
 | [],[],_=>⟨rfl,fun _ h=>by cases h⟩
 | [],_::_,e=>by cases e
 | _::_,[],e=>by cases e
 | w::ws,n::ns,e=>by
   obtain ⟨e1,e2⟩:=List.cons.inj e;obtain ⟨h1,h2⟩:=Co e2;obtain ⟨g1,g2⟩:=tZ.mp e1;exact ⟨by rw [List.map_cons,g2,h1],fun x hx=>by
     rcases List.mem_cons.mp hx with rfl|hx
     . exact g1
     . exact h2 x hx⟩
theorem Ix {ns:List Nat} (h:∀ n∈ns,n<10^60):(ns.map FS).map numW=ns.map some:=by
 rw [List.map_map];exact List.map_congr_left fun n hn=>tZ.mpr ⟨h n hn,rfl⟩
theorem Iz (zs:List V) {a b:Int} (a0:0<=a) (ab:a<=b):lV zs (some a) (some b)=(zs.drop a.toNat).take (b - a).toNat:=by
 unfold lV;have e1:HT.sIx zs.length 0 (some a)=min a.toNat zs.length:=by
   show (if a<0 then (a+(zs.length:Int)).toNat else min a.toNat zs.length)=_;rw [if_neg (by omega)]
 have e2:HT.sIx zs.length zs.length (some b)=min b.toNat zs.length:=by
   show (if b<0 then (b+(zs.length:Int)).toNat else min b.toNat zs.length)=_;rw [if_neg (by omega)]
 have e3:zs.drop (min a.toNat zs.length)=zs.drop a.toNat:=by
   by_cases c:a.toNat<=zs.length
   . rw [Nat.min_eq_left c]
   . rw [Nat.min_eq_right (by omega),List.drop_of_length_le (Nat.le_refl _),List.drop_of_length_le (by omega)]
 rw [e1,e2,e3,List.take_eq_take_iff,List.length_drop];omega
def WsO (m n:Nat) (ws:List Str):Prop:=ws.length<=n/\∀ w∈ws,Pl w/\w.length<=m
theorem yJ {K:PySem.W.Frag} {H:Hp}:∀ ws:List Str,(∀ w∈ws,PyData.canLay0 (.str w)=true)->DeepAll K H (ws.map V.str) (ws.map PyData.str)
 | [],_=>.nil
 | w::ws,h=>.cons (.str (h w (.head _))) (yJ ws fun x hx=>h x (.tail _ hx))
theorem vP:∀ ws:List Str,PyData.depthAll (ws.map PyData.str)<=1
 | []=>by simp [PyData.depthAll]
 | w::ws=>by
   rw [List.map_cons];simp only [PyData.depthAll,PyData.depth];have:=vP ws;omega
theorem Pl.lay {w:Str} (h:Pl w):PyData.canLay0 (.str w)=true:=by
 simp only [PyData.canLay0,PyData.strOk];rw [Array.all_eq_true_iff_forall_mem];intro x hx;rw [decide_eq_true_eq];have:=(h x (by simpa using hx)).1;omega
theorem IL {K:PySem.W.Frag} {H:Hp} {l b:Addr} {ws:List Str} {Q:VK} (h:∀ w∈ws,Pl w) (ha:H l=some (.lst (ws.map V.str))) (hb:H b=some (.lst [])) (q:Q (.bl (decide (ws=[]))) H):IY K (.ref l) (.ref b) H Q:=by
 refine ⟨_,_,.lst (SqL.of ha) (yJ ws fun w hw=>?_),.lst (SqL.of hb) .nil,?_,?_⟩
 . exact (h w hw).lay
 . have:=vP ws;simp only [PyData.depth];omega
 . have e:PyData.eqv (.list (ws.map PyData.str)) (.list [])=decide (ws=[]):=by
     cases ws <;> simp [PyData.eqv,PyData.eqvAll]
   rw [e];exact q
theorem Bm {α β:Type} {f:α->β}:∀ (l:List α) (i:Nat),(l.map f).eraseIdx i=(l.eraseIdx i).map f
 | [],_=>rfl
 | _::_,0=>rfl
 | x::l,i+1=>by
   show f x::(l.map f).eraseIdx i=f x::(l.eraseIdx i).map f;rw [Bm l i]
theorem Fq {m:Nat}:∀ {ws:List Str},(∀ w∈ws,w.length<=m)->(ws.map (·.length)).sum<=m*ws.length
 | [],_=>by simp
 | w::ws,h=>by
   have h1:=h w (.head _);have h2:=Fq (ws:=ws) fun x hx=>h x (.tail _ hx);rw [List.map_cons,List.sum_cons,List.length_cons,Nat.mul_succ];omega
theorem F5 {m:Nat} {z:Str} {ws:List Str} (h:∀ w∈ws,w.length<=m):(Str.join z ws).length<=(m+z.length)*ws.length:=by
 rw [bi,fg];have:=oz (s:=z.cps.toList) (m:=m) (l:=ws.map (·.cps.toList)) fun x hx=>by
   obtain ⟨w,hw,rfl⟩:=List.mem_map.mp hx;rw [<- bi];exact h w hw
 rw [List.length_map,<- bi] at this;exact this
theorem AD:∀ {a b:List Nat},a.map some=b.map some->a=b
 | [],[],_=>rfl
 | [],_::_,e=>by cases e
 | _::_,[],e=>by cases e
 | x::a,y::b,e=>by
   obtain ⟨h1,h2⟩:=List.cons.inj e;rw [Option.some.inj h1,AD h2]
end Pb
set_option Elab.async false
set_option linter.all false
set_option maxRecDepth 100000
namespace L2
open PySem PySem.Spec PyProof.Rows
def IQ (K:PySem.W.Frag) (te ts:TE):TE:=fun σ H Q=>te σ H fun x H1=>ts σ H1 fun y H2=>y=.int (-1)/\∃ a xs,x=.ref a/\SqL K H2 a xs/\∀ p,H2 p=none->Q (.ref p) (upd H2 p (.lst xs.reverse))
theorem Fh {X:Cx} {e st:Expr} {te ts:TE} {pos p2:Pos} (he:PE X e te) (hs:PE X st ts):PE X (.Subscript e (.Slice none none (some st) p2) pos) (IQ X.K te ts):=by
 intro pins s σ H Q I h;refine Subscript_ (bh (he pins s σ H _ I h) fun v s1 x H1 I1 r1 q1=>?_);refine wpAny_Slice ?_;rw [evalPart_none,evalPart_some];refine wpAny_pure (wpAny_pure (bh (hs pins s1 σ H1 _ I1 q1) fun u s3 y H3 I3 ry q3=>?_));obtain ⟨rfl,a,xs,rfl,hx,q⟩:=q3;obtain ⟨t,rfl⟩:=ry;cases r1;have I4:Inv X pins σ H3 { s3 with heap:=s3.heap.push { cls:=.type "slice",data:=.fields #[.none,.none,.int (-1) t] } }:=I3.kept (t':=s3.toks) fun b ob q=>Heap.get?_push_of_some _ q;obtain ⟨its,r,ht,hz⟩:=I4.list hx;have hlen:=r.length;refine tail_any (ops:=[.ref a,.ref s3.heap.objs.size]) ht.isList.typeIs slot_list_getitem.lookup (wpAny_getItem_list_slice ht.isList (Heap.IsSliceOf.new ..) .none .none (.int (-1) t) (by decide) ?_ (by rw [List.size_toArray] <;> omega)) (by with_unfolding_all rfl);rw [PySem.W.krv_pick];refine ⟨.ref _,_,I4.laid (t':=s3.toks) (o:=.lst xs.reverse) (fun b ob q=>Heap.get?_push_of_some _ q) (Nat.le_refl _) ?_,rfl,q _ (I4.hok.fresh (Nat.le_refl _))⟩;exact ⟨by rw [List.length_reverse];exact hz,_,0,r.reverse,Heap.get?_push_size _ rfl⟩
end L2
namespace Pb
open L2 PySem PySem.W NumText
def Row1 (hd:Str) (n:Nat) (y:Str) (ns:List Nat):Prop:=∃ ws,wsp y=hd::ws/\ws.map numW=ns.map some/\ns.length=n
theorem Row1.uniq {hd:Str} {n:Nat} {y:Str} {ns ns':List Nat} (h:Row1 hd n y ns) (h':Row1 hd n y ns'):ns=ns':=by
 obtain ⟨ws,e,m,_⟩:=h;obtain ⟨ws',e',m',_⟩:=h';rw [e] at e';obtain ⟨_,rfl⟩:=List.cons.inj e';exact AD (m.symm.trans m')
def lns (m:Nat):Nat:=if 1<=m/\m<=24 then m else 1
theorem uE (m:Nat):1<=lns m/\lns m<=24:=by
 unfold lns;split <;> omega
structure Ldr (Y:List Str) (m:Nat) (nss:List (List Nat)):Prop where
 one:∃ y,Y[0]?=some y/\Row1 hWeb 1 y [m]
 len:nss.length+1<=lns m
 row:∀ (i:Nat) (ns:List Nat),nss[i]?=some ns->∃ y,Y[i+1]?=some y/\Row1 hRoad 4 y ns
def rn (Y:List Str) (m:Nat) (nss:List (List Nat)):Prop:=Ldr Y m nss/\nss.length+1=lns m/\Y.length=lns m
def rdOf (ns:List Nat):Road:=⟨(ns.getD 0 0:Nat),(ns.getD 1 0:Nat),(ns.getD 2 0:Nat),(ns.getD 3 0:Nat)⟩
theorem Ej {ns:List Nat} (h:ns.length=4):eV (rdOf ns)=vNs ns:=by
 match ns,h with
 | [a,b,c,d],_=>rfl
inductive Dv
 | bad (n:Nat)
 | web
 | ok (m:Nat) (rs:List Road)
def Due (Y:List Str):Dv->Prop
 | .bad n=>(n=1/\∀ y,Y[0]?=some y->¬ ∃ ns,Row1 hWeb 1 y ns) \/
   (∃ m nss,Ldr Y m nss/\nss.length+1<lns m/\(∀ y,Y[nss.length+1]?=some y->¬ ∃ ns,Row1 hRoad 4 y ns)/\n=nss.length+2) \/
   (∃ m nss,Ldr Y m nss/\nss.length+1=lns m/\lns m<Y.length/\n=lns m+1)
 | .web=>∃ m nss,rn Y m nss/\¬ Good m (nss.map rdOf)
 | .ok m rs=>∃ nss,rn Y m nss/\rs=nss.map rdOf/\Good m rs
theorem Ldr.lenY {Y:List Str} {m:Nat} {nss:List (List Nat)} (h:Ldr Y m nss):nss.length+1<=Y.length:=by
 cases e:nss.length with
 | zero =>
   obtain ⟨y,hy,_⟩:=h.one;have:=(List.getElem?_eq_some_iff.mp hy).1;omega
 | succ n =>
   obtain ⟨ns,hn⟩:∃ ns,nss[n]?=some ns:=⟨_,List.getElem?_eq_getElem (by omega)⟩;obtain ⟨y,hy,_⟩:=h.row n ns hn;have:=(List.getElem?_eq_some_iff.mp hy).1;omega
theorem Ldr.snoc {Y:List Str} {m:Nat} {nss:List (List Nat)} {y:Str} {ns:List Nat} (h:Ldr Y m nss) (l:nss.length+1<lns m) (hy:Y[nss.length+1]?=some y) (r:Row1 hRoad 4 y ns):Ldr Y m (nss++[ns]):=by
 refine ⟨h.one,by rw [List.length_append];exact l,fun i ns' hi=>?_⟩;by_cases c:i<nss.length
 . rw [List.getElem?_append_left c] at hi;exact h.row i ns' hi
 . rw [List.getElem?_append_right (by omega)] at hi;have il:i - nss.length<1:=(List.getElem?_eq_some_iff.mp hi).1;rw [show i - nss.length=0 by omega] at hi;cases hi;rw [show i=nss.length by omega];exact ⟨y,hy,r⟩
theorem Ldr.ns4 {Y:List Str} {m:Nat} {nss:List (List Nat)} (h:Ldr Y m nss):∀ ns∈nss,ns.length=4/\∀ n∈ns,n<10^60:=fun ns hn=>by
 obtain ⟨i,hi⟩:=List.getElem?_of_mem hn;obtain ⟨y,_,ws,_,e,l⟩:=h.row i ns hi;exact ⟨l,(Co e).2⟩
theorem Ep {Y:List Str} (hY:Y≠[]):∃ dv,Due Y dv:=by
 obtain ⟨y0,e0⟩:∃ y,Y[0]?=some y:=⟨_,List.getElem?_eq_getElem (List.length_pos_iff.mpr hY)⟩;by_cases h:∃ ns,Row1 hWeb 1 y0 ns
 . obtain ⟨ns,hn⟩:=h;obtain ⟨m,rfl⟩:∃ m,ns=[m]:=by
     obtain ⟨_,_,_,l⟩:=hn
     match ns,l with
     | [m],_=>exact ⟨m,rfl⟩
   have step:∀ k,k+1<=lns m->(∃ dv,Due Y dv)\/∃ nss,Ldr Y m nss/\nss.length=k:=by
     intro k
     induction k with
     | zero=>exact fun _=>.inr ⟨[],⟨⟨y0,e0,hn⟩,(uE m).1,fun i ns hi=>by simp at hi⟩,rfl⟩
     | succ k ih =>
       intro hk;rcases ih (by omega) with d|⟨nss,l,ln⟩
       . exact .inl d
       . by_cases g:∃ y ns,Y[nss.length+1]?=some y/\Row1 hRoad 4 y ns
         . obtain ⟨y,ns,hy,r⟩:=g;exact .inr ⟨nss++[ns],l.snoc (by omega) hy r,by rw [List.length_append,ln];rfl⟩
         . exact .inl ⟨.bad (nss.length+2),.inr (.inl ⟨m,nss,l,by omega,fun y hy ⟨ns,r⟩=>g ⟨y,ns,hy,r⟩,rfl⟩)⟩
   have lp:=(uE m).1;rcases step (lns m - 1) (by omega) with d|⟨nss,l,ln⟩
   . exact d
   . have ly:=l.lenY;by_cases c:Y.length=lns m
     . have fu:rn Y m nss:=⟨l,by omega,c⟩;by_cases g:Good m (nss.map rdOf)
       . exact ⟨.ok m _,nss,fu,rfl,g⟩
       . exact ⟨.web,m,nss,fu,g⟩
     . exact ⟨.bad (lns m+1),.inr (.inr ⟨m,nss,l,by omega,by omega,rfl⟩)⟩
 . exact ⟨.bad 1,.inl ⟨rfl,fun y hy=>by rw [e0] at hy;cases hy;exact h⟩⟩
structure JW (m:Int) (rs:List Road) (at_:Nat) (ks:List Int):Prop where
 nd:ks.Nodup
 zero:0∈ks
 rng:∀ k∈ks,0<=k/\k<m
 cl:∀ (j:Nat) (k:Int),j<at_->ks[j]?=some k->∀ r∈rs,(r.a=k->r.b∈ks)/\(r.b=k->r.a∈ks)
 re:Reach rs ks
theorem JW.start {m:Int} {rs:List Road} (hm:1<=m):JW m rs 0 [0] :=
 ⟨by simp,by simp,fun k hk=>by rw [List.mem_singleton.mp hk];omega,fun j k hj=>absurd hj (by omega),Reach.start⟩
theorem JW.add {m:Int} {rs:List Road} {at_:Nat} {ks:List Int} {p e:Int} (h:JW m rs at_ ks) (l:at_<=ks.length) (hp:p∈ks) (he:e∈cY rs p) (e0:0<=e/\e<m) (ne:e ∉ ks):JW m rs at_ (ks++[e]):=by
 refine ⟨q9 h.nd ne,List.mem_append_left _ h.zero,fun k hk=>?_,fun j k hj hk r hr=>?_,h.re.add hp he⟩
 . rcases List.mem_append.mp hk with z|z
   . exact h.rng k z
   . rw [List.mem_singleton.mp z];exact e0
 . rw [List.getElem?_append_left (by omega)] at hk;obtain ⟨h1,h2⟩:=h.cl j k hj hk r hr;exact ⟨fun z=>List.mem_append_left _ (h1 z),fun z=>List.mem_append_left _ (h2 z)⟩
theorem JW.next {m:Int} {rs:List Road} {at_:Nat} {ks:List Int} {p:Int} (h:JW m rs at_ ks) (hp:ks[at_]?=some p) (s:∀ r∈rs,(r.a=p->r.b∈ks)/\(r.b=p->r.a∈ks)):JW m rs (at_+1) ks:=by
 refine ⟨h.nd,h.zero,h.rng,fun j k hj hk=>?_,h.re⟩;by_cases c:j<at_
 . exact h.cl j k c hk
 . have:j=at_:=by omega
   subst this;rw [hp] at hk;cases hk;exact s
theorem JW.all {m:Int} {rs:List Road} {at_:Nat} {ks:List Int} (h:JW m rs at_ ks) (l:ks.length<=at_) (hm:1<=m):(ks.length:Int)=m↔lF m rs:=by
 constructor
 . exact fun z=>h.re.joined (by omega) h.nd h.rng z
 . intro j;have up:=eU (by omega) h.nd h.rng;have cl:∀ k∈ks,∀ r∈rs,(r.a=k->r.b∈ks)/\(r.b=k->r.a∈ks):=fun k hk=>by
     obtain ⟨i,hi⟩:=List.getElem?_of_mem hk;have:=(List.getElem?_eq_some_iff.mp hi).1;exact h.cl i k (by omega) hi
   have:∀ v,0<=v->v<m->v∈ks:=j (fun v=>v∈ks) h.zero fun r hr=>⟨fun z=>(cl r.a z r hr).1 rfl,fun z=>(cl r.b z r hr).2 rfl⟩;have:=AF (by omega) this;omega
def SW (ws:List Str):Nat:=(ws.map fun w=>w.length+1).sum
theorem uv (a b:List Str):SW (a++b)=SW a+SW b:=by
 unfold SW;rw [List.map_append,List.sum_append]
theorem xY (w:Str) (b:List Str):SW (w::b)=w.length+1+SW b:=by
 unfold SW;rw [List.map_cons,List.sum_cons]
theorem ur:∀ {l:List (List Nat)},(ci [32] l).length<=(l.map fun x=>x.length+1).sum/\(l≠[]->(ci [32] l).length+1=(l.map fun x=>x.length+1).sum)
 | []=>⟨Nat.le_refl _,fun h=>absurd rfl h⟩
 | [x]=>by
   show x.length<=x.length+1+0/\(_->x.length+1=x.length+1+0);omega
 | x::y::r=>by
   have:=(ur (l:=y::r)).2 (by simp);have e:ci [32] (x::y::r)=x++[32]++ci [32] (y::r):=rfl;rw [e,List.map_cons,List.sum_cons,<- this,List.length_append,List.length_append];simp;omega
theorem CH (ws:List Str):((ws.map (·.cps.toList)).map fun x=>x.length+1).sum=SW ws:=by
 unfold SW;rw [List.map_map]
 congr 1
theorem IT (z:Str):SW (wsp z)=z.length+1:=by
 have:=(ur (l:=(wsp z).map (·.cps.toList))).2 (fun e=>qO z (Str.ofString " ") (List.map_eq_nil_iff.mp e));rw [CH] at this;rw [<- this];have e:=rS z (Str.ofString " ");rw [bi z,<- e]
 rfl
theorem IG (ws:List Str):(Str.join (Str.ofString " ") ws).length<=SW ws:=by
 rw [bi,fg,<- CH];exact ur.1
theorem C8 {ws:List Str} {i:Nat} {w:Str} (h:ws[i]?=some w):SW ws=SW (ws.take i)+(w.length+1)+SW (ws.drop (i+1)):=by
 have il:=(List.getElem?_eq_some_iff.mp h).1;have e:ws=ws.take i++w::ws.drop (i+1):=by
   have:=List.take_append_drop i ws;rw [List.drop_eq_getElem_cons il,(List.getElem?_eq_some_iff.mp h).2] at this;exact this.symm
 conv=>lhs;rw [e]
 rw [uv,xY];omega
theorem Fa {ws:List Str} {i:Nat} {w w':Str} (h:ws[i]?=some w):SW (ws.set i w')+w.length=SW ws+w'.length:=by
 have il:=(List.getElem?_eq_some_iff.mp h).1;rw [List.set_eq_take_append_cons_drop,if_pos il,uv,xY,C8 h];omega
theorem G0 {ws:List Str} {i:Nat} {w:Str} (h:ws[i]?=some w):SW (ws.eraseIdx i)<=SW ws:=by
 rw [List.eraseIdx_eq_take_drop_succ,uv,C8 h];omega
theorem Jf {ws:List Str} {i:Nat} {w:Str}:SW (ws.take i++w::ws.drop i)=SW ws+(w.length+1):=by
 have:=congrArg SW (List.take_append_drop i ws);rw [uv] at this;rw [uv,xY];omega
theorem Kf {ws:List Str} {i:Nat} {w:Str} (h:ws[i]?=some w):w.length+1<=SW ws:=by
 rw [C8 h];omega
theorem Ck {n i:Nat} (h:i<n):seqIndex? (i:Int) n=some i:=by
 unfold seqIndex?;show (if (decide (0<=(if (i:Int)<0 then (i:Int)+n else (i:Int))) && decide ((if (i:Int)<0 then (i:Int)+n else (i:Int))<n))=true then some (if (i:Int)<0 then (i:Int)+n else (i:Int)).toNat else none)=some i;rw [if_neg (show ¬ (i:Int)<0 by omega),if_pos (by rw [Bool.and_eq_true,decide_eq_true_eq,decide_eq_true_eq];omega)]
 rfl
theorem An {h:Str} (ok:HdOk h) {ns:List Nat} (hn:∀ n∈ns,n<10^60):Row1 h ns.length (rwt h ns) ns:=⟨ns.map FS,Ff ok ns,Ix hn,rfl⟩
theorem Em {m:Int} {r:Road} (h:RoadOk m r):rdOf (d6 r)=r:=by
 obtain ⟨a,b,t,u⟩:=r;have h1:=h.a0;have h2:=h.b0;have h3:=h.t0;have h4:=h.u0;show (⟨(a.toNat:Int),(b.toNat:Int),(t.toNat:Int),(u.toNat:Int)⟩:Road)=⟨a,b,t,u⟩;rw [Int.toNat_of_nonneg h1,Int.toNat_of_nonneg h2,Int.toNat_of_nonneg (Int.le_trans (by decide) h3),Int.toNat_of_nonneg (Int.le_trans (by decide) h4)]
theorem E5 {m:Int} {rs:List Road} (g:Good m rs):Due (jq m rs) (.ok m.toNat rs):=by
 have m1:=g.m1;have m24:=g.m24;have gl:=g.len;have lm:lns m.toNat=m.toNat:=by
   unfold lns;rw [if_pos (by omega)]
 have em:((m.toNat:Nat):Int)=m:=Int.toNat_of_nonneg (by omega);have er:rs=(rs.map d6).map rdOf:=by
   rw [List.map_map];have:rs.map (rdOf ∘ d6)=rs.map id:=List.map_congr_left fun r hr=>Em (g.ok r hr);rw [this,List.map_id]
 refine ⟨rs.map d6,⟨⟨⟨_,rfl,?_⟩,by rw [List.length_map,lm];omega,fun i ns hi=>?_⟩,by rw [List.length_map,lm];omega,?_⟩,er,by rw [em];exact g⟩
 . exact An Cl (ns:=[m.toNat]) fun n hn=>by
     rw [List.mem_singleton.mp hn];exact Nat.lt_of_le_of_lt (show m.toNat<=24 by omega) (by decide)
 . obtain ⟨r,hr,rfl⟩:=List.getElem?_map_some hi;refine ⟨vM r,?_,An AI (ns:=d6 r) (G5 (g.ok r (List.mem_of_getElem? hr)) m24).2⟩;show (rs.map vM)[i]?=_;rw [List.getElem?_map,hr]
   rfl
 . have:=yO g;omega
theorem EF {h:Str} (ph:Pl h) (ns:List Nat):Pl (rwt h ns):=Pl.join (by unfold Pl;decide +kernel) fun w hw=>by
 rcases List.mem_cons.mp hw with rfl|hw
 . exact ph
 . obtain ⟨n,_,rfl⟩:=List.mem_map.mp hw;exact Pl.fs n
theorem Fz {m:Int} {rs:List Road}:∀ y∈jq m rs,Pl y:=fun y hy=>by
 rcases List.mem_cons.mp hy with rfl|hy
 . exact EF (by unfold Pl;decide +kernel) _
 . obtain ⟨r,_,rfl⟩:=List.mem_map.mp hy;exact EF (by unfold Pl;decide +kernel) _
theorem Iw {m:Int} {rs:List Road} (g:Good m rs):WsO 305 24 (jq m rs):=⟨by have:=yO g;have:=g.m24;omega,fun y hy=>⟨Fz y hy,Ei g y hy⟩⟩
theorem WsO.rw {m n:Nat} {ws:List Str} (h:WsO m n ws) (hm:m<=1900):∀ y∈ws,Rw y:=fun y hy=>⟨(h.2 y hy).1,Nat.le_trans (h.2 y hy).2 hm⟩
theorem WsO.text {m n:Nat} {ws:List Str} (h:WsO m n ws) (hm:m<=1900) (hn:n<=30) (ne:ws≠[]):Txt.split (Str.join (Str.ofString "\n") ws) (Str.ofString "\n")=ws/\(Str.join (Str.ofString "\n") ws).length<=60000/\(ws.map (·.length)).sum+ws.length*(Str.ofString "\n").length<=16777216:=by
 have w1:∀ w∈ws,w.length<=1900:=fun w hw=>Nat.le_trans (h.2 w hw).2 hm;have jl:=F5 (z:=Str.ofString "\n") w1;have sm:=Fq w1;have nl:=h.1;rw [show (Str.ofString "\n").length=1 from rfl] at jl ⊢;exact ⟨vT (c:=10) ne fun y hy=>(h.2 y hy).1.row,by omega,by omega⟩
end Pb
set_option Elab.async false
set_option linter.all false
set_option maxRecDepth 100000
set_option maxHeartbeats 4000000
namespace Pk
open PySem L2 Pb
seal L2.PSs L2.PS L2.PE L2.PT L2.PW L2.PA L2.PG L2.PGs L2.PI L2.PTs L2.PC L2.PPs L2.PO
abbrev top (i:Nat):Stmt:=Hd.top i
local macro_rules|`(tactic| walk_at "rd") => `(tactic| ((try dsimp only [tYes, GO, CV, Hr, Ends.less, yr, CC, Am, ET, CK, HI, Gd, EM, yX, FP, Dy, Gh, DH, DC, Hm, HC, Jm, Jv, Ek, yw, E1, Gy, Hq, DU, tNext, xU, uD, F3, Dx, gNil, Fu, HG, Hy, HH, JD, HA, HE, Jj, ipI, Dh, D9, z8, tB, wb, tC, xQ, tOp, tUn, rI0, rI, rU, rEq, rNe, zW, HB, DL, Dw, tNil, Gr, Gf, tCB, tBM, GA, FG, Gp, JY, Hw, xD, Dd, Hn, Dr, EW, qc, Fg, En, FH, tOr, F0, D2, FW, Ho, tIf, List.nil_append, List.append_nil, List.set_cons_zero, List.set_cons_succ, List.getElem?_cons_zero, List.getElem?_cons_succ]);(try simp only [tYes, GO, CV, Hr, Ends.less, yr, CC, Am, ET, CK, HI, Gd, EM, yX, FP, Dy, Gh, DH, DC, Hm, HC, Jm, Jv, Ek, yw, E1, Gy, Hq, DU, tNext, xU, uD, F3, Dx, gNil, Fu, HG, Hy, HH, JD, HA, HE, Jj, ipI, Dh, D9, z8, tB, wb, tC, xQ, tOp, tUn, rI0, rI, rU, rEq, rNe, HW, HQ, HY, HX, Ib, IM, zW, HB, DL, Dw, tNil, Gr, Gf, tCB, tBM, GA, FG, Gp, JY, Hw, xD, Dd, Hn, Dr, EW, qc, Fg, En, FH, tOr, F0, D2, FW, Ho, tIf, List.nil_append, List.append_nil, List.set_cons_zero, List.set_cons_succ, List.getElem?_cons_zero, List.getElem?_cons_succ, Option.some.injEq, V.int.injEq, V.bl.injEq, V.ref.injEq, List.cons.injEq, exists_eq_left, exists_eq_left', exists_and_left, exists_const, and_true, true_and, decide_eq_true_eq, Bool.not_eq_true', decide_eq_false_iff_not, Bool.true_eq_false, Bool.false_eq_true, if_true, if_false])))
set_option genSizeOf false in
set_option genInjectivity false in
structure Txt (K:PySem.W.Frag) (mg:Str->Option Value) where
 TollError:Addr
 uW:mg "TollError"=some (.ref TollError)
 BadWeb:Addr
 ir:mg "BadWeb"=some (.ref BadWeb)
 NoPlace:Addr
 yz:mg "NoPlace"=some (.ref NoPlace)
 BadLaying:Addr
 Bx:mg "BadLaying"=some (.ref BadLaying)
 BadStep:Addr
 yt:mg "BadStep"=some (.ref BadStep)
 BadText:Addr
 iL:mg "BadText"=some (.ref BadText)
 Web:Addr
 J8:mg "Web"=some (.ref Web)
 BN:XTop K TollError
 vw:XErr K TollError BadWeb
 kQ:FV K BadWeb
 tE:XErr K TollError NoPlace
 uX:XErr K TollError BadLaying
 t8:XErr K TollError BadStep
 uf:XErr K TollError BadText
 BL:BaseIn K TollError
 Er:XSet K BadText TollError "at"
 Fl:PySem.W.findIn K (.ref BadText) "at"=some none
 ndx:[TollError,BadWeb,NoPlace,BadLaying,BadStep,BadText].Nodup
 range:mg "range"=none
 len:mg "len"=none
 isinstance:mg "isinstance"=none
 all:mg "all"=none
 int:mg "int"=none
 bool:mg "bool"=none
 tuple:mg "tuple"=none
 list:mg "list"=none
 min:mg "min"=none
 max:mg "max"=none
 sum:mg "sum"=none
 str:mg "str"=none
 ValueError:mg "ValueError"=none
 c_MOST_PLACES:∃ t,mg "MOST_PLACES"=some (.int 24 t)
 c_LEAST_TOLL:∃ t,mg "LEAST_TOLL"=some (.int 2 t)
 c_MOST_TOLL:∃ t,mg "MOST_TOLL"=some (.int 1000000 t)
 c_FIGURES:∃ t,mg "FIGURES"=some (.str "0123456789" t)
 c_MOST_FIGURES:∃ t,mg "MOST_FIGURES"=some (.int 60 t)
 xh:Cls K Web
 n_many:NoAttr K Web "many"
 n_roads:NoAttr K Web "roads"
section
variable {P:Program} {w:World} {K:PySem.W.Frag} {mg:Str->Option Value} {base:Heap} {CX:CXT}
def oA (T:Txt K mg):Sp:=fun vs H Q E=>∃ (m:Int) (t:Addr) (xs:List V),vs=[.int m,.ref t]/\SqT K H t xs/\(1<=m/\m<=24/\(xs.length:Int)=m - 1->Q .non H)/\(¬ (1<=m/\m<=24/\(xs.length:Int)=m - 1)->E (.ref T.BadWeb) none H)
abbrev bn:Stmt:=top 13
theorem wj:FnScope ["many","roads"] ["many","roads"] (aa bn):=FnScope.of (by kernel_rfl)
theorem j6:NmL (aa bn) "many":=.of (by kernel_rfl)
theorem pL:NmL (aa bn) "roads":=.of (by kernel_rfl)
theorem fY:NmG (aa bn) "MOST_PLACES":=.of (by kernel_rfl)
theorem dw:NmG (aa bn) "BadWeb":=.of (by kernel_rfl)
theorem gN:NmG (aa bn) "len":=.of (by kernel_rfl)
theorem wE (T:Txt K mg) (hq:bH (CXe P w)) {f:Addr} {fd:FuncData} (D:Df K mg "check_counts" bn ["many","roads"] f fd):FnOk P w K mg base (CXe P w) 1 f fd ["many","roads"] (oA T):=by
 refine D.F.okX wj (fun vs H Q E h=>?_) (fun cdv A outer s H vs Q E hr h=>?_)
 . obtain ⟨m,t,xs,rfl,_⟩:=h
   rfl
 . obtain ⟨m,t,xs,rfl,ht,k,e⟩:=h;refine ⟨_,(ai (aG (ik (n9 iQ iQ af (pvl 0 j6) (m9 fY.g T.c_MOST_PLACES (hd:=fY.d)))) (aj (lf T.kQ rfl mD dw.g T.ir (ae ao ah) (hdb:=dw.d))) aw) (aj (aG (ar gb (ay aN gN.g T.len bQ (ae (pvl 1 pL) ah) (hn:=gN.n) (hdb:=gN.d)) (ak uy (pvl 0 j6) af) (ax _)) (aj (lf T.kQ rfl mD dw.g T.ir (ae ao ah) (hdb:=dw.d))) aw))),?_⟩;rw [show L2.start ["many","roads"] [V.int m,V.ref t]=[some (V.int m),some (V.ref t)] from rfl];walk_at "rd";by_cases h1:1<=m
   . rw [if_pos h1];by_cases h2:m<=24
     . rw [if_neg (by omega)];refine ⟨xs,.inr ht,?_⟩;by_cases h3:(xs.length:Int)=m - 1
       . rw [if_neg (by omega)];exact k ⟨h1,h2,h3⟩
       . rw [if_pos (by omega)];exact ⟨by decide,e fun z=>h3 z.2.2⟩
     . rw [if_pos (by omega)];exact ⟨by decide,e fun z=>h2 z.2.1⟩
   . rw [if_neg h1];exact ⟨by decide,e fun z=>h1 z.1⟩
def uS (T:Txt K mg):Sp:=fun vs H Q _=>∃ m n:Int,vs=[.int m,.int n]/\Q (.bl (decide (0<=n) && decide (n<m))) H
abbrev dy:Stmt:=top 12
theorem BE:FnScope ["many","number"] ["many","number"] (aa dy):=FnScope.of (by kernel_rfl)
theorem vG:NmL (aa dy) "many":=.of (by kernel_rfl)
theorem tq:NmL (aa dy) "number":=.of (by kernel_rfl)
theorem BQ (T:Txt K mg) (hq:bH (CXe P w)) {f:Addr} {fd:FuncData} (D:Df K mg "is_place" dy ["many","number"] f fd):FnOk P w K mg base (CXe P w) 1 f fd ["many","number"] (uS T):=by
 refine D.F.okC BE (fun vs H Q E h=>?_) (fun cdv A outer s H vs Q E hr h=>?_)
 . obtain ⟨m,n,rfl,_⟩:=h
   rfl
 . obtain ⟨m,n,rfl,k⟩:=h;refine ⟨_,(aj (aR (Az iQ uM af (pvl 1 tq) (pvl 0 vG)))),?_⟩;rw [show L2.start ["many","number"] [V.int m,V.int n]=[some (V.int m),some (V.int n)] from rfl];walk_at "rd";by_cases c:0<=n
   . simpa [c] using k
   . simpa [c] using k
def sB (T:Txt K mg):Sp:=fun vs H Q E=>∃ (m:Int) (p:Addr) (r:Road),vs=[.int m,.ref p]/\H p=some (.tup (eV r))/\((0<=r.a/\r.a<m)/\(0<=r.b/\r.b<m)/\r.a≠r.b->Q .non H)/\(¬ ((0<=r.a/\r.a<m)/\(0<=r.b/\r.b<m)/\r.a≠r.b)->E (.ref T.BadWeb) none H)
abbrev bS:Stmt:=top 14
theorem zg:FnScope ["many","road"] ["many","road"] (aa bS):=FnScope.of (by kernel_rfl)
theorem lz:NmL (aa bS) "many":=.of (by kernel_rfl)
theorem eX:NmL (aa bS) "road":=.of (by kernel_rfl)
theorem dq:NmG (aa bS) "is_place":=.of (by kernel_rfl)
theorem dX:NmG (aa bS) "BadWeb":=.of (by kernel_rfl)
theorem y4 (T:Txt K mg) (hq:bH (CXe P w)) {f:Addr} {fd:FuncData} (D:Df K mg "check_ends" bS ["many","road"] f fd) {gf:Addr} {vd:FuncData} (dY:Df K mg "is_place" dy ["many","number"] gf vd) (G_is_place:FnOk P w K mg base (CXe P w) 1 gf vd ["many","number"] (uS T)):FnOk P w K mg base (CXe P w) 2 f fd ["many","road"] (sB T):=by
 refine D.F.okX zg (fun vs H Q E h=>?_) (fun cdv A outer s H vs Q E hr h=>?_)
 . obtain ⟨m,p,r,rfl,_⟩:=h
   rfl
 . obtain ⟨m,p,r,rfl,hp,k,e⟩:=h;refine ⟨_,(ai (aG (PW.pt (gP (ik (gp (aJ G_is_place (hr.mono (by decide)) dq.g dY.m dY.F.kp dY.b .nil gU (ae (pvl 0 lz) (ae (aF dR (pvl 1 eX) af (fun _ _=>rfl)) ah)) (hdb:=dq.d)))) (jY (ik (gp (aJ G_is_place (hr.mono (by decide)) dq.g dY.m dY.F.kp dY.b .nil gU (ae (pvl 0 lz) (ae (aF dR (pvl 1 eX) af (fun _ _=>rfl)) ah)) (hdb:=dq.d))))))) (aj (lf T.kQ rfl mD dX.g T.ir (ae ao ah) (hdb:=dX.d))) aw) (aj (aG (ar cA (aF dR (pvl 1 eX) af (fun _ _=>rfl)) (aF dR (pvl 1 eX) af (fun _ _=>rfl)) (ax _)) (aj (lf T.kQ rfl mD dX.g T.ir (ae ao ah) (hdb:=dX.d))) aw))),?_⟩;rw [show L2.start ["many","road"] [V.int m,V.ref p]=[some (V.int m),some (V.ref p)] from rfl];walk_at "rd";refine ixT hp rfl ⟨m,r.a,rfl,_,rfl,?_⟩;by_cases h1:0<=r.a/\r.a<m
   . rw [if_neg (by simp [h1.1,h1.2])];refine ixT hp rfl ⟨m,r.b,rfl,_,rfl,?_⟩;by_cases h2:0<=r.b/\r.b<m
     . rw [if_neg (by simp [h2.1,h2.2])];refine ixT hp rfl (ixT hp rfl ⟨rfl,?_⟩);by_cases h3:r.a=r.b
       . rw [if_pos (by rw [h3])];exact ⟨by decide,e fun z=>z.2.2 h3⟩
       . rw [if_neg (by simpa using h3)];exact k ⟨h1,h2,h3⟩
     . rw [if_pos (by
         rw [Bool.and_eq_false_iff,decide_eq_false_iff_not,decide_eq_false_iff_not];by_cases w:0<=r.b
         . exact .inr fun z=>h2 ⟨w,z⟩
         . exact .inl w)]
       exact ⟨by decide,e fun z=>h2 z.2.1⟩
   . rw [if_pos (by
       rw [Bool.and_eq_false_iff,decide_eq_false_iff_not,decide_eq_false_iff_not];by_cases w:0<=r.a
       . exact .inr fun z=>h1 ⟨w,z⟩
       . exact .inl w)]
     exact ⟨by decide,e fun z=>h1 z.1⟩
def sq (T:Txt K mg):Sp:=fun vs H Q _=>∃ (t:Addr) (ps:List Addr) (rs:List Road) (n:Int),vs=[.ref t,.int n]/\SqT K H t (ps.map V.ref)/\RoadsAt H ps rs/\rs.length<=1000 /\
 ∀ l H',H l=none->Same H H'->H' l=some (.lst ((cY rs n).map V.int))->Q (.ref l) H'
abbrev bX:Stmt:=top 17
theorem ma:FnScope ["roads","place","ends","road"] ["roads","place"] (aa bX):=FnScope.of (by kernel_rfl)
theorem sR:NmL (aa bX) "roads":=.of (by kernel_rfl)
theorem ki:NmL (aa bX) "place":=.of (by kernel_rfl)
theorem eW:NmL (aa bX) "ends":=.of (by kernel_rfl)
theorem dG:NmL (aa bX) "road":=.of (by kernel_rfl)
theorem zM (T:Txt K mg) (hq:bH (CXe P w)) {f:Addr} {fd:FuncData} (D:Df K mg "other_ends" bX ["roads","place"] f fd):FnOk P w K mg base (CXe P w) 1 f fd ["roads","place"] (sq T):=by
 refine D.F.okC ma (fun vs H Q E h=>?_) (fun cdv A outer s H vs Q E hr h=>?_)
 . obtain ⟨t,ps,rs,n,rfl,_⟩:=h
   rfl
 . obtain ⟨t,ps,rs,n,rfl,ht,hp,hl,k⟩:=h;refine ⟨_,(ai (ap (i:=2) ma.nd rfl (Or.inl eW.l) (cj ah)) (ai (e9 PassesOwn.never rfl (tX (pvl 0 sR)) (bg (i:=3) ma.nd rfl (Or.inl dG.l)) (ai (aG (ar cA (aF dR (pvl 3 dG) af (fun _ _=>rfl)) (pvl 1 ki) (ax _)) (aj (bG (bN PySem.F.plainAttrs_list PySem.F.slot_list_append PySem.F.type_list_append cG (pvl 2 eW) (ae (aF dR (pvl 3 dG) af (fun _ _=>rfl)) ah)))) aw) (aj (aG (ar cA (aF dR (pvl 3 dG) af (fun _ _=>rfl)) (pvl 1 ki) (ax _)) (aj (bG (bN PySem.F.plainAttrs_list PySem.F.slot_list_append PySem.F.type_list_append cG (pvl 2 eW) (ae (aF dR (pvl 3 dG) af (fun _ _=>rfl)) ah)))) aw)))) (aj (aR (pvl 2 eW))))),?_⟩;rw [show L2.start ["roads","place","ends","road"] [V.ref t,V.int n]=[some (V.ref t),some (V.int n),none,none] from rfl];walk_at "rd";refine ⟨by decide,fun l hn=>?_⟩;have hlen:ps.length=rs.length:=Paired.length hp;refine ⟨⟨_,Same.tup (Same.new _ hn) ht⟩,Cu (xs:=ps.map V.ref) (fun i σ H2=>H2=upd H l (.lst ((cY (rs.take i) n).map V.int))/\∃ v,σ=[some (.ref t),some (.int n),some (.ref l),v]) ⟨rfl,_,rfl⟩ (fun i σ H2 _ z=>by rw [z.1];exact Same.tup (Same.new _ hn) ht) ?_ ?_⟩
   . rintro i x σ H2 hi ⟨rfl,v,rfl⟩;obtain ⟨p,r,rfl,h1,h2,h3⟩:=hp.get hi;have np:p≠l:=az h3 hn;have hil:i<rs.length:=(List.getElem?_eq_some_iff.mp h2).1;have et:rs.take (i+1)=rs.take i++[r]:=(by rw [List.take_succ,h2];rfl);have hb:(cY (rs.take i) n).length<=2000:=Nat.le_trans (Hj _ _) (by rw [List.length_take];omega);have hx:∀ o,upd H l o p=some (.tup (eV r)):=fun o=>by rw [am np];exact h3
     walk_at "rd";refine ixT (hx _) rfl ?_;walk_at "rd";have fin:∀ (ys:List Int),(cY (rs.take i) n++ys)=cY (rs.take (i+1)) n->upd H l (.lst ((cY (rs.take i) n).map V.int++ys.map V.int))=upd H l (.lst ((cY (rs.take (i+1)) n).map V.int)):=fun ys e=>by
       rw [<- List.map_append,e]
     have e1:uJ n r=(if r.a=n then [r.b] else [])++(if r.b=n then [r.a] else []):=rfl;by_cases ca:r.a=n
     . rw [if_pos ca];refine ⟨tyL ag,ixT (hx _) rfl (pz ag (cz (by rw [List.length_map];omega)) ?_)⟩;rw [mE];refine ixT (hx _) rfl ?_;walk_at "rd";by_cases cb:r.b=n
       . rw [if_pos cb];refine ⟨tyL ag,ixT (hx _) rfl (pz ag (cz (by rw [List.length_append,List.length_map];simp;omega)) ?_)⟩;rw [mE,List.append_assoc];exact ⟨fin [r.b,r.a] (by rw [et,oW,e1,if_pos ca,if_pos cb];rfl),_,rfl⟩
       . rw [if_neg cb];exact ⟨fin [r.b] (by rw [et,oW,e1,if_pos ca,if_neg cb];rfl),_,rfl⟩
     . rw [if_neg ca];refine ixT (hx _) rfl ?_;walk_at "rd";by_cases cb:r.b=n
       . rw [if_pos cb];refine ⟨tyL ag,ixT (hx _) rfl (pz ag (cz (by rw [List.length_map];omega)) ?_)⟩;rw [mE];exact ⟨fin [r.a] (by rw [et,oW,e1,if_neg ca,if_pos cb];rfl),_,rfl⟩
       . rw [if_neg cb];have:=fin [] (by rw [et,oW,e1,if_neg ca,if_neg cb];rfl);rw [List.map_nil,List.append_nil] at this;exact ⟨this,_,rfl⟩
   . rintro σ H2 ⟨rfl,v,rfl⟩;rw [List.length_map,hlen,List.take_length];exact ⟨_,rfl,k l _ hn (Same.new _ hn) ag⟩
def iT (ks:List Int):List (Key × V):=ks.map fun k=>((Sum.inl k:Key),V.bl true)
theorem yN (ks:List Int):(iT ks).length=ks.length:=by unfold iT;rw [List.length_map]
theorem Bl (ks:List Int) (e:Int):kx (iT ks) (Sum.inl e:Key)=if e∈ks then some (V.bl true) else none:=by
 unfold iT
 induction ks with
 | nil=>rfl
 | cons k ks ih =>
   rw [List.map_cons];by_cases c:k=e
   . rw [qP (by rw [c]),if_pos (by rw [c];exact List.mem_cons_self)]
   . rw [rX (fun z=>c (Sum.inl.inj z)),ih];by_cases d:e∈ks
     . rw [if_pos d,if_pos (List.mem_cons_of_mem _ d)]
     . rw [if_neg d,if_neg (fun z=>by rcases List.mem_cons.mp z with z|z;exact c z.symm;exact d z)]
theorem Fs {ks:List Int} {e:Int} (h:e ∉ ks):gH (iT ks) (Sum.inl e:Key) (V.bl true)=iT (ks++[e]):=by
 rw [GY _ (by rw [Bl,if_neg h])];unfold iT;rw [List.map_append]
 rfl
def oF (T:Txt K mg):Sp:=fun vs H Q E=>∃ (m:Int) (t:Addr) (ps:List Addr) (rs:List Road),vs=[.int m,.ref t]/\SqT K H t (ps.map V.ref)/\RoadsAt H ps rs/\1<=m/\m<=24/\(rs.length:Int)=m - 1/\(∀ r∈rs,RoadOk m r)/\(lF m rs->∀ H',Same H H'->Q .non H')/\(¬ lF m rs->∀ H',Same H H'->E (.ref T.BadWeb) none H')
abbrev aI:Stmt:=top 16
theorem eZ:FnScope ["many","roads","reached","waiting","place","end"] ["many","roads"] (aa aI):=FnScope.of (by kernel_rfl)
theorem rf:NmL (aa aI) "many":=.of (by kernel_rfl)
theorem pY:NmL (aa aI) "roads":=.of (by kernel_rfl)
theorem c9:NmL (aa aI) "reached":=.of (by kernel_rfl)
theorem c8:NmL (aa aI) "waiting":=.of (by kernel_rfl)
theorem jB:NmL (aa aI) "place":=.of (by kernel_rfl)
theorem eJ:NmL (aa aI) "end":=.of (by kernel_rfl)
theorem gy:NmG (aa aI) "other_ends":=.of (by kernel_rfl)
theorem gI:NmG (aa aI) "len":=.of (by kernel_rfl)
theorem jj:NmG (aa aI) "BadWeb":=.of (by kernel_rfl)
theorem xf (T:Txt K mg) (hq:bH (CXe P w)) {f:Addr} {fd:FuncData} (D:Df K mg "check_joined" aI ["many","roads"] f fd) {eF:Addr} {rZ:FuncData} (fK:Df K mg "other_ends" bX ["roads","place"] eF rZ) (G_other_ends:FnOk P w K mg base (CXe P w) 1 eF rZ ["roads","place"] (sq T)):FnOk P w K mg base (CXe P w) 2 f fd ["many","roads"] (oF T):=by
 refine D.F.okX eZ (fun vs H Q E h=>?_) (fun cdv A outer s H vs Q E hr h=>?_)
 . obtain ⟨m,t,ps,rs,rfl,_⟩:=h
   rfl
 . obtain ⟨m,t,ps,rs,rfl,ht,hp,m1,m24,glen,gok,k,ke⟩:=h;have hu:=Ki hr;refine ⟨_,(ai (ap (i:=2) eZ.nd rfl (Or.inl c9.l) (Iy (FL af oq Ig) rfl rfl (List.cons_ne_nil _ _) (by decide))) (ai (ap (i:=3) eZ.nd rfl (Or.inl c8.l) (cj (ae af ah))) (ai (Be PassesOwn.leaving (Ao (pvl 3 c8) (fun _=>rfl)) (ai (ap (i:=4) eZ.nd rfl (Or.inl jB.l) (Jk PySem.F.plainAttrs_list PySem.F.slot_list_pop PySem.F.type_list_pop JP (pvl 3 c8))) (aj (e9 PassesOwn.leaving rfl (fQ (aJ G_other_ends (hr.mono (by decide)) gy.g fK.m fK.F.kp fK.b .nil gU (ae (pvl 1 pY) (ae (pvl 4 jB) ah)) (hdb:=gy.d))) (bg (i:=5) eZ.nd rfl (Or.inl eJ.l)) (aj (aG (Ak (EA hu (pvl 5 eJ) (pvl 2 c9))) (ai (IE hu (pvl 2 c9) (pvl 5 eJ) oq rfl) (aj (bG (bN PySem.F.plainAttrs_list PySem.F.slot_list_append PySem.F.type_list_append cG (pvl 3 c8) (ae (pvl 5 eJ) ah))))) aw)))))) (aj (aG (ar gb (ay Ev gI.g T.len bQ (ae (pvl 2 c9) ah) (hn:=gI.n) (hdb:=gI.d)) (pvl 0 rf) (ax _)) (aj (lf T.kQ rfl mD jj.g T.ir (ae ao ah) (hdb:=jj.d))) aw))))),?_⟩;rw [show L2.start ["many","roads","reached","waiting","place","end"] [V.int m,V.ref t]=[some (V.int m),some (V.ref t),none,none,none,none] from rfl];walk_at "rd";intro d hd;refine ⟨ag,[(Sum.inl 0,.bl true)],rfl,by decide,?_⟩;rw [mE];refine ⟨by decide,fun w0 hw=>?_⟩;have ed:pF [] [((Sum.inl 0:Key),V.bl true)]=iT [0]:=rfl;rw [ed];have ndw:w0≠d:=fun z=>by rw [z,ag] at hw;cases hw
   have hw0:H w0=none:=by rw [am ndw] at hw;exact hw
   refine CI (fun n σ H2=>∃ (ks ws:List Int) (v4 v5:Option V),n=2*(m.toNat - ks.length)+ws.length/\σ=[some (.int m),some (.ref t),some (.ref d),some (.ref w0),v4,v5]/\Same H H2/\H2 d=some (.dK (iT ks))/\H2 w0=some (.lst (ws.map V.int))/\JInv m rs ks ws/\Reach rs ks) _ ⟨[0],[0],none,none,rfl,rfl,?_,?_,ag,JInv.start m1,Reach.start⟩ ?_
   . exact Same.trans (Same.new _ hd) (Same.new _ hw)
   . rw [am ndw.symm,ag]
   rintro n σ H2 NW hN hN2 ⟨ks,ws,v4,v5,rfl,rfl,sm,h1,h2,J,Re⟩;have kl:=eU (by omega) J.nd J.rng;refine ⟨_,rfl,!(ws.map V.int).isEmpty,.inl ⟨_,SqL.of h2,rfl⟩,?_⟩;rcases List.eq_nil_or_concat ws with rfl|⟨ws',p,rfl⟩
   . -- nothing waits: all places have been reached
     refine KC ?_;walk_at "rd";refine ⟨iT ks,h1,?_⟩;rw [yN];by_cases jd:lF m rs
     . have full:=J.all m1 jd;rw [if_neg (by omega)];exact k jd _ sm
     . rw [if_pos (fun z=>jd (Re.joined (by omega) J.nd J.rng z))];exact ⟨by decide,ke jd _ sm⟩
   . rw [List.concat_eq_append] at J h2 hN hN2 ⊢;have e1:(!(List.map V.int (ws'++[p])).isEmpty)=true:=(by simp);rw [e1];refine Kz ⟨NW,hN2,?_⟩;walk_at "rd";rw [List.map_append,List.map_cons,List.map_nil] at h2;refine ⟨tyL h2,Ku h2 ?_⟩;have ndw':d≠w0:=ndw.symm;have sm2:Same H (upd H2 w0 (.lst (ws'.map V.int))):=fun b o e=>by rw [am (az e hw0)];exact sm b o e
     refine ⟨t,ps,rs,p,rfl,Same.tup sm2 ht,RoadsAt.same sm2 hp,by omega,fun l H3 hn s3 hl=>?_⟩;have nlw:w0≠l:=az (o:=.lst (ws'.map V.int)) ag hn;have nld:d≠l:=az (o:=.dK (iT ks)) (by rw [am ndw'];exact h1) hn;have hl0:H l=none:=sm2.free hn;refine ⟨l,rfl,⟨_,SqL.of hl⟩,yP (K:=K) (xs:=(cY rs p).map V.int) (fun i σ H4=>∃ (v5:Option V),σ=[some (.int m),some (.ref t),some (.ref d),some (.ref w0),some (.int p),v5]/\Same H H4/\H4 l=some (.lst ((cY rs p).map V.int)) /\
       ∃ ks4 ws4:List Int,H4 d=some (.dK (iT ks4))/\H4 w0=some (.lst (ws4.map V.int))/\JMid m rs p ((cY rs p).take i) ks4 ws4 ks ws'.length/\Reach rs ks4) ?_ (fun i σ H4 _ z=>by obtain ⟨_,_,_,z,_⟩:=z;exact SqL.of z) ?_ ?_⟩
     . refine ⟨_,rfl,sm2.trans s3,hl,ks,ws',?_,?_,?_⟩
       . exact s3 _ _ (by rw [am ndw'];exact h1)
       . exact s3 _ _ ag
       . rw [List.take_zero];exact ⟨JMid.start J,Re⟩
     . rintro i x σ H4 NI hI hi ⟨v5,rfl,s4,hl4,ks4,ws4,hd4,hw4,M,R4⟩;rw [List.getElem?_map] at hi;obtain ⟨e,he,rfl⟩:∃ e,(cY rs p)[i]?=some e/\V.int e=x:=by
         cases q:(cY rs p)[i]? with
         | none=>rw [q] at hi;cases hi
         | some e=>rw [q] at hi;exact ⟨e,rfl,Option.some.inj hi⟩
       have er:=F9 gok (List.mem_of_getElem? he);have et:(cY rs p).take (i+1)=(cY rs p).take i++[e]:=(by rw [List.take_succ,he];rfl);have st:=M.step er.1 er.2;have k4:=eU (by omega) M.nd M.rng;have mu4:=M.mu;walk_at "rd";refine ⟨_,DGet.k (k:=Sum.inl e) hd4,?_⟩;rw [Bl];by_cases c:e∈ks4
       . rw [if_pos c];rw [if_neg (by simp)];refine hI _ _ ⟨_,rfl,s4,hl4,ks4,ws4,hd4,hw4,?_,R4⟩;rw [et];unfold vW at st;rw [if_pos c] at st;exact st
       . rw [if_neg c];rw [if_pos (by simp)];refine ⟨_,DPut.k (k:=Sum.inl e) hd4 (cz (by rw [yN];omega)),?_⟩;rw [Fs c];have hw5:upd H4 d (.dK (iT (ks4++[e]))) w0=some (.lst (ws4.map V.int)):=(by rw [am ndw];exact hw4);refine ⟨tyL hw5,pz hw5 (cz (by rw [List.length_map];have:=M.wl;omega)) ?_⟩;have hmid:=M.mu;refine hI _ _ ⟨_,rfl,fun b o z=>?_,?_,ks4++[e],ws4++[e],?_,?_,?_,R4.add M.pin (List.mem_of_getElem? he)⟩
         . rw [am (az z hw0),am (az z hd)];exact s4 b o z
         . rw [am nlw.symm,am nld.symm];exact hl4
         . rw [am ndw',ag]
         . rw [ag,List.map_append];rfl
         . rw [et];unfold vW at st;rw [if_neg c] at st;exact st
     . rintro σ H4 ⟨v5,rfl,s4,hl4,ks4,ws4,hd4,hw4,M,R4⟩;rw [List.length_map,List.take_length] at M;have k4:=eU (by omega) M.nd M.rng;have mu4:=M.mu;have up4:=M.up;refine hN _ _ _ ?_ ⟨ks4,ws4,some (.int p),v5,rfl,rfl,s4,hd4,hw4,M.done,R4⟩;rw [List.length_append];simp only [List.length_cons,List.length_nil];omega
def pT (T:Txt K mg):Sp:=fun vs H Q E=>∃ (p:Addr) (r:Road),vs=[.ref p]/\H p=some (.tup (eV r))/\((2<=r.t/\r.t<=1000000)/\(2<=r.u/\r.u<=1000000)->∀ H',Same H H'->Q .non H')/\(¬ ((2<=r.t/\r.t<=1000000)/\(2<=r.u/\r.u<=1000000))->∀ H',Same H H'->E (.ref T.BadWeb) none H')
abbrev bC:Stmt:=top 15
theorem pO:FnScope ["road","number"] ["road"] (aa bC):=FnScope.of (by kernel_rfl)
theorem kj:NmL (aa bC) "road":=.of (by kernel_rfl)
theorem jI:NmL (aa bC) "number":=.of (by kernel_rfl)
theorem gW:NmG (aa bC) "LEAST_TOLL":=.of (by kernel_rfl)
theorem hZ:NmG (aa bC) "MOST_TOLL":=.of (by kernel_rfl)
theorem jE:NmG (aa bC) "BadWeb":=.of (by kernel_rfl)
theorem xV (T:Txt K mg) (hq:bH (CXe P w)) {f:Addr} {fd:FuncData} (D:Df K mg "check_tolls" bC ["road"] f fd):FnOk P w K mg base (CXe P w) 1 f fd ["road"] (pT T):=by
 refine D.F.okX pO (fun vs H Q E h=>?_) (fun cdv A outer s H vs Q E hr h=>?_)
 . obtain ⟨p,r,rfl,_⟩:=h
   rfl
 . obtain ⟨p,r,rfl,hp,k,e⟩:=h;refine ⟨_,(aj (e9 PassesOwn.leaving rfl (tX (jm (ae (aF dR (pvl 0 kj) af (fun _ _=>rfl)) (ae (aF dR (pvl 0 kj) af (fun _ _=>rfl)) ah)))) (bg (i:=1) pO.nd rfl (Or.inl jI.l)) (aj (aG (ik (n9 iQ iQ (m9 gW.g T.c_LEAST_TOLL (hd:=gW.d)) (pvl 1 jI) (m9 hZ.g T.c_MOST_TOLL (hd:=hZ.d)))) (aj (lf T.kQ rfl mD jE.g T.ir (ae ao ah) (hdb:=jE.d))) aw)))),?_⟩;rw [show L2.start ["road","number"] [V.ref p]=[some (V.ref p),none] from rfl];walk_at "rd";refine ixT hp rfl (ixT hp rfl ⟨av (by simp),fun q hn=>?_⟩);have s1:=Same.new (.tup [V.int r.t,V.int r.u]) hn;have e1:upd H q (.tup [V.int r.t,V.int r.u]) q=some (.tup [V.int r.t,V.int r.u]):=ag;generalize upd H q (.tup [V.int r.t,V.int r.u])=H1 at s1 e1 ⊢;refine ⟨⟨_,SqT.of e1⟩,AY (K:=K) (xs:=[V.int r.t,V.int r.u]) (fun i σ H2=>H2=H1/\(1<=i->2<=r.t/\r.t<=1000000)/\(2<=i->2<=r.u/\r.u<=1000000)/\∃ v,σ=[some (V.ref p),v]) ⟨rfl,fun z=>absurd z (by decide),fun z=>absurd z (by decide),_,rfl⟩ (fun i σ H2 _ z=>by rw [z.1];exact SqT.of e1) ?_ ?_⟩
   . rintro i x σ H2 N hN hi ⟨rfl,h1,h2,v,rfl⟩
     match i,hi with
     | 0,hi =>
       cases hi;walk_at "rd";by_cases n0:2<=r.t
       . rw [if_pos n0];by_cases n1:r.t<=1000000
         . rw [if_neg (by omega)];exact hN _ _ ⟨rfl,fun _=>⟨n0,n1⟩,fun z=>absurd z (by decide),_,rfl⟩
         . rw [if_pos (by omega)];exact ⟨by decide,e (fun z=>n1 z.1.2) _ s1⟩
       . rw [if_neg n0];exact ⟨by decide,e (fun z=>n0 z.1.1) _ s1⟩
     | 1,hi =>
       cases hi;walk_at "rd";by_cases n0:2<=r.u
       . rw [if_pos n0];by_cases n1:r.u<=1000000
         . rw [if_neg (by omega)];exact hN _ _ ⟨rfl,fun _=>h1 (by decide),fun _=>⟨n0,n1⟩,_,rfl⟩
         . rw [if_pos (by omega)];exact ⟨by decide,e (fun z=>n1 z.2.2) _ s1⟩
       . rw [if_neg n0];exact ⟨by decide,e (fun z=>n0 z.2.1) _ s1⟩
     | i+2,hi=>cases hi
   . rintro σ H2 ⟨rfl,h1,h2,v,rfl⟩;exact k ⟨h1 (by show 1<=2;decide),h2 (by show 2<=2;decide)⟩ _ s1
/-- the attributes of a web -/
def xa (m:Int) (t:Addr):List (Str × V):=gG "roads" (.ref t) (gG "many" (.int m) [])
theorem J7:¬ (("many":Str)="roads"):=by decide +kernel
theorem Dz (m:Int) (t:Addr):(xa m t).lookup ("many":Str)=some (.int m):=by
 unfold xa;rw [jp,if_neg J7,jp,if_pos rfl]
theorem B3 (m:Int) (t:Addr):(xa m t).lookup ("roads":Str)=some (.ref t):=by
 unfold xa;rw [jp,if_pos rfl]
/-- a web of m places and the roads rs stands at p,its tuple at t,the roads' tuples at ps -/
structure WebAt (C:Addr) (H:Hp) (p:Addr) (m:Int) (t:Addr) (ps:List Addr) (rs:List Road):Prop where
 ob:∃ dx,H p=some (.ins C dx (xa m t))
 tu:H t=some (.tup (ps.map V.ref))
 ro:RoadsAt H ps rs
 go:Good m rs
theorem WebAt.same {C:Addr} {H H':Hp} {p:Addr} {m:Int} {t:Addr} {ps:List Addr} {rs:List Road} (e:Same H H') (h:WebAt C H p m t ps rs):WebAt C H' p m t ps rs :=
 ⟨let ⟨dx,q⟩:=h.ob;⟨dx,e _ _ q⟩,e _ _ h.tu,RoadsAt.same e h.ro,h.go⟩
def oE (T:Txt K mg):Sp:=fun vs H Q E=>∃ (p dx:Addr) (m:Int) (c:Bool) (a:Addr) (ps:List Addr) (rs:List Road),vs=[.ref p,.int m,.ref a]/\H p=some (.ins T.Web dx [])/\SqX K c H a (ps.map V.ref)/\RoadsAt H ps rs/\rs.length<=1000 /\
 (Good m rs->∀ t H',H t=none->WebAt T.Web H' p m t ps rs->(∀ b o,H b=some o->b≠p->H' b=some o)->Q .non H')/\(¬ Good m rs->∀ H',Same H H'->E (.ref T.BadWeb) none H')
abbrev aK:Stmt:=Cv (top 11) 0
theorem jW:FnScope ["self","many","roads","kept","road"] ["self","many","roads"] (aa aK):=FnScope.of (by kernel_rfl)
theorem jV:NmL (aa aK) "self":=.of (by kernel_rfl)
theorem dZ:NmL (aa aK) "many":=.of (by kernel_rfl)
theorem pE:NmL (aa aK) "roads":=.of (by kernel_rfl)
theorem cJ:NmL (aa aK) "kept":=.of (by kernel_rfl)
theorem gd:NmL (aa aK) "road":=.of (by kernel_rfl)
theorem fA:NmG (aa aK) "tuple":=.of (by kernel_rfl)
theorem fM:NmG (aa aK) "check_counts":=.of (by kernel_rfl)
theorem gq:NmG (aa aK) "check_ends":=.of (by kernel_rfl)
theorem fX:NmG (aa aK) "check_tolls":=.of (by kernel_rfl)
theorem fU:NmG (aa aK) "check_joined":=.of (by kernel_rfl)
theorem vO (T:Txt K mg) (hq:bH (CXe P w)) {f:Addr} {fd:FuncData} (F:Fun K "__init__" "Web.__init__" aK f fd) {dl:Addr} {oU:FuncData} (d9:Df K mg "check_counts" bn ["many","roads"] dl oU) (G_check_counts:FnOk P w K mg base (CXe P w) 1 dl oU ["many","roads"] (oA T)) {eE:Addr} {sA:FuncData} (fD:Df K mg "check_ends" bS ["many","road"] eE sA) (G_check_ends:FnOk P w K mg base (CXe P w) 2 eE sA ["many","road"] (sB T)) {dh:Addr} {oO:FuncData} (ef:Df K mg "check_joined" aI ["many","roads"] dh oO) (G_check_joined:FnOk P w K mg base (CXe P w) 2 dh oO ["many","roads"] (oF T)) {dP:Addr} {pC:FuncData} (eT:Df K mg "check_tolls" bC ["road"] dP pC) (G_check_tolls:FnOk P w K mg base (CXe P w) 1 dP pC ["road"] (pT T)):FnOk P w K mg base (CXe P w) 3 f fd ["self","many","roads"] (oE T):=by
 refine F.okX jW (fun vs H Q E h=>?_) (fun cdv A outer s H vs Q E hr h=>?_)
 . obtain ⟨p,dx,m,c,a,ps,rs,rfl,_⟩:=h
   rfl
 . obtain ⟨p,dx,m,c,a,ps,rs,rfl,hp,ha,hro,rl,k,ke⟩:=h;refine ⟨_,(ai (ap (i:=3) jW.nd rfl (Or.inl cJ.l) (dE gv fA.g T.tuple hV (ae (yg rfl (kY (Nc:=["road"]) 1 (by decide +kernel) (by decide +kernel) rfl (by decide +kernel) rfl) (JB c (pvl 2 pE)) (fun _ _ _ _=>(bg (i:=0) (show (["road"]:List Str).Nodup from by decide +kernel) rfl (Or.inl rfl))) (fun _ _ _ _=>jD) (fun _ _ _ _=>(dE (kU K rfl) (by rfl) T.tuple hV (ae (pv 0) ah)))) ah) (hn:=fA.n) (hdb:=fA.d))) (ai (bG (aJ G_check_counts (hr.mono (by decide)) fM.g d9.m d9.F.kp d9.b .nil gU (ae (pvl 1 dZ) (ae (pvl 3 cJ) ah)) (hdb:=fM.d))) (ai (e9 PassesOwn.leaving rfl (tX (pvl 3 cJ)) (bg (i:=4) jW.nd rfl (Or.inl gd.l)) (ai (bG (aJ G_check_ends (hr.mono (by decide)) gq.g fD.m fD.F.kp fD.b .nil gU (ae (pvl 1 dZ) (ae (pvl 4 gd) ah)) (hdb:=gq.d))) (aj (bG (aJ G_check_tolls (hr.mono (by decide)) fX.g eT.m eT.F.kp eT.b .nil gU (ae (pvl 4 gd) ah) (hdb:=fX.d)))))) (ai (bG (aJ G_check_joined (hr.mono (by decide)) fU.g ef.m ef.F.kp ef.b .nil gU (ae (pvl 1 dZ) (ae (pvl 3 cJ) ah)) (hdb:=fU.d))) (ai (E6 (pvl 0 jV) (pvl 1 dZ) rfl) (aj (E6 (pvl 0 jV) (pvl 3 cJ) rfl))))))),?_⟩;rw [show L2.start ["self","many","roads","kept","road"] [V.ref p,V.int m,V.ref a]=[some (V.ref p),some (V.int m),some (V.ref a),none,none] from rfl];walk_at "rd";refine ⟨⟨_,ha⟩,fun l hl=>?_⟩;have hlen:ps.length=rs.length:=Paired.length hro;have hl1:Same H (upd H l (.lst [])):=Same.new _ hl;refine k7 (K:=K) (xs:=ps.map V.ref) (fun i ys σ H2=>H2=upd H l (.lst ((ps.take i).map V.ref))/\ys=(ps.take i).map V.ref/\∃ v,σ=[v]) ⟨rfl,rfl,_,rfl⟩ (fun i ys σ H2 _ ⟨z,_⟩=>by rw [z];exact Same.sqX (Same.new _ hl) ha) ?_ ?_
   . rintro i x ys σ H2 N hN hi ⟨rfl,rfl,v,rfl⟩;obtain ⟨q,r,rfl,h1,h2,h3⟩:=hro.get hi;have nq:q≠l:=az h3 hl;have hil:i<ps.length:=(List.getElem?_eq_some_iff.mp h1).1;have et:ps.take (i+1)=ps.take i++[q]:=(by rw [List.take_succ,h1];rfl);walk_at "rd";refine ⟨eV r,.inr ⟨SqT.of (by rw [am nq];exact h3),ag,cz (by rw [List.length_map,List.length_take];omega),hN _ _ _ ⟨?_,?_,_,rfl⟩⟩⟩
     . rw [mE,et,List.map_append];rfl
     . rw [et,List.map_append];rfl
   . rintro ys σ H2 ⟨rfl,rfl,v,rfl⟩;rw [List.length_map,List.take_length];refine ⟨l,rfl,ps.map V.ref,.inl ⟨SqL.of ag,fun t ht=>?_⟩⟩;have s1:Same H (upd H l (.lst (ps.map V.ref))):=Same.new _ hl;have s2:Same (upd H l (.lst (ps.map V.ref))) (upd (upd H l (.lst (ps.map V.ref))) t (.tup (ps.map V.ref))):=Same.new _ ht;have ht0:H t=none:=s1.free ht;have ht1:∀ {H':Hp},Same (upd (upd H l (.lst (ps.map V.ref))) t (.tup (ps.map V.ref))) H'->H' t=some (.tup (ps.map V.ref)):=fun e=>e _ _ ag;refine ⟨m,t,ps.map V.ref,rfl,SqT.of ag,fun cnt=>⟨⟨_,SqT.of ag⟩,?_⟩,fun cnt=>ke (fun g=>cnt ⟨g.m1,g.m24,by rw [List.length_map,hlen];exact g.len⟩) _ (s1.trans s2)⟩;rw [List.length_map,hlen] at cnt;refine AY (K:=K) (xs:=ps.map V.ref) (fun i σ H3=>Same (upd (upd H l (.lst (ps.map V.ref))) t (.tup (ps.map V.ref))) H3/\(∀ j r,j<i->rs[j]?=some r->RoadOk m r)/\∃ v,σ=[some (.ref p),some (.int m),some (.ref a),some (.ref t),v]) ⟨Same.refl _,fun j r h=>absurd h (Nat.not_lt_zero _),_,rfl⟩ (fun i σ H3 _ ⟨z,_⟩=>SqT.of (ht1 z)) ?_ ?_
     . rintro i x σ H3 N hN hi ⟨s3,oks,v,rfl⟩;have s03:=s1.trans (s2.trans s3);obtain ⟨q,r,rfl,h1,h2,h3⟩:=hro.get hi;have rm:=List.mem_of_getElem? h2;walk_at "rd";refine ⟨m,q,r,rfl,s03 _ _ h3,fun ok1=>?_,fun n=>ke (fun g=>n (vt.mp (g.ok r rm)).1) _ s03⟩;refine ⟨q,r,rfl,s03 _ _ h3,fun ok2 H4 s4=>hN _ _ ⟨s3.trans s4,fun j x hj hx=>?_,_,rfl⟩,fun n H4 s4=>ke (fun g=>n (vt.mp (g.ok r rm)).2) _ (s03.trans s4)⟩;by_cases z:j=i
       . subst z;rw [h2] at hx;cases hx;exact vt.mpr ⟨ok1,ok2⟩
       . exact oks j x (by omega) hx
     . rintro σ H3 ⟨s3,oks,v,rfl⟩;have s03:=s1.trans (s2.trans s3);rw [List.length_map,hlen] at oks;have ok:∀ r∈rs,RoadOk m r:=fun r hr=>by
         obtain ⟨j,hj⟩:=List.getElem?_of_mem hr;exact oks j r (List.getElem?_eq_some_iff.mp hj).1 hj
       walk_at "rd";refine ⟨m,t,ps,rs,rfl,SqT.of (ht1 s3),RoadsAt.same s03 hro,cnt.1,cnt.2.1,cnt.2.2,ok,fun jd H4 s4=>?_,fun n H4 s4=>ke (fun g=>n g.jn) _ (s03.trans s4)⟩;have g:Good m rs:=⟨cnt.1,cnt.2.1,cnt.2.2,ok,jd⟩;have s04:=s03.trans s4;have ntp:t≠p:=fun z=>by rw [z,hp] at ht0;cases ht0
       refine ⟨T.Web,dx,[],s04 _ _ hp,T.xh,T.n_many,by decide,?_⟩;refine ⟨T.Web,dx,_,ag,T.xh,T.n_roads,by show 1<1000;decide,?_⟩;rw [mE];refine k g t _ ht0 ⟨⟨dx,ag⟩,?_,?_,g⟩ fun b o hb nb=>?_
       . rw [am ntp];exact ht1 (s3.trans s4)
       . refine Paired.imp' (fun q r hq=>?_) hro;rw [am (uH hq hp (by intro z;cases z))];exact s04 _ _ hq
       . rw [am nb];exact s04 _ _ hb
def dc (T:Txt K mg):Sp:=fun vs H Q _=>∃ (ea fI:Addr) (n:Int),vs=[.ref ea,.int n]/\H ea=some (ExN ea (.ref T.BadText) none)/\mx K T.BadText fI/\∀ dx,H dx=none->dx≠ea->Q .non (upd (upd H ea (ExN ea (.ref T.BadText) (some dx))) dx (.xd [("at",.int n)]))
abbrev aH:Stmt:=Cv (top 6) 0
theorem sQ:FnScope ["self","at"] ["self","at"] (aa aH):=FnScope.of (by kernel_rfl)
theorem g3:NmL (aa aH) "self":=.of (by kernel_rfl)
theorem jh:NmL (aa aH) "at":=.of (by kernel_rfl)
theorem fw:NmG (aa aH) "TollError":=.of (by kernel_rfl)
theorem sP (T:Txt K mg) (hq:bH (CXe P w)) {f:Addr} {fd:FuncData} (F:Fun K "__init__" "BadText.__init__" aH f fd):FnOk P w K mg base (CXe P w) 1 f fd ["self","at"] (dc T):=by
 refine F.okC sQ (fun vs H Q E h=>?_) (fun cdv A outer s H vs Q E hr h=>?_)
 . obtain ⟨ea,fI,n,rfl,_⟩:=h
   rfl
 . obtain ⟨ea,fI,n,rfl,he,xo,k⟩:=h;refine ⟨_,(ai (bG (Bz T.BL fw.g T.uW (ae (pvl 0 g3) (ae (pvl 1 jh) ah)) (hdb:=fw.d))) (aj (Iq rfl (pvl 0 g3) (pvl 1 jh) rfl))),?_⟩;rw [show L2.start ["self","at"] [V.ref ea,V.int n]=[some (V.ref ea),some (V.int n)] from rfl];show ∃ v,_;refine ⟨V.ref ea,rfl,V.int n,rfl,?_⟩;refine ⟨ea,T.BadText,fI,none,[V.int n],rfl,av (by simp),xo,he,?_⟩;show ∃ v,_;refine ⟨V.int n,rfl,V.ref ea,rfl,?_⟩;exact ⟨ea,T.BadText,T.TollError,rfl,he,T.Er,k⟩
def fV (T:Txt K mg):Sp:=fun vs H Q E=>∃ (l:Addr) (xs:List V) (i:Int),vs=[.ref l,.int i]/\H l=some (.lst xs)/\((xs.length:Int)<=i->Q .non H)/\(i<(xs.length:Int)->∀ dx H',Same H H'->H' dx=some (.xd [("at",.int (i+1))])->E (.ref T.BadText) (some dx) H')
abbrev bO:Stmt:=top 28
theorem Bk:FnScope ["rows","last"] ["rows","last"] (aa bO):=FnScope.of (by kernel_rfl)
theorem uN:NmL (aa bO) "rows":=.of (by kernel_rfl)
theorem mj:NmL (aa bO) "last":=.of (by kernel_rfl)
theorem jx:NmG (aa bO) "len":=.of (by kernel_rfl)
theorem j9:NmG (aa bO) "BadText":=.of (by kernel_rfl)
theorem Ae (T:Txt K mg) (hq:bH (CXe P w)) {f:Addr} {fd:FuncData} (D:Df K mg "check_end" bO ["rows","last"] f fd) {f_BadText___init__:Addr} {aB:FuncData} (F_BadText___init__:Fun K "__init__" "BadText.__init__" aH f_BadText___init__ aB) (b_BadText:Binds K aB ["self","at"] []) (bJ:mx K T.BadText f_BadText___init__) (G_BadText_init:FnOk P w K mg base (CXe P w) 1 f_BadText___init__ aB ["self","at"] (dc T)):FnOk P w K mg base (CXe P w) 3 f fd ["rows","last"] (fV T):=by
 refine D.F.okX Bk (fun vs H Q E h=>?_) (fun cdv A outer s H vs Q E hr h=>?_)
 . obtain ⟨l,xs,i,rfl,_⟩:=h
   rfl
 . obtain ⟨l,xs,i,rfl,hl,k,ke⟩:=h;refine ⟨_,(aj (aG (ar uL (ay aN jx.g T.len bQ (ae (pvl 0 uN) ah) (hn:=jx.n) (hdb:=jx.d)) (pvl 1 mj) (ax _)) (aj (lB bJ G_BadText_init hq (hr.mono (by decide)) b_BadText rfl rfl p7 j9.g T.iL (ae (ak bP (pvl 1 mj) af) ah) (hdb:=j9.d))) aw)),?_⟩;rw [show L2.start ["rows","last"] [V.ref l,V.int i]=[some (V.ref l),some (V.int i)] from rfl];walk_at "rd";refine ⟨xs,.inl (SqL.of hl),?_⟩;by_cases z:i<(xs.length:Int)
   . rw [if_pos z];unfold pZ;walk_at "rd";refine ⟨av (by simp),fun ea ne=>⟨ea,f_BadText___init__,_,rfl,ag,bJ,fun dx nd nde=>⟨rfl,some dx,?_,?_⟩⟩⟩
     . rw [am (Ne.symm nde),ag]
     . exact ke z dx _ (pV ne nd nde) (by rw [ka nde,ag])
   . rw [if_neg z];exact k (by omega)
def t7 (T:Txt K mg):Sp:=fun vs H Q _=>∃ w:Str,vs=[.str w]/\(w.cps.all fun x=>decide (x<128))=true/\w.length<=60000/\(Fig w.cps.toList->∀ H',Same H H'->Q (.bl true) H')/\(¬ Fig w.cps.toList->∀ H',Same H H'->Q (.bl false) H')
abbrev ce:Stmt:=top 27
theorem AO:FnScope ["word"] ["word"] (aa ce):=FnScope.of (by kernel_rfl)
theorem fz:NmL (aa ce) "word":=.of (by kernel_rfl)
theorem ju:NmG (aa ce) "len":=.of (by kernel_rfl)
theorem gX:NmG (aa ce) "MOST_FIGURES":=.of (by kernel_rfl)
theorem jv:NmG (aa ce) "all":=.of (by kernel_rfl)
theorem AM (T:Txt K mg) (hq:bH (CXe P w)) {f:Addr} {fd:FuncData} (D:Df K mg "is_number" ce ["word"] f fd):FnOk P w K mg base (CXe P w) 1 f fd ["word"] (t7 T):=by
 refine D.F.okC AO (fun vs H Q E h=>?_) (fun cdv A outer s H vs Q E hr h=>?_)
 . obtain ⟨w,rfl,_⟩:=h
   rfl
 . obtain ⟨w,rfl,as,wl,k,kn⟩:=h;refine ⟨_,(ai (aG (PW.pt (gP (ik (n9 iQ iQ af (ay gZ ju.g T.len bQ (ae (pvl 0 fz) ah) (hn:=ju.n) (hdb:=ju.d)) (m9 gX.g T.c_MOST_FIGURES (hd:=gX.d)))) (jY (ik (gp (ay (Hl rfl) jv.g T.all JT (ae (yg rfl (kY (Nc:=["sign"]) 1 (by decide +kernel) (by decide +kernel) rfl (by decide +kernel) rfl) (EC (pvl 0 fz)) (fun _ _ _ _=>(bg (i:=0) (show (["sign"]:List Str).Nodup from by decide +kernel) rfl (Or.inl rfl))) (fun _ _ _ _=>jD) (fun _ _ _ _=>(pG E3 (pv 0) (Gz (by rfl) T.c_FIGURES) (by with_unfolding_all rfl)))) ah) (hn:=jv.n) (hdb:=jv.d))))))) (aj (aR oq)) aw) (aj (aR (J0 (pG cA (pvl 0 fz) ao (ax _)) (E7 (pG gb (aF AN (pvl 0 fz) af (fun _ _=>rfl)) ao (ax _))))))),?_⟩;rw [show L2.start ["word"] [V.str w]=[some (V.str w)] from rfl];refine bW fun N1 h1=>?_;walk_at "rd";have ln:w.length=w.cps.toList.length:=bi w;refine ⟨w,rfl,Nat.le_trans wl (by decide),?_⟩;rw [ln];by_cases l1:(1:Int)<=(w.cps.toList.length:Int)
   . rw [if_pos l1];by_cases l60:(w.cps.toList.length:Int)<=60
     . rw [if_neg (fun z=>z l60)];refine ⟨w,rfl,as,fun p hp=>?_⟩;refine FB (fun i ys σ H2=>Same H H2/\H2 p=some (.lst ys)/\ys=((w.cps.toList.take i).map fun c=>V.bl (decide (48<=c/\c<=57)))/\∃ v,σ=[v]) ⟨Same.new _ hp,ag,rfl,_,rfl⟩ ?_ ?_
       . rintro i c ys σ H2 N hN hi ⟨s2,h2,rfl,v,rfl⟩;have hil:i<w.cps.toList.length:=(List.getElem?_eq_some_iff.mp hi).1;walk_at "rd";refine ⟨_,rfl,_,rfl,h2,cz (by rw [List.length_map,List.length_take];omega),?_⟩;rw [yG];refine hN _ _ _ ⟨?_,ag,?_,_,rfl⟩
         . exact fun b o e=>by rw [am (az e hp)];exact s2 _ _ e
         . rw [List.take_succ,hi,List.map_append]
           rfl
       . rintro ys σ H2 ⟨s2,h2,rfl,v,rfl⟩;have tk:w.cps.toList.take w.cps.toList.length=w.cps.toList:=List.take_length;refine ⟨p,rfl,w.cps.toList.map fun c=>decide (48<=c/\c<=57),by rw [List.map_map];rw [tk] at h2;exact SqL.of h2,?_⟩;by_cases al:∀ c∈w.cps.toList,48<=c/\c<=57
         . rw [if_neg (by rw [Bool.not_eq_false,List.all_eq_true];intro b hb;obtain ⟨c,hc,rfl⟩:=List.mem_map.mp hb;exact decide_eq_true (al c hc))];refine h1 _ _ ?_;walk_at "rd";by_cases c0:V.str w=V.str (Str.ofString "0")
           . rw [if_pos c0];have e:w=Str.ofString "0":=(by injection c0);exact k ⟨by omega,by omega,al,.inl (by rw [e];rfl)⟩ _ s2
           . rw [if_neg c0];obtain ⟨c,r,ec⟩:∃ c r,w.cps.toList=c::r:=by
               cases hh:w.cps.toList with
               | nil=>rw [hh] at l1;exact absurd l1 (by decide)
               | cons c r=>exact ⟨c,r,rfl⟩
             refine ixS (i:=0) (by omega) (by rw [ec];rfl) ⟨rfl,?_⟩;by_cases c48:c=48
             . rw [show decide (V.str ⟨#[c]⟩=V.str (Str.ofString "0"))=true from decide_eq_true (by rw [c48];rfl)];refine kn (fun f=>?_) _ s2;rcases f.lead with z|z
               . exact c0 (congrArg V.str (mH z))
               . exact z (by rw [ec,c48];rfl)
             . rw [show decide (V.str ⟨#[c]⟩=V.str (Str.ofString "0"))=false from decide_eq_false fun z=>c48 (by injection z with z;exact (List.cons.inj (show [c]=[48] from congrArg (fun s:Str=>s.cps.toList) z)).1)];exact k ⟨by omega,by omega,al,.inr (by rw [ec];exact fun z=>c48 (by injection z))⟩ _ s2
         . rw [if_pos (by
             rw [<- Bool.not_eq_true,List.all_eq_true];exact fun z=>al fun c hc=>of_decide_eq_true (z _ (List.mem_map.mpr ⟨c,hc,rfl⟩)))]
           exact kn (fun f=>al f.all) _ s2
     . rw [if_pos l60];exact kn (fun f=>absurd f.len60 (by omega)) H (Same.refl _)
   . rw [if_neg l1];exact kn (fun f=>absurd f.len1 (by omega)) H (Same.refl _)
def kH (T:Txt K mg):Sp:=fun vs H Q E=>∃ (w:Str) (i:Int),vs=[.str w,.int i]/\(w.cps.all fun x=>decide (x<128))=true/\w.length<=60000/\(∀ n,numW w=some n->∀ H',Same H H'->Q (.int (n:Int)) H')/\(numW w=none->∀ dx H',Same H H'->H' dx=some (.xd [("at",.int i)])->E (.ref T.BadText) (some dx) H')
abbrev bq:Stmt:=top 26
theorem xI:FnScope ["word","at"] ["word","at"] (aa bq):=FnScope.of (by kernel_rfl)
theorem km:NmL (aa bq) "word":=.of (by kernel_rfl)
theorem uQ:NmL (aa bq) "at":=.of (by kernel_rfl)
theorem iB:NmG (aa bq) "is_number":=.of (by kernel_rfl)
theorem jf:NmG (aa bq) "BadText":=.of (by kernel_rfl)
theorem iq:NmG (aa bq) "int":=.of (by kernel_rfl)
theorem ya (T:Txt K mg) (hq:bH (CXe P w)) {f:Addr} {fd:FuncData} (D:Df K mg "read_number" bq ["word","at"] f fd) {f_BadText___init__:Addr} {aB:FuncData} (F_BadText___init__:Fun K "__init__" "BadText.__init__" aH f_BadText___init__ aB) (b_BadText:Binds K aB ["self","at"] []) (bJ:mx K T.BadText f_BadText___init__) (G_BadText_init:FnOk P w K mg base (CXe P w) 1 f_BadText___init__ aB ["self","at"] (dc T)) {fv:Addr} {uB:FuncData} (gz:Df K mg "is_number" ce ["word"] fv uB) (G_is_number:FnOk P w K mg base (CXe P w) 1 fv uB ["word"] (t7 T)):FnOk P w K mg base (CXe P w) 3 f fd ["word","at"] (kH T):=by
 refine D.F.okX xI (fun vs H Q E h=>?_) (fun cdv A outer s H vs Q E hr h=>?_)
 . obtain ⟨w,i,rfl,_⟩:=h
   rfl
 . obtain ⟨w,i,rfl,as,wl,k,ke⟩:=h;refine ⟨_,(ai (aG (ik (gp (aJ G_is_number (hr.mono (by decide)) iB.g gz.m gz.F.kp gz.b .nil gU (ae (pvl 0 km) ah) (hdb:=iB.d)))) (aj (lB bJ G_BadText_init hq (hr.mono (by decide)) b_BadText rfl rfl p7 jf.g T.iL (ae (pvl 1 uQ) ah) (hdb:=jf.d))) aw) (aj (aR (dE E4 iq.g T.int EY (ae (pvl 0 km) ah) (hn:=iq.n) (hdb:=iq.d))))),?_⟩;rw [show L2.start ["word","at"] [V.str w,V.int i]=[some (V.str w),some (V.int i)] from rfl];walk_at "rd";refine ⟨w,rfl,as,wl,fun f H' s1=>⟨true,rfl,?_⟩,fun f H' s1=>⟨false,rfl,?_⟩⟩
   . rw [if_neg (by simp)];have l60:=f.len60;obtain ⟨e,b⟩:=f.fs;refine ⟨w,rfl,nv w.cps.toList,?_,?_,k _ (by unfold numW;rw [if_pos f]) _ s1⟩
     . have:=GR _ b;rw [<- e] at this;exact this
     . rw [bi];omega
   . rw [if_pos rfl];show ∃ v,_;refine ⟨V.int i,rfl,av (by simp),fun ea ne=>⟨ea,f_BadText___init__,_,rfl,ag,bJ,fun dx nd nde=>⟨rfl,some dx,?_,?_⟩⟩⟩
     . rw [am (Ne.symm nde),ag]
     . exact ke (lL.mpr f) dx _ (s1.trans (pV ne nd nde)) (by rw [ka nde,ag])
def on (T:Txt K mg):Sp:=fun vs H Q E=>∃ (z r0:Str) (au:List Str),vs=[.str z]/\z.length<=60000/\Txt.split z (Str.ofString "\n")=r0::au/\r0.length<=60000/\(ig r0).length<=2000/\(∀ w∈ig r0,WOk w) /\
 (∀ ns:List Nat,(ig r0).map numW=ns.map some->au=[]->∀ l H',H l=none->Same H H'->H' l=some (.lst (vNs ns))->Q (.ref l) H') /\
 ((∃ w∈ig r0,numW w=none)->∀ dx H',Same H H'->H' dx=some (.xd [("at",.int 1)])->E (.ref T.BadText) (some dx) H') /\
 ((∀ w∈ig r0,numW w≠none)->au≠[]->∀ dx H',Same H H'->H' dx=some (.xd [("at",.int 2)])->E (.ref T.BadText) (some dx) H')
abbrev bD:Stmt:=top 21
theorem gS:FnScope ["text","rows","numbers"] ["text"] (aa bD):=FnScope.of (by kernel_rfl)
theorem rQ:NmL (aa bD) "text":=.of (by kernel_rfl)
theorem dW:NmL (aa bD) "rows":=.of (by kernel_rfl)
theorem eO:NmL (aa bD) "numbers":=.of (by kernel_rfl)
theorem gR:NmG (aa bD) "check_end":=.of (by kernel_rfl)
theorem wK (T:Txt K mg) (hq:bH (CXe P w)) {f:Addr} {fd:FuncData} (D:Df K mg "read_numbers" bD ["text"] f fd) {b5:Addr} {dD:FuncData} (bA:Df K mg "check_end" bO ["rows","last"] b5 dD) (G_check_end:FnOk P w K mg base (CXe P w) 3 b5 dD ["rows","last"] (fV T)) {b9:Addr} {fE:FuncData} (bT:Df K mg "read_number" bq ["word","at"] b9 fE) (G_read_number:FnOk P w K mg base (CXe P w) 3 b9 fE ["word","at"] (kH T)):FnOk P w K mg base (CXe P w) 4 f fd ["text"] (on T):=by
 refine D.F.okX gS (fun vs H Q E h=>?_) (fun cdv A outer s H vs Q E hr h=>?_)
 . obtain ⟨z,r0,au,rfl,_⟩:=h
   rfl
 . obtain ⟨z,r0,au,rfl,zl,er,rl,wl,wo,k,ke1,ke2⟩:=h;refine ⟨_,(ai (ap (i:=1) gS.nd rfl (Or.inl dW.l) (bN PySem.F.plainAttrs_str PySem.F.slot_str_split PySem.F.type_str_split fo (pvl 0 rQ) (ae ao ah))) (ai (ap (i:=2) gS.nd rfl (Or.inl eO.l) (cj ah)) (ai (aG (ar gb (aF aQ (pvl 1 dW) af (fun _ _=>rfl)) ao (ax _)) (aj (pA (i:=2) rfl rfl rfl zZ gS.nd rfl eO.l rfl (kY (Nc:=["word"]) 1 (by decide +kernel) (by decide +kernel) rfl (by decide +kernel) rfl) (fQ (bN PySem.F.plainAttrs_str PySem.F.slot_str_split PySem.F.type_str_split fo (aF aQ (pvl 1 dW) af (fun _ _=>rfl)) (ae ao ah))) (fun _ _ _ _=>(bg (i:=0) (show (["word"]:List Str).Nodup from by decide +kernel) rfl (Or.inl rfl))) (fun _ _ _ _=>jD) (fun _ _ _ _=>(jw G_read_number (hr.mono (by decide)) (by rfl) bT.m bT.F.kp bT.b .nil (ae (pv 0) (ae af ah)))))) aw) (ai (bG (aJ G_check_end (hr.mono (by decide)) gR.g bA.m bA.F.kp bA.b .nil gU (ae (pvl 1 dW) (ae af ah)) (hdb:=gR.d))) (aj (aR (pvl 2 eO))))))),?_⟩;rw [show L2.start ["text","rows","numbers"] [V.str z]=[some (V.str z),none,none] from rfl];walk_at "rd";refine ⟨by simp [tyV],_,rfl,_,rfl,rfl,zl,fun r hr1=>?_⟩;rw [er];refine ⟨av (by simp),fun p hp=>?_⟩;have s1:Same H (upd H r (.lst ((r0::au).map V.str))):=Same.new _ hr1;have s2:=s1.trans (Same.new (.lst []) hp);have h1:(upd (upd H r (.lst ((r0::au).map V.str))) p (.lst [])) r=some (.lst (V.str r0::au.map V.str)):=Same.new _ hp _ _ ag;have a0:atI (V.str r0::au.map V.str) 0=some (V.str r0):=cV (Int.le_refl 0) rfl;refine ⟨r,_,0,V.str r0,rfl,rfl,SqL.of h1,a0,rfl,?_⟩;have end_:∀ (Hx:Hp) (l:Addr) (ns:List Nat),Same H Hx->H l=none->Hx l=some (.lst (vNs ns))->Hx r=some (.lst (V.str r0::au.map V.str))->(ig r0).map numW=ns.map some->fV T [V.ref r,V.int 1] Hx (fun _ H1=>Q (V.ref l) H1) E:=fun Hx l ns sx nl el hr' en=>by
     refine ⟨r,_,1,rfl,hr',fun le=>k ns en ?_ l Hx nl sx el,fun lt dx H' s' hd=>ke2 (fun w hw z=>?_) ?_ dx H' (sx.trans s') hd⟩
     . cases au with
       | nil=>rfl
       | cons _ _=>simp at le;omega
     . have:numW w∈ns.map some:=(by rw [<- en];exact List.mem_map.mpr ⟨w,hw,rfl⟩);obtain ⟨n,_,e⟩:=List.mem_map.mp this;rw [z] at e;cases e
     . rintro rfl;simp at lt
   by_cases c:r0=Str.ofString ""
   . rw [if_neg (fun z=>z (congrArg V.str c))];exact end_ _ p [] s2 (s1.free hp) ag h1 (by unfold ig;rw [if_pos c];rfl)
   . rw [if_pos (fun z=>c (by injection z))];have ew:ig r0=Txt.split r0 (Str.ofString " "):=(by unfold ig;rw [if_neg c]);refine ⟨r,_,0,V.str r0,rfl,rfl,SqL.of h1,a0,by simp [tyV],_,rfl,_,rfl,rfl,rl,fun q hq=>?_⟩;rw [<- ew];refine ⟨⟨_,SqL.of ag⟩,fun l nl=>?_⟩;have s3:=s2.trans (Same.new (.lst ((ig r0).map V.str)) hq);generalize hG:upd (upd (upd H r (.lst ((r0::au).map V.str))) p (.lst [])) q (.lst ((ig r0).map V.str))=G at s3 nl ⊢;have hr4:G r=some (.lst (V.str r0::au.map V.str)):=by
       rw [<- hG];exact Same.new _ hq _ _ h1
     have hq4:G q=some (.lst ((ig r0).map V.str)):=by
       rw [<- hG];exact ag
     refine k7 (K:=K) (c:=true) (a:=q) (xs:=(ig r0).map V.str) (fun i ys σ H2=>Same G H2/\H2 l=some (.lst ys)/\(∃ ns:List Nat,ys=vNs ns/\((ig r0).take i).map numW=ns.map some)/\∃ v,σ=[v]) ⟨Same.new _ nl,ag,⟨[],rfl,rfl⟩,_,rfl⟩ (fun i ys σ H2 _ ⟨z,_⟩=>SqL.of (z _ _ hq4)) ?_ ?_
     . rintro i x ys σ H2 N hN hi ⟨s5,h2,⟨ns,rfl,en⟩,v,rfl⟩;obtain ⟨w,hw,rfl⟩:=List.getElem?_map_some hi;have et:(ig r0).take (i+1)=(ig r0).take i++[w]:=(by rw [List.take_succ,hw];rfl);have hil:i<(ig r0).length:=(List.getElem?_eq_some_iff.mp hw).1;have wm:=List.mem_of_getElem? hw;have nsl:ns.length=i:=by
         have:=congrArg List.length en;rw [List.length_map,List.length_map,List.length_take] at this;omega
       walk_at "rd";refine ⟨w,1,rfl,(wo w wm).1,(wo w wm).2,fun n hn H3 s6=>⟨s6 _ _ h2,cz (by unfold vNs;rw [List.length_map];omega),hN _ _ _ ⟨?_,ag,⟨ns++[n],?_,?_⟩,_,rfl⟩⟩,fun hn dx H3 s6 hd=>?_⟩
       . exact fun b o e=>by rw [am (az e nl)];exact s6 _ _ (s5 _ _ e)
       . unfold vNs;rw [List.map_append];rfl
       . rw [et,List.map_append,List.map_append,en];show _++[numW w]=_;rw [hn]
         rfl
       . exact ke1 ⟨w,wm,hn⟩ dx H3 ((s3.trans s5).trans s6) hd
     . rintro ys σ H2 ⟨s5,h2,⟨ns,rfl,en⟩,v,rfl⟩;rw [List.length_map,List.take_length] at en;exact end_ H2 l ns (s3.trans s5) (s3.free nl) h2 (s5 _ _ hr4) en
def lP (T:Txt K mg):Sp:=fun vs H Q E=>∃ (l:Addr) (ws:List Str) (n i:Int),vs=[.ref l,.int n,.int i]/\H l=some (.lst (ws.map V.str))/\ws.length<=2000/\(∀ w∈ws,WOk w) /\
 ((ws.length:Int)=n->∀ ns:List Nat,ws.map numW=ns.map some->∀ p H',H p=none->Same H H'->H' p=some (.lst (vNs ns))->Q (.ref p) H') /\
 (((ws.length:Int)≠n\/∃ w∈ws,numW w=none)->∀ dx H',Same H H'->H' dx=some (.xd [("at",.int i)])->E (.ref T.BadText) (some dx) H')
abbrev bw:Stmt:=top 25
theorem za:FnScope ["words","many","at"] ["words","many","at"] (aa bw):=FnScope.of (by kernel_rfl)
theorem kq:NmL (aa bw) "words":=.of (by kernel_rfl)
theorem tm:NmL (aa bw) "many":=.of (by kernel_rfl)
theorem vq:NmC (aa bw) "at":=.of (by kernel_rfl)
theorem je:NmG (aa bw) "len":=.of (by kernel_rfl)
theorem jL:NmG (aa bw) "BadText":=.of (by kernel_rfl)
theorem zx (T:Txt K mg) (hq:bH (CXe P w)) {f:Addr} {fd:FuncData} (D:Df K mg "read_words" bw ["words","many","at"] f fd) {f_BadText___init__:Addr} {aB:FuncData} (F_BadText___init__:Fun K "__init__" "BadText.__init__" aH f_BadText___init__ aB) (b_BadText:Binds K aB ["self","at"] []) (bJ:mx K T.BadText f_BadText___init__) (G_BadText_init:FnOk P w K mg base (CXe P w) 1 f_BadText___init__ aB ["self","at"] (dc T)) {b9:Addr} {fE:FuncData} (bT:Df K mg "read_number" bq ["word","at"] b9 fE) (G_read_number:FnOk P w K mg base (CXe P w) 3 b9 fE ["word","at"] (kH T)):FnOk P w K mg base (CXe P w) 4 f fd ["words","many","at"] (lP T):=by
 refine D.F.okX za (fun vs H Q E h=>?_) (fun cdv A outer s H vs Q E hr h=>?_)
 . obtain ⟨l,ws,n,i,rfl,_⟩:=h
   rfl
 . obtain ⟨l,ws,n,at_,rfl,hl,wl,wo,k,ke⟩:=h;refine ⟨_,(ai (aG (ar gb (ay aN je.g T.len bQ (ae (pvl 0 kq) ah) (hn:=je.n) (hdb:=je.d)) (pvl 1 tm) (ax _)) (aj (lB bJ G_BadText_init hq (hr.mono (by decide)) b_BadText rfl rfl p7 jL.g T.iL (ae (pvc 2 vq) ah) (hdb:=jL.d))) aw) (aj (aR (Gx rfl rfl rfl zZ rfl (Cz (Nc:=["word","at"]) 1 [2] (by decide +kernel) rfl (by decide +kernel) rfl (by show ∀ (y:Str × NameKind),y∈_->y.2=NameKind.free->(aa bw).names.lookup y.1=some NameKind.cell;decide +kernel) rfl (fun _ h=>qk h) (fun i hi=>match i,hi with|0,_=>⟨"at",2,rfl,rfl,rfl,by decide +kernel⟩|i+1,hi=>absurd hi (by show ¬ i+1<1;omega))) (fQ (pvl 0 kq)) (fun _ _ _ _=>(bg (i:=0) (show (["word","at"]:List Str).Nodup from by decide +kernel) rfl (Or.inl rfl))) (fun _ _ _ _=>jD) (fun _ _ _ _=>(jw G_read_number (hr.mono (by decide)) (by rfl) bT.m bT.F.kp bT.b .nil (ae (pv 0) (ae (pv 1) ah)))))))),?_⟩;rw [show L2.start ["words","many","at"] [V.ref l,V.int n,V.int at_]=[some (V.ref l),some (V.int n),some (V.int at_)] from rfl];walk_at "rd";refine ⟨_,.inl (SqL.of hl),?_⟩;rw [List.length_map];by_cases e:(ws.length:Int)=n
   . rw [if_neg (fun z=>z e)];refine ⟨⟨_,SqL.of hl⟩,fun p np=>?_⟩;refine k7 (K:=K) (c:=true) (a:=l) (xs:=ws.map V.str) (fun i ys σ H2=>Same H H2/\H2 p=some (.lst ys)/\(∃ ns:List Nat,ys=vNs ns/\(ws.take i).map numW=ns.map some)/\∃ v,σ=[v,some (V.int at_)]) ⟨Same.new _ np,ag,⟨[],rfl,rfl⟩,_,rfl⟩ (fun i ys σ H2 _ ⟨z,_⟩=>SqL.of (z _ _ hl)) ?_ ?_
     . rintro i x ys σ H2 N hN hi ⟨s5,h2,⟨ns,rfl,en⟩,v,rfl⟩;obtain ⟨w,hw,rfl⟩:=List.getElem?_map_some hi;have et:ws.take (i+1)=ws.take i++[w]:=(by rw [List.take_succ,hw];rfl);have hil:i<ws.length:=(List.getElem?_eq_some_iff.mp hw).1;have wm:=List.mem_of_getElem? hw;have nsl:ns.length=i:=by
         have:=congrArg List.length en;rw [List.length_map,List.length_map,List.length_take] at this;omega
       walk_at "rd";refine ⟨w,at_,rfl,(wo w wm).1,(wo w wm).2,fun n hn H3 s6=>⟨s6 _ _ h2,cz (by unfold vNs;rw [List.length_map];omega),hN _ _ _ ⟨?_,ag,⟨ns++[n],?_,?_⟩,_,rfl⟩⟩,fun hn dx H3 s6 hd=>?_⟩
       . exact fun b o e=>by rw [am (az e np)];exact s6 _ _ (s5 _ _ e)
       . unfold vNs;rw [List.map_append];rfl
       . rw [et,List.map_append,List.map_append,en];show _++[numW w]=_;rw [hn]
         rfl
       . exact ke (.inr ⟨w,wm,hn⟩) dx H3 (s5.trans s6) hd
     . rintro ys σ H2 ⟨s5,h2,⟨ns,rfl,en⟩,v,rfl⟩;rw [List.length_map,List.take_length] at en;exact k e ns en p H2 np s5 h2
   . rw [if_pos e];unfold pZ;walk_at "rd";refine ⟨av (by simp),fun ea ne=>⟨ea,f_BadText___init__,_,rfl,ag,bJ,fun dx nd nde=>⟨rfl,some dx,?_,?_⟩⟩⟩
     . rw [am (Ne.symm nde),ag]
     . exact ke (.inl e) dx _ (pV ne nd nde) (by rw [ka nde,ag])
def sC (T:Txt K mg):Sp:=fun vs H Q E=>∃ (z r0:Str) (au:List Str),vs=[.str z]/\z.length<=60000/\Txt.split z (Str.ofString "\n")=r0::au/\r0.length<=60000/\(iw r0).length<=2000/\(∀ p∈iw r0,KB p) /\
 (∀ ss:List (List Nat),Paired zT (iw r0) ss->au=[]->∀ l qs H',H l=none->Same H H'->H' l=some (.lst (qs.map V.ref))->Paired (fun q ns=>H' q=some (.tup (vNs ns))) qs ss->Q (.ref l) H') /\
 ((∃ p∈iw r0,(wsp p).length≠3\/∃ w∈wsp p,numW w=none)->∀ dx H',Same H H'->H' dx=some (.xd [("at",.int 1)])->E (.ref T.BadText) (some dx) H') /\
 (∀ ss:List (List Nat),Paired zT (iw r0) ss->au≠[]->∀ dx H',Same H H'->H' dx=some (.xd [("at",.int 2)])->E (.ref T.BadText) (some dx) H')
abbrev bU:Stmt:=top 22
theorem jr:FnScope ["text","rows","steps"] ["text"] (aa bU):=FnScope.of (by kernel_rfl)
theorem tT:NmL (aa bU) "text":=.of (by kernel_rfl)
theorem fb:NmL (aa bU) "rows":=.of (by kernel_rfl)
theorem gJ:NmL (aa bU) "steps":=.of (by kernel_rfl)
theorem iY:NmG (aa bU) "check_end":=.of (by kernel_rfl)
theorem ze (T:Txt K mg) (hq:bH (CXe P w)) {f:Addr} {fd:FuncData} (D:Df K mg "read_steps" bU ["text"] f fd) {b5:Addr} {dD:FuncData} (bA:Df K mg "check_end" bO ["rows","last"] b5 dD) (G_check_end:FnOk P w K mg base (CXe P w) 3 b5 dD ["rows","last"] (fV T)) {cw:Addr} {gw:FuncData} (b7:Df K mg "read_words" bw ["words","many","at"] cw gw) (G_read_words:FnOk P w K mg base (CXe P w) 4 cw gw ["words","many","at"] (lP T)):FnOk P w K mg base (CXe P w) 5 f fd ["text"] (sC T):=by
 refine D.F.okX jr (fun vs H Q E h=>?_) (fun cdv A outer s H vs Q E hr h=>?_)
 . obtain ⟨z,r0,au,rfl,_⟩:=h
   rfl
 . obtain ⟨z,r0,au,rfl,zl,er,rl,wl,wo,k,ke1,ke2⟩:=h;refine ⟨_,(ai (ap (i:=1) jr.nd rfl (Or.inl fb.l) (bN PySem.F.plainAttrs_str PySem.F.slot_str_split PySem.F.type_str_split fo (pvl 0 tT) (ae ao ah))) (ai (ap (i:=2) jr.nd rfl (Or.inl gJ.l) (cj ah)) (ai (aG (ar gb (aF aQ (pvl 1 fb) af (fun _ _=>rfl)) ao (ax _)) (aj (pA (i:=2) rfl rfl rfl zZ jr.nd rfl gJ.l rfl (kY (Nc:=["part"]) 1 (by decide +kernel) (by decide +kernel) rfl (by decide +kernel) rfl) (fQ (bN PySem.F.plainAttrs_str PySem.F.slot_str_split PySem.F.type_str_split fo (aF aQ (pvl 1 fb) af (fun _ _=>rfl)) (ae ao ah))) (fun _ _ _ _=>(bg (i:=0) (show (["part"]:List Str).Nodup from by decide +kernel) rfl (Or.inl rfl))) (fun _ _ _ _=>jD) (fun _ _ _ _=>(uT (kU K rfl) (by rfl) T.tuple hV (jw G_read_words (hr.mono (by decide)) (by rfl) b7.m b7.F.kp b7.b .nil (ae (Ji K rfl PySem.F.plainAttrs_str PySem.F.slot_str_split PySem.F.type_str_split fo (pv 0) (ae ao ah)) (ae af (ae af ah)))))))) aw) (ai (bG (aJ G_check_end (hr.mono (by decide)) iY.g bA.m bA.F.kp bA.b .nil gU (ae (pvl 1 fb) (ae af ah)) (hdb:=iY.d))) (aj (aR (pvl 2 gJ))))))),?_⟩;rw [show L2.start ["text","rows","steps"] [V.str z]=[some (V.str z),none,none] from rfl];walk_at "rd";refine ⟨by simp [tyV],_,rfl,_,rfl,rfl,zl,fun r hr1=>?_⟩;rw [er];refine ⟨av (by simp),fun p hp=>?_⟩;have s1:Same H (upd H r (.lst ((r0::au).map V.str))):=Same.new _ hr1;have s2:=s1.trans (Same.new (.lst []) hp);have h1:(upd (upd H r (.lst ((r0::au).map V.str))) p (.lst [])) r=some (.lst (V.str r0::au.map V.str)):=Same.new _ hp _ _ ag;have a0:atI (V.str r0::au.map V.str) 0=some (V.str r0):=cV (Int.le_refl 0) rfl;refine ⟨r,_,0,V.str r0,rfl,rfl,SqL.of h1,a0,rfl,?_⟩;have end_:∀ (Hx:Hp) (l:Addr) (qs:List Addr) (ss:List (List Nat)),Same H Hx->H l=none->Hx l=some (.lst (qs.map V.ref))->Paired (fun q ns=>Hx q=some (.tup (vNs ns))) qs ss->Hx r=some (.lst (V.str r0::au.map V.str))->Paired zT (iw r0) ss->fV T [V.ref r,V.int 1] Hx (fun _ H1=>Q (V.ref l) H1) E:=fun Hx l qs ss sx nl el pr hr' en=>by
     refine ⟨r,_,1,rfl,hr',fun le=>k ss en ?_ l qs Hx nl sx el pr,fun lt dx H' s' hd=>ke2 ss en ?_ dx H' (sx.trans s') hd⟩
     . cases au with
       | nil=>rfl
       | cons _ _=>simp at le;omega
     . rintro rfl;simp at lt
   by_cases c:r0=Str.ofString "."
   . rw [if_neg (fun z=>z (congrArg V.str c))];exact end_ _ p [] [] s2 (s1.free hp) ag .nil h1 (by unfold iw;rw [if_pos c];exact .nil)
   . rw [if_pos (fun z=>c (by injection z))];have ew:iw r0=Txt.split r0 (Str.ofString " / "):=(by unfold iw;rw [if_neg c]);refine ⟨r,_,0,V.str r0,rfl,rfl,SqL.of h1,a0,by simp [tyV],_,rfl,_,rfl,rfl,rl,fun q hq=>?_⟩;rw [<- ew];refine ⟨⟨_,SqL.of ag⟩,fun l nl=>?_⟩;have s3:=s2.trans (Same.new (.lst ((iw r0).map V.str)) hq);generalize hG:upd (upd (upd H r (.lst ((r0::au).map V.str))) p (.lst [])) q (.lst ((iw r0).map V.str))=G at s3 nl ⊢;have hr4:G r=some (.lst (V.str r0::au.map V.str)):=by
       rw [<- hG];exact Same.new _ hq _ _ h1
     have hq4:G q=some (.lst ((iw r0).map V.str)):=by
       rw [<- hG];exact ag
     clear hG;refine k7 (K:=K) (c:=true) (a:=q) (xs:=(iw r0).map V.str) (fun i ys σ H2=>Same G H2/\H2 l=some (.lst ys)/\(∃ (qs:List Addr) (ss:List (List Nat)),ys=qs.map V.ref/\qs.length=i/\Paired (fun q ns=>H2 q=some (.tup (vNs ns))) qs ss/\Paired zT ((iw r0).take i) ss)/\∃ v,σ=[v]) ⟨Same.new _ nl,ag,⟨[],[],rfl,rfl,.nil,.nil⟩,_,rfl⟩ (fun i ys σ H2 _ ⟨z,_⟩=>SqL.of (z _ _ hq4)) ?_ ?_
     . rintro i x ys σ H2 N hN hi ⟨s5,h2,⟨qs,ss,rfl,ql,pr,tl⟩,v,rfl⟩;obtain ⟨w,hw,rfl⟩:=List.getElem?_map_some hi;have et:(iw r0).take (i+1)=(iw r0).take i++[w]:=(by rw [List.take_succ,hw];rfl);have hil:i<(iw r0).length:=(List.getElem?_eq_some_iff.mp hw).1;have wm:=List.mem_of_getElem? hw;obtain ⟨o1,o2,o3⟩:=wo w wm;walk_at "rd";refine ⟨by simp [tyV],_,rfl,_,rfl,rfl,o1,fun lw nlw=>?_⟩;have s6:=Same.new (.lst ((wsp w).map V.str)) nlw;refine ⟨lw,wsp w,3,1,rfl,ag,o2,o3,fun w3 ns en pn H4 npn s7 epn=>⟨pn,rfl,vNs ns,.inl ⟨SqL.of epn,fun pt npt=>?_⟩⟩,fun bad dx H4 s7 hd=>?_⟩
       . have s67:=s6.trans s7;have s8:=Same.new (.tup (vNs ns)) npt;have s68:=s67.trans s8;have nptl:pt≠l:=fun z=>by rw [z] at npt;rw [s67 _ _ h2] at npt;cases npt
         have n3:ns.length=3:=by
           have:=congrArg List.length en;rw [List.length_map,List.length_map] at this;omega
         refine ⟨s68 _ _ h2,cz (by rw [List.length_map];omega),hN _ _ _ ⟨?_,ag,⟨qs++[pt],ss++[ns],by rw [List.map_append];rfl,by rw [List.length_append,ql];rfl,?_,?_⟩,_,rfl⟩⟩
         . exact fun b o e=>by rw [am (az e nl)];exact s68 _ _ (s5 _ _ e)
         . refine vF (by rw [am nptl];exact ag) (Paired.imp' (fun b m hb=>?_) pr);have nb:b≠l:=uH hb h2 (by intro z;cases z);rw [am nb];exact s68 _ _ hb
         . rw [et];exact vF ⟨en,n3⟩ tl
       . refine ke1 ⟨w,wm,?_⟩ dx H4 ((s3.trans s5).trans (s6.trans s7)) hd;rcases bad with b|b
         . exact .inl (by omega)
         . exact .inr b
     . rintro ys σ H2 ⟨s5,h2,⟨qs,ss,rfl,ql,pr,tl⟩,v,rfl⟩;rw [List.length_map,List.take_length] at tl;exact end_ H2 l qs ss (s3.trans s5) (s3.free nl) h2 pr (s5 _ _ hr4) tl
def u6 (T:Txt K mg):Sp:=fun vs H Q E=>∃ (a:Addr) (Y:List Str) (i n:Nat) (hd:Str),vs=[.ref a,.int (i+1:Nat),.str hd,.int n]/\H a=some (.lst (Y.map V.str))/\(∀ y∈Y,Rw y) /\
 (∀ y ns,Y[i]?=some y->Row1 hd n y ns->∀ p H',H p=none->Same H H'->H' p=some (.lst (vNs ns))->Q (.ref p) H') /\
 ((∀ y,Y[i]?=some y->¬ ∃ ns,Row1 hd n y ns)->∀ dx H',Same H H'->H' dx=some (.xd [("at",.int (i+1:Nat))])->E (.ref T.BadText) (some dx) H')
abbrev bK:Stmt:=top 24
theorem ve:FnScope ["rows","at","head","many","words"] ["rows","at","head","many"] (aa bK):=FnScope.of (by kernel_rfl)
theorem nB:NmL (aa bK) "rows":=.of (by kernel_rfl)
theorem fF:NmL (aa bK) "at":=.of (by kernel_rfl)
theorem vJ:NmL (aa bK) "head":=.of (by kernel_rfl)
theorem vx:NmL (aa bK) "many":=.of (by kernel_rfl)
theorem i9:NmL (aa bK) "words":=.of (by kernel_rfl)
theorem jQ:NmG (aa bK) "len":=.of (by kernel_rfl)
theorem eI:NmG (aa bK) "BadText":=.of (by kernel_rfl)
theorem ji:NmG (aa bK) "read_words":=.of (by kernel_rfl)
theorem BU (T:Txt K mg) (hq:bH (CXe P w)) {f:Addr} {fd:FuncData} (D:Df K mg "read_row" bK ["rows","at","head","many"] f fd) {f_BadText___init__:Addr} {aB:FuncData} (F_BadText___init__:Fun K "__init__" "BadText.__init__" aH f_BadText___init__ aB) (b_BadText:Binds K aB ["self","at"] []) (bJ:mx K T.BadText f_BadText___init__) (G_BadText_init:FnOk P w K mg base (CXe P w) 1 f_BadText___init__ aB ["self","at"] (dc T)) {cw:Addr} {gw:FuncData} (b7:Df K mg "read_words" bw ["words","many","at"] cw gw) (G_read_words:FnOk P w K mg base (CXe P w) 4 cw gw ["words","many","at"] (lP T)):FnOk P w K mg base (CXe P w) 5 f fd ["rows","at","head","many"] (u6 T):=by
 refine D.F.okX ve (fun vs H Q E h=>?_) (fun cdv A outer s H vs Q E hr h=>?_)
 . obtain ⟨a,Y,i,n,hd,rfl,_⟩:=h
   rfl
 . obtain ⟨a,Y,i,n,hd,rfl,ea,hY,k,ke⟩:=h;refine ⟨_,(ai (aG (ar uL (pvl 1 fF) (ay aN jQ.g T.len bQ (ae (pvl 0 nB) ah) (hn:=jQ.n) (hdb:=jQ.d)) (ax _)) (aj (lB bJ G_BadText_init hq (hr.mono (by decide)) b_BadText rfl rfl p7 eI.g T.iL (ae (pvl 1 fF) ah) (hdb:=eI.d))) aw) (ai (ap (i:=4) ve.nd rfl (Or.inl i9.l) (bN PySem.F.plainAttrs_str PySem.F.slot_str_split PySem.F.type_str_split fo (aF aQ (pvl 0 nB) (ak uy (pvl 1 fF) af) (fun _ _=>rfl)) (ae ao ah))) (ai (aG (ar gb (aF aQ (pvl 4 i9) af (fun _ _=>rfl)) (pvl 2 vJ) (ax _)) (aj (lB bJ G_BadText_init hq (hr.mono (by decide)) b_BadText rfl rfl p7 eI.g T.iL (ae (pvl 1 fF) ah) (hdb:=eI.d))) aw) (aj (aR (aJ G_read_words (hr.mono (by decide)) ji.g b7.m b7.F.kp b7.b .nil gU (ae (iK mG (pvl 4 i9) (gB af) mF) (ae (pvl 3 vx) (ae (pvl 1 fF) ah))) (hdb:=ji.d))))))),?_⟩;rw [show L2.start ["rows","at","head","many","words"] [V.ref a,V.int (i+1:Nat),V.str hd,V.int n]=[some (V.ref a),some (V.int (i+1:Nat)),some (V.str hd),some (V.int n),none] from rfl];unfold tSl uC tNoPart;walk_at "rd";refine ⟨_,.inl (SqL.of ea),?_⟩;rw [List.length_map];by_cases z:(Y.length:Int)<((i+1:Nat):Int)
   . rw [if_pos z];unfold pZ;walk_at "rd";refine ⟨av (by simp),fun ea ne=>⟨ea,f_BadText___init__,_,rfl,ag,bJ,fun dx nd nde=>⟨rfl,some dx,?_,?_⟩⟩⟩
     . rw [am (Ne.symm nde),ag]
     . exact ke (fun y hy=>by have:=(List.getElem?_eq_some_iff.mp hy).1;omega) dx _ (pV ne nd nde) (by rw [ka nde,ag])
   . rw [if_neg z];obtain ⟨y,hy⟩:∃ y,Y[i]?=some y:=⟨_,List.getElem?_eq_getElem (by omega)⟩;have ym:=hY y (List.mem_of_getElem? hy);obtain ⟨w1,w2,w3⟩:=ym.wsp;refine ixL ea (v:=V.str y) (cV (by omega) (by rw [show (((i+1:Nat):Int) - 1).toNat=i by omega,List.getElem?_map,hy];rfl)) ⟨by simp [tyV],y,rfl,_,rfl,rfl,w1,fun l nl=>?_⟩;have s1:=Same.new (HO.lst ((Txt.split y (Str.ofString " ")).map V.str)) nl;have e1:upd H l (HO.lst ((Txt.split y (Str.ofString " ")).map V.str)) l=some (.lst ((wsp y).map V.str)):=ag;generalize upd H l (HO.lst ((Txt.split y (Str.ofString " ")).map V.str))=H1 at s1 e1 ⊢;have n0:wsp y≠[]:=qO _ _;have un:∀ y',Y[i]?=some y'->y'=y:=fun y' h=>by rw [hy] at h;exact (Option.some.inj h).symm
     obtain ⟨w,ws,ew⟩:∃ w ws,wsp y=w::ws:=by
       cases e:wsp y with
       | nil=>exact absurd e n0
       | cons w ws=>exact ⟨w,ws,rfl⟩
     rw [ew] at e1 w2 w3;refine ixL e1 (v:=V.str w) (cV (Int.le_refl 0) rfl) ⟨rfl,?_⟩;by_cases c:w=hd
     . rw [if_neg (fun z=>z (congrArg V.str c))];refine ⟨l,_,rfl,SqL.of e1,fun p np=>?_⟩;rw [A4 _ (by decide)];have s2:=Same.new (HO.lst (ws.map V.str)) np;rw [List.length_cons] at w2;refine ⟨p,ws,n,(i+1:Nat),rfl,ag,by omega,fun x hx=>w3 x (.tail _ hx),fun l3 ns en p2 H2 np2 s3 e2=>?_,fun bad dx H2 s3 hd2=>?_⟩
       . exact k y ns hy ⟨ws,by rw [ew,c],en,by have:=congrArg List.length en;rw [List.length_map,List.length_map] at this;omega⟩ p2 H2 (s1.free (s2.free np2)) (s1.trans (s2.trans s3)) e2
       . refine ke (fun y' h=>?_) dx H2 (s1.trans (s2.trans s3)) hd2;rw [un y' h];rintro ⟨ns,ws',e,m,l4⟩;rw [ew] at e;obtain ⟨_,rfl⟩:=List.cons.inj e;have ml:=congrArg List.length m;rw [List.length_map,List.length_map] at ml;rcases bad with b|⟨x,hx,b⟩
         . omega
         . have:numW x∈ns.map some:=(by rw [<- m];exact List.mem_map.mpr ⟨x,hx,rfl⟩);rw [b] at this;obtain ⟨_,_,e⟩:=List.mem_map.mp this;cases e
     . rw [if_pos (fun z=>c (by injection z))];unfold pZ;walk_at "rd";refine ⟨av (by simp),fun ea ne=>⟨ea,f_BadText___init__,_,rfl,ag,bJ,fun dx nd nde=>⟨rfl,some dx,?_,?_⟩⟩⟩
       . rw [am (Ne.symm nde),ag]
       . refine ke (fun y' h=>?_) dx _ (s1.trans (pV ne nd nde)) (by rw [ka nde,ag]);rw [un y' h];rintro ⟨ns,ws',e,_⟩;rw [ew] at e;exact c (List.cons.inj e).1
def pf (T:Txt K mg):Sp:=fun vs H Q E=>∃ (z:Str) (Y:List Str) (dv:Dv),vs=[.str z]/\z.length<=60000/\Txt.split z (Str.ofString "\n")=Y/\(∀ y∈Y,Rw y)/\Due Y dv /\
 (match dv with
   | .ok m rs=>∀ p t ps H',H p=none->Same H H'->WebAt T.Web H' p m t ps rs->Q (.ref p) H'
   | .bad n=>∀ dx H',Same H H'->H' dx=some (.xd [("at",.int n)])->E (.ref T.BadText) (some dx) H'
   | .web=>∀ H',Same H H'->E (.ref T.BadWeb) none H')
abbrev a8:Stmt:=top 23
theorem jk:FnScope ["text","rows","many","last","roads"] ["text"] (aa a8):=FnScope.of (by kernel_rfl)
theorem vm:NmL (aa a8) "text":=.of (by kernel_rfl)
theorem jA:NmC (aa a8) "rows":=.of (by kernel_rfl)
theorem f7:NmL (aa a8) "many":=.of (by kernel_rfl)
theorem jt:NmL (aa a8) "last":=.of (by kernel_rfl)
theorem mi:NmL (aa a8) "roads":=.of (by kernel_rfl)
theorem kc:NmG (aa a8) "read_row":=.of (by kernel_rfl)
theorem iW:NmG (aa a8) "MOST_PLACES":=.of (by kernel_rfl)
theorem uO:NmG (aa a8) "range":=.of (by kernel_rfl)
theorem jJ:NmG (aa a8) "check_end":=.of (by kernel_rfl)
theorem oB:NmG (aa a8) "Web":=.of (by kernel_rfl)
theorem BX (T:Txt K mg) (hq:bH (CXe P w)) {f:Addr} {fd:FuncData} (D:Df K mg "read_web" a8 ["text"] f fd) {f_Web___init__:Addr} {jO:FuncData} (F_Web___init__:Fun K "__init__" "Web.__init__" aK f_Web___init__ jO) (b_Web:Binds K jO ["self","many","roads"] []) (DM:Mk K T.Web f_Web___init__) (G_Web_init:FnOk P w K mg base (CXe P w) 3 f_Web___init__ jO ["self","many","roads"] (oE T)) {b5:Addr} {dD:FuncData} (bA:Df K mg "check_end" bO ["rows","last"] b5 dD) (G_check_end:FnOk P w K mg base (CXe P w) 3 b5 dD ["rows","last"] (fV T)) {f8:Addr} {vh:FuncData} (d5:Df K mg "read_row" bK ["rows","at","head","many"] f8 vh) (G_read_row:FnOk P w K mg base (CXe P w) 5 f8 vh ["rows","at","head","many"] (u6 T)):FnOk P w K mg base (CXe P w) 6 f fd ["text"] (pf T):=by
 refine D.F.okX jk (fun vs H Q E h=>?_) (fun cdv A outer s H vs Q E hr h=>?_)
 . obtain ⟨z,Y,dv,rfl,_⟩:=h
   rfl
 . obtain ⟨z,Y,dv,rfl,zl,eY,hY,du,k⟩:=h;refine ⟨_,(ai (ap (i:=1) jk.nd rfl (Or.inr jA.l) (bN PySem.F.plainAttrs_str PySem.F.slot_str_split PySem.F.type_str_split fo (pvl 0 vm) (ae ao ah))) (ai (ap (i:=2) jk.nd rfl (Or.inl f7.l) (aF aQ (aJ G_read_row (hr.mono (by decide)) kc.g d5.m d5.F.kp d5.b .nil gU (ae (pvc 1 jA) (ae af (ae ao (ae af ah)))) (hdb:=kc.d)) af (fun _ _=>rfl))) (ai (ap (i:=3) jk.nd rfl (Or.inl jt.l) (FK (n9 iQ iQ af (pvl 2 f7) (m9 iW.g T.c_MOST_PLACES (hd:=iW.d))) (pvl 2 f7) af)) (ai (pA (i:=4) rfl rfl rfl zZ jk.nd rfl mi.l rfl (Cz (Nc:=["at","rows"]) 1 [1] (by decide +kernel) rfl (by decide +kernel) rfl (by show ∀ (y:Str × NameKind),y∈_->y.2=NameKind.free->(aa a8).names.lookup y.1=some NameKind.cell;decide +kernel) rfl (fun _ h=>qk h) (fun i hi=>match i,hi with|0,_=>⟨"rows",1,rfl,rfl,rfl,by decide +kernel⟩|i+1,hi=>absurd hi (by show ¬ i+1<1;omega))) (tM uO.g T.range (ae af (ae (ak bP (pvl 3 jt) af) ah))) (fun _ _ _ _=>(bg (i:=0) (show (["at","rows"]:List Str).Nodup from by decide +kernel) rfl (Or.inl rfl))) (fun _ _ _ _=>jD) (fun _ _ _ _=>(uT (kU K rfl) (by rfl) T.tuple hV (jw G_read_row (hr.mono (by decide)) (by rfl) d5.m d5.F.kp d5.b .nil (ae (pv 1) (ae (pv 0) (ae ao (ae af ah)))))))) (ai (bG (aJ G_check_end (hr.mono (by decide)) jJ.g bA.m bA.F.kp bA.b .nil gU (ae (pvc 1 jA) (ae (pvl 3 jt) ah)) (hdb:=jJ.d))) (aj (aR (HU DM G_Web_init (hr.mono (by decide)) oB.g T.J8 b_Web .nil gU (ae (pvl 2 f7) (ae (pvl 4 mi) ah)) (hdb:=oB.d))))))))),?_⟩;rw [show L2.start ["text","rows","many","last","roads"] [V.str z]=[some (V.str z),none,none,none,none] from rfl];refine bW fun N0 h0=>?_;walk_at "rd";refine ⟨by simp [tyV],_,rfl,_,rfl,rfl,zl,fun l nl=>h0 _ _ (bW fun N1 h1=>?_)⟩;rw [eY];have s1:=Same.new (.lst (Y.map V.str)) nl;have el:upd H l (.lst (Y.map V.str)) l=some (.lst (Y.map V.str)):=ag;generalize upd H l (.lst (Y.map V.str))=H1 at s1 el ⊢;walk_at "rd";have hk:((∀ y,Y[0]?=some y->¬ ∃ ns,Row1 hWeb 1 y ns)/\∀ dx H',Same H H'->H' dx=some (.xd [("at",.int 1)])->E (.ref T.BadText) (some dx) H') \/
       ∃ m nss,Ldr Y m nss/\(nss.length+1<lns m->(∀ y,Y[nss.length+1]?=some y->¬ ∃ ns,Row1 hRoad 4 y ns)/\∀ dx H',Same H H'->H' dx=some (.xd [("at",.int (nss.length+2:Nat))])->E (.ref T.BadText) (some dx) H') /\
         (nss.length+1=lns m->lns m<Y.length->∀ dx H',Same H H'->H' dx=some (.xd [("at",.int (lns m+1:Nat))])->E (.ref T.BadText) (some dx) H') /\
         (rn Y m nss->¬ Good m (nss.map rdOf)->∀ H',Same H H'->E (.ref T.BadWeb) none H') /\
         (rn Y m nss->Good m (nss.map rdOf)->∀ p t ps H',H p=none->Same H H'->WebAt T.Web H' p m t ps (nss.map rdOf)->Q (.ref p) H'):=by
     cases dv with
     | bad n =>
       rcases du with ⟨rfl,h⟩|⟨m,nss,L,lt,h,rfl⟩|⟨m,nss,L,e,lt,rfl⟩
       . exact .inl ⟨h,k⟩
       . exact .inr ⟨m,nss,L,fun _=>⟨h,k⟩,fun e=>absurd e (by omega),fun f=>absurd f.2.1 (by omega),fun f=>absurd f.2.1 (by omega)⟩
       . exact .inr ⟨m,nss,L,fun h=>absurd h (by omega),fun _ _=>k,fun f=>absurd f.2.2 (by omega),fun f=>absurd f.2.2 (by omega)⟩
     | web =>
       obtain ⟨m,nss,f,ng⟩:=du;exact .inr ⟨m,nss,f.1,fun h=>absurd f.2.1 (by omega),fun _ h=>absurd f.2.2 (by omega),fun _ _=>k,fun _ g=>absurd g ng⟩
     | ok m rs =>
       obtain ⟨nss,f,rfl,g⟩:=du;exact .inr ⟨m,nss,f.1,fun h=>absurd f.2.1 (by omega),fun _ h=>absurd f.2.2 (by omega),fun _ ng=>absurd g ng,fun _ _=>k⟩
   clear k du;rcases hk with ⟨h,k⟩|⟨m,nss,L,kA,kB,kC,kD⟩
   . exact ⟨l,Y,0,1,hWeb,rfl,el,hY,fun y ns hy r=>absurd ⟨ns,r⟩ (h y hy),fun _ dx H' s' hd=>k dx H' (s1.trans s') hd⟩
   obtain ⟨y0,hy0,r0⟩:=L.one;refine ⟨l,Y,0,1,hWeb,rfl,el,hY,fun y ns hy r p2 H2 np2 s2 e2=>?_,fun h=>absurd ⟨_,r0⟩ (h y0 hy0)⟩;have:ns=[m]:=by
     rw [hy0] at hy;cases hy;exact r.uniq r0
   subst this;refine ixL (v:=V.int m) e2 (cV (Int.le_refl 0) rfl) (h1 _ _ (bW fun N2 h2=>?_));have el2:=s2 _ _ el;have s12:=s1.trans s2;clear s1 s2 el e2 h0 h1;have lp:=uE m;have LL:=L.len;have hl:N2 [some (V.str z),some (V.ref l),some (V.int m),some (V.int (lns m)),none] H2:=by
     refine h2 _ _ (bW fun N3 h3=>?_);clear h2;walk_at "rd";refine ⟨2,_,⟨rfl,rfl⟩,⟨by omega,by omega,by omega,by omega⟩,fun pc npc=>?_⟩;rw [show ((lns m:Int)+1 - 2).toNat=lns m - 1 by omega];have s2:=Same.new (.lst []) npc;refine Da (fun i zs σ H3=>i<=nss.length/\Same H2 H3/\H3 pc=some (.lst zs)/\(∃ ps:List Addr,zs=ps.map V.ref/\ps.length=i/\RoadsAt H3 ps ((nss.map rdOf).take i))/\∃ v,σ=[v,some (V.ref l)]) ⟨Nat.zero_le _,s2,ag,⟨[],rfl,rfl,.nil⟩,_,rfl⟩ ?_ ?_
     . rintro i zs σ H3 N hN hi ⟨il,s3,e3,⟨ps,rfl,pl,ro⟩,v,rfl⟩;walk_at "rd";have ei:V.int (2+(i:Int))=V.int ((i+1+1:Nat):Int):=(by rw [show ((i+1+1:Nat):Int)=2+(i:Int) by omega]);refine ⟨l,Y,i+1,4,hRoad,by rw [ei];rfl,s3 _ _ el2,hY,fun y ns hy r q H4 nq s4 e4=>?_,fun h dx H4 s4 hd=>?_⟩
       . have il2:i<nss.length:=by
           refine Nat.lt_of_le_of_ne il fun z=>?_;have:=(kA (by omega)).1 y (by rw [<- z];exact hy);exact this ⟨ns,r⟩
         obtain ⟨ns',hn'⟩:∃ ns',nss[i]?=some ns':=⟨_,List.getElem?_eq_getElem il2⟩;obtain ⟨y',hy',r'⟩:=L.row i ns' hn';have ey:y'=y:=(by rw [hy] at hy';exact (Option.some.inj hy').symm);subst ey;have en:=r.uniq r';subst en;have n4:=(L.ns4 ns (List.mem_of_getElem? hn')).1;have et:(nss.map rdOf).take (i+1)=(nss.map rdOf).take i++[rdOf ns]:=(by rw [List.take_succ,List.getElem?_map,hn'];rfl);refine ⟨q,rfl,_,.inl ⟨SqL.of e4,fun qt nqt=>?_⟩⟩;have s5:=s4.trans (Same.new (.tup (vNs ns)) nqt);have nqp:qt≠pc:=fun z=>by rw [z,s4 _ _ e3] at nqt;cases nqt
         refine ⟨s5 _ _ e3,cz (by rw [List.length_map];omega),hN _ _ _ ⟨il2,?_,ag,⟨ps++[qt],by rw [List.map_append];rfl,by rw [List.length_append,pl];rfl,?_⟩,_,rfl⟩⟩
         . exact fun b o e=>by rw [am (az e npc)];exact s5 _ _ (s3 _ _ e)
         . rw [et];refine wT (.cons ?_ .nil) (Paired.imp' (fun b r hb=>?_) ro)
           . show upd _ pc _ qt=some (.tup (eV (rdOf ns)));rw [am nqp,Ej n4];exact ag
           . rw [am (uH hb e3 (by intro z;cases z))];exact s5 _ _ hb
       . have il2:i=nss.length:=by
           refine Nat.le_antisymm il (Nat.le_of_not_lt fun z=>?_);obtain ⟨ns',hn'⟩:∃ ns',nss[i]?=some ns':=⟨_,List.getElem?_eq_getElem z⟩;obtain ⟨y',hy',r'⟩:=L.row i ns' hn';exact h y' hy' ⟨_,r'⟩
         refine (kA (by omega)).2 dx H4 (s12.trans (s3.trans s4)) ?_;rw [hd,il2]
     . rintro zs σ H3 ⟨il,s3,e3,⟨ps,rfl,pl,ro⟩,v,rfl⟩;have il2:lns m - 1=nss.length:=(by omega);rw [List.take_of_length_le (by rw [List.length_map];omega)] at ro;have s13:=s12.trans s3;refine h3 _ _ ?_;walk_at "rd";refine ⟨l,_,_,rfl,s3 _ _ el2,fun le=>?_,fun lt dx H4 s4 hd=>kB (by omega) (by rw [List.length_map] at lt;omega) dx H4 (s13.trans s4) (by rw [hd];rfl)⟩;have fu:rn Y m nss:=⟨L,by omega,by have:=L.lenY;rw [List.length_map] at le;omega⟩;intro x dx hx hdx ne;have hx1:upd H3 dx (.own x) x=none:=(by rw [am ne.symm];exact hx);have s0:Same H3 (upd (upd H3 dx (.own x)) x (.ins T.Web dx [])):=(Same.new _ hdx).trans (Same.new _ hx1);refine ⟨x,dx,m,true,pc,ps,nss.map rdOf,rfl,ag,SqL.of (s0 _ _ e3),RoadsAt.same s0 ro,by rw [List.length_map];omega,fun g t H4 ht W kp=>⟨rfl,kD fu g x t ps H4 (s13.free hx) (s13.trans fun b o e=>kp b o (s0 b o e) (az e hx)) W⟩,fun ng H4 s4=>kC fu ng H4 (s13.trans (s0.trans s4))⟩
   unfold lns at hl;walk_at "rd";by_cases c1:1<=m
   . rw [if_pos (by omega)];by_cases c2:m<=24
     . rw [if_pos (by omega)];rw [if_pos ⟨c1,c2⟩] at hl;exact hl
     . rw [if_neg (by omega)];rw [if_neg (fun z=>c2 z.2)] at hl;exact hl
   . rw [if_neg (by omega)];rw [if_neg (fun z=>c1 z.1)] at hl;exact hl
theorem ft {K:PySem.W.Frag} {C C' Tl:Addr} (xe:XErr K Tl C) (x':XErr K Tl C') (ne:C'≠Tl) (n:C'≠C):A5 K C (.ref C') false:=by
 refine ⟨x'.x,?_⟩;rw [xe.mr,decide_eq_false ne,Bool.or_false,decide_eq_false n]
theorem Hb {K:PySem.W.Frag} {C Tl:Addr} (xe:XErr K Tl C) (ne:C≠Tl):A5 K C (.ref C) true:=by
 refine ⟨xe.x,?_⟩;rw [xe.mr,decide_eq_false ne,Bool.or_false,decide_eq_true rfl]
def Kp:Dv->V
 | .bad n=>.int (n:Int)
 | .web=>.str (Str.ofString "web")
 | .ok _ _=>.non
def wg (T:Txt K mg):Sp:=fun vs H Q _=>∃ (z:Str) (Y:List Str) (dv:Dv),vs=[.int 2,.str z]/\z.length<=60000/\Txt.split z (Str.ofString "\n")=Y/\(∀ y∈Y,Rw y)/\Due Y dv/\∀ H',Same H H'->Q (Kp dv) H'
abbrev aW:Stmt:=top 36
theorem gh:FnScope ["pick","text","row","e","others"] ["pick","text"] (aa aW):=FnScope.of (by kernel_rfl)
theorem oy:NmL (aa aW) "pick":=.of (by kernel_rfl)
theorem jX:NmL (aa aW) "text":=.of (by kernel_rfl)
theorem fB:NmL (aa aW) "row":=.of (by kernel_rfl)
theorem dF:NmL (aa aW) "e":=.of (by kernel_rfl)
theorem mn:NmL (aa aW) "others":=.of (by kernel_rfl)
theorem iX:NmG (aa aW) "read_numbers":=.of (by kernel_rfl)
theorem jF:NmG (aa aW) "read_steps":=.of (by kernel_rfl)
theorem ku:NmG (aa aW) "read_web":=.of (by kernel_rfl)
theorem j5:NmG (aa aW) "TollError":=.of (by kernel_rfl)
theorem aq:NmG (aa aW) "isinstance":=.of (by kernel_rfl)
theorem mm:NmG (aa aW) "BadWeb":=.of (by kernel_rfl)
theorem lG:NmG (aa aW) "BadStep":=.of (by kernel_rfl)
theorem qG:NmG (aa aW) "BadLaying":=.of (by kernel_rfl)
theorem lC:NmG (aa aW) "NoPlace":=.of (by kernel_rfl)
theorem lK:NmG (aa aW) "BadText":=.of (by kernel_rfl)
theorem b6:NmG (aa aW) "ValueError":=.of (by kernel_rfl)
theorem C5 (T:Txt K mg) (hq:bH (CXe P w)) {f:Addr} {fd:FuncData} (D:Df K mg "_law_bad" aW ["pick","text"] f fd) {dg:Addr} {oJ:FuncData} (eg:Df K mg "read_numbers" bD ["text"] dg oJ) (G_read_numbers:FnOk P w K mg base (CXe P w) 4 dg oJ ["text"] (on T)) {eD:Addr} {se:FuncData} (fG:Df K mg "read_steps" bU ["text"] eD se) (G_read_steps:FnOk P w K mg base (CXe P w) 5 eD se ["text"] (sC T)) {dn:Addr} {jg:FuncData} (cL:Df K mg "read_web" a8 ["text"] dn jg) (G_read_web:FnOk P w K mg base (CXe P w) 6 dn jg ["text"] (pf T)):FnOk P w K mg base (CXe P w) 7 f fd ["pick","text"] (wg T):=by
 refine D.F.okC gh (fun vs H Q E h=>?_) (fun cdv A outer s H vs Q E hr h=>?_)
 . obtain ⟨z,Y,dv,rfl,_⟩:=h
   rfl
 . obtain ⟨z,Y,dv,rfl,zl,eY,hY,du,k⟩:=h;refine ⟨_,(ai (ap (i:=2) gh.nd rfl (Or.inl fB.l) wL) (ai (IU rfl rfl rfl (oj (Ed (ar cA (pvl 0 oy) af (ax _)) (oj (vy (jw G_read_numbers (hr.mono (by decide)) iX.g eg.m eg.F.kp eg.b .nil (ae (pvl 1 jX) ah) (hdb:=iX.d)))) (oj (Ed (ar cA (pvl 0 oy) af (ax _)) (oj (vy (jw G_read_steps (hr.mono (by decide)) jF.g fG.m fG.F.kp fG.b .nil (ae (pvl 1 jX) ah) (hdb:=jF.d)))) (oj (vy (jw G_read_web (hr.mono (by decide)) ku.g cL.m cL.F.kp cL.b .nil (ae (pvl 1 jX) ah) (hdb:=ku.d)))))))) (Kg (i:=3) T.BN.x j5.g T.uW gh.nd rfl dF.l (fun _=>(ai (ap (i:=2) gh.nd rfl (Or.inl fB.l) ao) (ai (ap (i:=4) gh.nd rfl (Or.inl mn.l) (ay (wc K rfl) aq.g T.isinstance cX (ae (pvl 3 dF) (ae (jm (ae (fL (v:=.ref T.BadWeb) mm.g T.ir rfl) (ae (fL (v:=.ref T.BadStep) lG.g T.yt rfl) (ae (fL (v:=.ref T.BadLaying) qG.g T.Bx rfl) (ae (fL (v:=.ref T.NoPlace) lC.g T.yz rfl) ah))))) ah)) (hn:=aq.n) (hdb:=aq.d))) (ai (aG (PW.pt (nX (gp (ay (oS K rfl) aq.g T.isinstance cX (ae (pvl 3 dF) (ae (fL (v:=.ref T.BadText) lK.g T.iL rfl) ah)) (hn:=aq.n) (hdb:=aq.d))) (nX (gp (ay (oS K rfl) aq.g T.isinstance cX (ae (pvl 3 dF) (ae (uI (v:=.ty "ValueError") b6.g T.ValueError sD rfl (hn:=b6.n) (hd:=b6.d)) ah)) (hn:=aq.n) (hdb:=aq.d))) (pH (ik (El K rfl (pvl 4 mn) (fun _=>rfl))))))) (aj (ap (i:=2) gh.nd rfl (Or.inl fB.l) (IJ K rfl (pvl 3 dF) rfl))) aw) (aj (aG (PW.pt (nX (gp (ay (oS K rfl) aq.g T.isinstance cX (ae (pvl 3 dF) (ae (fL (v:=.ref T.BadWeb) mm.g T.ir rfl) ah)) (hn:=aq.n) (hdb:=aq.d))) (nX (gp (ay (oS K rfl) aq.g T.isinstance cX (ae (pvl 3 dF) (ae (uI (v:=.ty "ValueError") b6.g T.ValueError sD rfl (hn:=b6.n) (hd:=b6.d)) ah)) (hn:=aq.n) (hdb:=aq.d))) (pH (ik (gp (ay (wc K rfl) aq.g T.isinstance cX (ae (pvl 3 dF) (ae (jm (ae (fL (v:=.ref T.BadText) lK.g T.iL rfl) (ae (fL (v:=.ref T.BadStep) lG.g T.yt rfl) (ae (fL (v:=.ref T.NoPlace) lC.g T.yz rfl) ah)))) ah)) (hn:=aq.n) (hdb:=aq.d)))))))) (aj (ap (i:=2) gh.nd rfl (Or.inl fB.l) ao)) aw)))))) Jb (hdb:=j5.d))) (aj (aR (pvl 2 fB))))),?_⟩;rw [show L2.start ["pick","text","row","e","others"] [V.int 2,V.str z]=[some (V.int 2),some (V.str z),none,none,none] from rfl];walk_at "rd";have qF:T.BadWeb≠T.TollError:=(fH T.ndx 1 0 rfl rfl (by decide));have tR:T.BadStep≠T.TollError:=(fH T.ndx 4 0 rfl rfl (by decide));have vg:T.BadLaying≠T.TollError:=(fH T.ndx 3 0 rfl rfl (by decide));have uk:T.NoPlace≠T.TollError:=(fH T.ndx 2 0 rfl rfl (by decide));have tP:T.BadText≠T.TollError:=(fH T.ndx 5 0 rfl rfl (by decide));have AB:T.BadWeb≠T.BadText:=(fH T.ndx 1 5 rfl rfl (by decide));have EJ:T.BadStep≠T.BadText:=(fH T.ndx 4 5 rfl rfl (by decide));have Bs:T.BadLaying≠T.BadText:=(fH T.ndx 3 5 rfl rfl (by decide));have EB:T.NoPlace≠T.BadText:=(fH T.ndx 2 5 rfl rfl (by decide));have xe:=T.uf;rw [if_neg (by decide),if_neg (by decide)];refine ⟨z,Y,dv,rfl,zl,eY,hY,du,?_⟩;cases dv with
   | ok m rs=>exact fun _ _ _ H' _ s' _=>k H' s'
   | bad n =>
     intro dx H' s' hd;refine ⟨T.BadText,rfl,true,by rw [xe.mr];simp,?_⟩;rw [if_pos rfl];intro ea nea;have s1:=Same.new (ExO ea (.ref T.BadText) (some dx)) nea;have he:upd H' ea (ExO ea (.ref T.BadText) (some dx)) ea=some (ExO ea (.ref T.BadText) (some dx)):=ag;have hd1:=s1 _ _ hd;have s01:=s'.trans s1;generalize upd H' ea (ExO ea (.ref T.BadText) (some dx))=H1 at he hd1 s01 ⊢;refine ⟨av (by simp),fun p2 n2=>?_⟩;have s2:=Same.new (.tup [V.ref T.BadWeb,V.ref T.BadStep,V.ref T.BadLaying,V.ref T.NoPlace]) n2;have e2:upd H1 p2 (.tup [V.ref T.BadWeb,V.ref T.BadStep,V.ref T.BadLaying,V.ref T.NoPlace]) p2=_:=ag;have s02:=s01.trans s2;have he2:=s2 _ _ he;have hd2:=s2 _ _ hd1;generalize upd H1 p2 (.tup [V.ref T.BadWeb,V.ref T.BadStep,V.ref T.BadLaying,V.ref T.NoPlace])=H2 at e2 s02 he2 hd2 ⊢;refine ⟨ea,_,some dx,p2,_,[false,false,false,false],rfl,he2,⟨_,hd2⟩,xe.x,e2,.cons (ft xe T.vw qF AB) (.cons (ft xe T.t8 tR EJ) (.cons (ft xe T.uX vg Bs) (.cons (ft xe T.tE uk EB) .nil))),?_⟩;refine uF he2 ⟨_,hd2⟩ xe xe tP ⟨_,rfl,?_⟩;rw [if_pos (decide_eq_true rfl)];refine CB he2 ⟨_,hd2⟩ xe ⟨_,rfl,?_⟩;rw [if_pos rfl];refine ⟨false,rfl,?_⟩;rw [if_pos rfl];refine ⟨ea,T.BadText,dx,_,_,rfl,he2,xe.x,T.Fl,hd2,rfl,uF he2 ⟨_,hd2⟩ xe T.vw qF ⟨_,rfl,?_⟩⟩;rw [if_neg (by rw [decide_eq_true_eq];exact AB)];exact k _ s02
   | web =>
     intro H' s';have xe:=T.vw;have yx:T.BadText≠T.BadWeb:=(fH T.ndx 5 1 rfl rfl (by decide));have yq:T.BadStep≠T.BadWeb:=(fH T.ndx 4 1 rfl rfl (by decide));have BT:T.BadLaying≠T.BadWeb:=(fH T.ndx 3 1 rfl rfl (by decide));have yT:T.NoPlace≠T.BadWeb:=(fH T.ndx 2 1 rfl rfl (by decide));refine ⟨T.BadWeb,rfl,true,by rw [xe.mr];simp,?_⟩;rw [if_pos rfl];intro ea nea;have s1:=Same.new (ExO ea (.ref T.BadWeb) none) nea;have he:upd H' ea (ExO ea (.ref T.BadWeb) none) ea=some (ExO ea (.ref T.BadWeb) none):=ag;have s01:=s'.trans s1;generalize upd H' ea (ExO ea (.ref T.BadWeb) none)=H1 at he s01 ⊢;refine ⟨av (by simp),fun p2 n2=>?_⟩;have s2:=Same.new (.tup [V.ref T.BadWeb,V.ref T.BadStep,V.ref T.BadLaying,V.ref T.NoPlace]) n2;have e2:upd H1 p2 (.tup [V.ref T.BadWeb,V.ref T.BadStep,V.ref T.BadLaying,V.ref T.NoPlace]) p2=_:=ag;have s02:=s01.trans s2;have he2:=s2 _ _ he;generalize upd H1 p2 (.tup [V.ref T.BadWeb,V.ref T.BadStep,V.ref T.BadLaying,V.ref T.NoPlace])=H2 at e2 s02 he2 ⊢;refine ⟨ea,_,none,p2,_,[true,false,false,false],rfl,he2,trivial,xe.x,e2,.cons (Hb xe qF) (.cons (ft xe T.t8 tR yq) (.cons (ft xe T.uX vg BT) (.cons (ft xe T.tE uk yT) .nil))),?_⟩;refine uF he2 trivial xe T.uf tP ⟨_,rfl,?_⟩;rw [if_neg (by rw [decide_eq_true_eq];exact yx)];refine uF he2 trivial xe xe qF ⟨_,rfl,?_⟩;rw [if_pos (decide_eq_true rfl)];refine CB he2 trivial xe ⟨_,rfl,?_⟩;rw [if_pos rfl];refine ⟨av (by simp),fun p3 n3=>?_⟩;have s3:=Same.new (.tup [V.ref T.BadText,V.ref T.BadStep,V.ref T.NoPlace]) n3;refine ⟨ea,_,none,p3,_,[false,false,false],rfl,s3 _ _ he2,trivial,xe.x,ag,.cons (ft xe T.uf tP yx) (.cons (ft xe T.t8 tR yq) (.cons (ft xe T.tE uk yT) .nil)),?_⟩;refine ⟨_,rfl,?_⟩;rw [if_pos (by decide)];exact k _ (s02.trans s3)
def OW (w w':Str):Prop:=Pl w'/\w'.length<=2*w.length+62
theorem ye {w w':Str} (h:Pl w') (l:w'.length<=62):OW w w':=⟨h,by omega⟩
def oM (T:Txt K mg):Sp:=fun vs H Q _=>∃ (c:Int) (w:Str),vs=[.int c,.str w]/\Pl w/\w.length<=10000/\∀ w' H',Same H H'->Pl w'->w'.length<=2*w.length+62->Q (.str w') H'
abbrev aY:Stmt:=top 37
theorem dH:FnScope ["cell","word","at","signs","sign","some"] ["cell","word"] (aa aY):=FnScope.of (by kernel_rfl)
theorem gg:NmL (aa aY) "cell":=.of (by kernel_rfl)
theorem a7:NmL (aa aY) "word":=.of (by kernel_rfl)
theorem hW:NmL (aa aY) "at":=.of (by kernel_rfl)
theorem fC:NmL (aa aY) "signs":=.of (by kernel_rfl)
theorem j4:NmL (aa aY) "sign":=.of (by kernel_rfl)
theorem cg:NmL (aa aY) "some":=.of (by kernel_rfl)
theorem bz:NmG (aa aY) "len":=.of (by kernel_rfl)
theorem wQ (T:Txt K mg) (hq:bH (CXe P w)) {f:Addr} {fd:FuncData} (D:Df K mg "_law_odd_word" aY ["cell","word"] f fd):FnOk P w K mg base (CXe P w) 1 f fd ["cell","word"] (oM T):=by
 refine D.F.okC dH (fun vs H Q E h=>?_) (fun cdv A outer s H vs Q E hr h=>?_)
 . obtain ⟨c,w,rfl,_⟩:=h
   rfl
 . obtain ⟨c,w,rfl,pw,lw,k⟩:=h;refine ⟨_,(ai (ap (i:=2) dH.nd rfl (Or.inl hW.l) (ak aL (ak bL (pvl 0 gg) af) (ak bP (ay gZ bz.g T.len bQ (ae (pvl 1 a7) ah) (hn:=bz.n) (hdb:=bz.d)) af))) (ai (ap (i:=3) dH.nd rfl (Or.inl fC.l) ao) (ai (ap (i:=4) dH.nd rfl (Or.inl j4.l) (aF AN (pvl 3 fC) (ak aL (ak bL (pvl 0 gg) af) (ay gZ bz.g T.len bQ (ae (pvl 3 fC) ah) (hn:=bz.n) (hdb:=bz.d))) (fun _ _=>rfl))) (ai (ap (i:=5) dH.nd rfl (Or.inl cg.l) (cj (ae ao (ae ao (ae ao (ae ao (ae ao (ae ao (ae ao (ae (ak cC ao (pvl 1 a7)) (ae (ak cC ao (pvl 1 a7)) (ae (ak cC (pvl 1 a7) (ak xB ao af)) (ae (ak xB ao af) ah))))))))))))) (ai (ap (i:=5) dH.nd rfl (Or.inl cg.l) (ak vR (pvl 5 cg) (cj (ae ao (ae (ak cC (ak cC (iK E2 (pvl 1 a7) mF (gB (pvl 2 hW))) (pvl 4 j4)) (iK E2 (pvl 1 a7) (gB (pvl 2 hW)) mF)) (ae (ak cC (pvl 1 a7) ao) (ae (ak cC ao (pvl 1 a7)) (ae (ak xB ao af) (ae ao (ae ao ah)))))))))) (ai (bG (bN PySem.F.plainAttrs_list PySem.F.slot_list_append PySem.F.type_list_append cG (pvl 5 cg) (ae (ak cC (ak cC (pvl 1 a7) ao) (pvl 1 a7)) ah))) (aj (aR (aF aQ (pvl 5 cg) (ak aL (pvl 0 gg) (ay aN bz.g T.len bQ (ae (pvl 5 cg) ah) (hn:=bz.n) (hdb:=bz.d))) (fun _ _=>rfl)))))))))),?_⟩;rw [show L2.start ["cell","word","at","signs","sign","some"] [V.int c,V.str w]=[some (V.int c),some (V.str w),none,none,none,none] from rfl];unfold tSl uC tNoPart;walk_at "rd";have e37:(Str.ofString " !\"#$&'()*+,-./:;<=>?@AZ[\\]^_`az{|}~").length=36:=by decide +kernel
   have pS:Pl (Str.ofString " !\"#$&'()*+,-./:;<=>?@AZ[\\]^_`az{|}~"):=by unfold Pl;decide +kernel
   generalize Str.ofString " !\"#$&'()*+,-./:;<=>?@AZ[\\]^_`az{|}~"=S0 at e37 pS ⊢;have p0:Pl (Str.ofString "0"):=by unfold Pl;decide +kernel
   have pm:Pl (Str.ofString "-"):=by unfold Pl;decide +kernel
   have ps:Pl (Str.ofString " "):=by unfold Pl;decide +kernel
   have l0:(Str.ofString "0").length=1:=by decide +kernel
   have lm:(Str.ofString "-").length=1:=by decide +kernel
   have ls:(Str.ofString " ").length=1:=by decide +kernel
   have p060:Pl (Txt.mul (Str.ofString "0") 60):=by unfold Pl;decide +kernel
   have l060:(Txt.mul (Str.ofString "0") 60).length=60:=by decide +kernel
   have m060:MulOk (Str.ofString "0") 60:=⟨by decide,fun _ _=>by decide +kernel,fun _ _=>by decide +kernel⟩;have p961:Pl (Txt.mul (Str.ofString "9") 61):=by unfold Pl;decide +kernel
   have l961:(Txt.mul (Str.ofString "9") 61).length=61:=by decide +kernel
   have m961:MulOk (Str.ofString "9") 61:=⟨by decide,fun _ _=>by decide +kernel,fun _ _=>by decide +kernel⟩;have p960:Pl (Txt.mul (Str.ofString "9") 60):=by unfold Pl;decide +kernel
   have l960:(Txt.mul (Str.ofString "9") 60).length=60:=by decide +kernel
   have m960:MulOk (Str.ofString "9") 60:=⟨by decide,fun _ _=>by decide +kernel,fun _ _=>by decide +kernel⟩;refine ⟨⟨by decide,by decide⟩,w,rfl,av (by omega),by omega,⟨by decide,by decide⟩,S0,rfl,av (by omega),by omega,?_⟩;have q0:=Int.emod_nonneg (c / 1300) (show (S0.length:Int)≠0 by omega);have q1:=Int.emod_lt_of_pos (c / 1300) (show 0<(S0.length:Int) by omega);obtain ⟨sg,hs⟩:∃ sg,S0.cps.toList[(c / 1300 % (S0.length:Int)).toNat]?=some sg:=⟨_,List.getElem?_eq_getElem (by rw [<- bi];omega)⟩;have pg:Pl ⟨#[sg]⟩:=fun x hx=>by
     have:x=sg:=(by simpa using hx);rw [this];exact pS sg (List.mem_of_getElem? hs)
   have lg:(⟨#[sg]⟩:Str).length=1:=rfl;refine ⟨S0,_,sg,rfl,rfl,av (by omega),cV q0 hs,?_⟩;generalize (⟨#[sg]⟩:Str)=sg at pg lg ⊢;refine ⟨_,rfl,w,rfl,av (by omega),_,rfl,w,rfl,av (by omega),_,rfl,m060,w,rfl,_,rfl,av (by omega),_,rfl,m961,av (by simp),fun p np=>?_⟩;generalize Txt.mul (Str.ofString "0") 60=z60 at p060 l060 np ⊢;generalize Txt.mul (Str.ofString "9") 61=n61 at p961 l961 np ⊢;have h1:upd H p (HO.lst ([Str.ofString "",Str.ofString "00",Str.ofString "-1",Str.ofString "+1",Str.ofString "1_0",Str.ofString "1.0",Str.ofString "x",Str.ofString "0" ++ w,Str.ofString "-" ++ w,w++z60,n61].map V.str)) p=_:=ag;have s1:=Same.new (HO.lst ([Str.ofString "",Str.ofString "00",Str.ofString "-1",Str.ofString "+1",Str.ofString "1_0",Str.ofString "1.0",Str.ofString "x",Str.ofString "0" ++ w,Str.ofString "-" ++ w,w++z60,n61].map V.str)) np;change rSlS (V.str w) none _ (upd H p (HO.lst ([Str.ofString "",Str.ofString "00",Str.ofString "-1",Str.ofString "+1",Str.ofString "1_0",Str.ofString "1.0",Str.ofString "x",Str.ofString "0" ++ w,Str.ofString "-" ++ w,w++z60,n61].map V.str))) _;generalize upd H p (HO.lst ([Str.ofString "",Str.ofString "00",Str.ofString "-1",Str.ofString "+1",Str.ofString "1_0",Str.ofString "1.0",Str.ofString "x",Str.ofString "0" ++ w,Str.ofString "-" ++ w,w++z60,n61].map V.str))=H1 at h1 s1 ⊢;have o1:∀ x∈[Str.ofString "",Str.ofString "00",Str.ofString "-1",Str.ofString "+1",Str.ofString "1_0",Str.ofString "1.0",Str.ofString "x",Str.ofString "0" ++ w,Str.ofString "-" ++ w,w++z60,n61],OW w x:=by
     have c1:∀ x∈[Str.ofString "",Str.ofString "00",Str.ofString "-1",Str.ofString "+1",Str.ofString "1_0",Str.ofString "1.0",Str.ofString "x"],Pl x/\x.length<=62:=(by unfold Pl;decide +kernel);intro x hx;rcases List.mem_append.mp (show x∈[Str.ofString "",Str.ofString "00",Str.ofString "-1",Str.ofString "+1",Str.ofString "1_0",Str.ofString "1.0",Str.ofString "x"]++[Str.ofString "0" ++ w,Str.ofString "-" ++ w,w++z60,n61] from hx) with hx|hx
     . exact ye (c1 x hx).1 (c1 x hx).2
     . simp only [List.mem_cons,List.not_mem_nil,or_false] at hx;rcases hx with e|e|e|e <;> rw [e]
       . exact ⟨p0.app pw,by rw [eR];omega⟩
       . exact ⟨pm.app pw,by rw [eR];omega⟩
       . exact ⟨pw.app p060,by rw [eR];omega⟩
       . exact ye p961 (by omega)
   generalize e11:[Str.ofString "",Str.ofString "00",Str.ofString "-1",Str.ofString "+1",Str.ofString "1_0",Str.ofString "1.0",Str.ofString "x",Str.ofString "0" ++ w,Str.ofString "-" ++ w,w++z60,n61]=L1 at h1 s1 o1;have l11:L1.length=11:=by rw [<- e11];rfl
   clear e11;have a1:=Txt.slice_le w none (some (c / 20 % ((w.length:Int)+1)));have a2:=pw.sub (yB (l:=none) (u:=some (c / 20 % ((w.length:Int)+1))));have b1:=Txt.slice_le w (some (c / 20 % ((w.length:Int)+1))) none;have b2:=pw.sub (yB (l:=some (c / 20 % ((w.length:Int)+1))) (u:=none));refine ⟨w,rfl,av (by omega),_,rfl,_,rfl,av (by omega),w,rfl,av (by omega),_,rfl,_,rfl,av (by rw [eR];omega),w,rfl,_,rfl,av (by omega),_,rfl,w,rfl,av (by omega),_,rfl,m960,av (by simp),fun p2 np2=>?_⟩;generalize Txt.mul (Str.ofString "9") 60=n60 at p960 l960 np2 ⊢;generalize eq1:Txt.slice w none (some (c / 20 % ((w.length:Int)+1)))=y1 at a1 a2 np2 ⊢;generalize eq2:Txt.slice w (some (c / 20 % ((w.length:Int)+1))) none=y2 at b1 b2 np2 ⊢;have s2:=Same.new (HO.lst ([Str.ofString "1e3",y1++sg++y2,w++Str.ofString " ",Str.ofString " " ++ w,n60,Str.ofString ".",Str.ofString "/"].map V.str)) np2;have o2:∀ x∈[Str.ofString "1e3",y1++sg++y2,w++Str.ofString " ",Str.ofString " " ++ w,n60,Str.ofString ".",Str.ofString "/"],OW w x:=by
     have c1:∀ x∈[Str.ofString "1e3",Str.ofString ".",Str.ofString "/"],Pl x/\x.length<=62:=(by unfold Pl;decide +kernel);intro x hx;simp only [List.mem_cons,List.not_mem_nil,or_false] at hx;rcases hx with e|e|e|e|e|e|e <;> rw [e]
     . exact ye (c1 _ (by simp)).1 (c1 _ (by simp)).2
     . exact ⟨(a2.app pg).app b2,by rw [eR,eR];omega⟩
     . exact ⟨pw.app ps,by rw [eR];omega⟩
     . exact ⟨ps.app pw,by rw [eR];omega⟩
     . exact ye p960 (by omega)
     . exact ye (c1 _ (by simp)).1 (c1 _ (by simp)).2
     . exact ye (c1 _ (by simp)).1 (c1 _ (by simp)).2
   refine CU (s2 _ _ h1) ag (av (by simp [l11])) fun p3 np3=>?_;have s3:=s2.trans (Same.new (HO.lst (L1.map V.str++[Str.ofString "1e3",y1++sg++y2,w++Str.ofString " ",Str.ofString " " ++ w,n60,Str.ofString ".",Str.ofString "/"].map V.str)) np3);have o3:∀ x∈L1++[Str.ofString "1e3",y1++sg++y2,w++Str.ofString " ",Str.ofString " " ++ w,n60,Str.ofString ".",Str.ofString "/"],OW w x:=fun x hx=>(List.mem_append.mp hx).elim (o1 x) (o2 x);have l18:(L1++[Str.ofString "1e3",y1++sg++y2,w++Str.ofString " ",Str.ofString " " ++ w,n60,Str.ofString ".",Str.ofString "/"]).length=18:=by rw [List.length_append,l11];rfl
   generalize eL:L1++[Str.ofString "1e3",y1++sg++y2,w++Str.ofString " ",Str.ofString " " ++ w,n60,Str.ofString ".",Str.ofString "/"]=L18 at o3 l18;refine ⟨tyL ag,w,rfl,_,rfl,av (by omega),_,rfl,w,rfl,av (by rw [eR];omega),pz (xs:=L18.map V.str) (by rw [ag,<- eL,List.map_append];rfl) (cz (by rw [List.length_map];omega)) ⟨p3,rfl,_,.inl (SqL.of ag),?_,?_⟩⟩
   . rw [List.length_append];simp
   . have np0:H p3=none:=s1.free (s2.free np3);have lall:(L18++[w++Str.ofString " " ++ w]).length=19:=(by rw [List.length_append,l18];rfl);have em:L18.map V.str++[V.str (w++Str.ofString " " ++ w)]=(L18++[w++Str.ofString " " ++ w]).map V.str:=(by rw [List.map_append];rfl);have oall:∀ x∈L18++[w++Str.ofString " " ++ w],OW w x:=fun x hx=>by
       rcases List.mem_append.mp hx with hx|hx
       . exact o3 x hx
       . rw [List.mem_singleton.mp hx];exact ⟨(pw.app ps).app pw,by rw [eR,eR];omega⟩
     rw [em];generalize L18++[w++Str.ofString " " ++ w]=LA at lall oall;rw [List.length_map,lall];obtain ⟨w',hw⟩:∃ w',LA[(c % ((19:Nat):Int)).toNat]?=some w':=⟨_,List.getElem?_eq_getElem (by omega)⟩;obtain ⟨g1,g2⟩:=oall w' (List.mem_of_getElem? hw);refine ixL ag (v:=V.str w') (cV (by omega) (by rw [List.getElem?_map,hw];rfl)) (k w' _ ?_ g1 g2);exact fun b o e=>by rw [am (az e np0)];exact s3 _ _ (s1 _ _ e)
def kh (T:Txt K mg):Sp:=fun vs H Q _=>∃ (r0:Str) (c:Int),vs=[.str r0,.int c]/\Pl r0/\r0.length<=900/\∀ r' H',Same H H'->Pl r'->r'.length<=2*r0.length+63->Q (.str r') H'
abbrev aD:Stmt:=top 41
theorem gO:FnScope ["row","cell","words","at"] ["row","cell"] (aa aD):=FnScope.of (by kernel_rfl)
theorem om:NmL (aa aD) "row":=.of (by kernel_rfl)
theorem br:NmL (aa aD) "cell":=.of (by kernel_rfl)
theorem aO:NmL (aa aD) "words":=.of (by kernel_rfl)
theorem bj:NmL (aa aD) "at":=.of (by kernel_rfl)
theorem eP:NmG (aa aD) "len":=.of (by kernel_rfl)
theorem eG:NmG (aa aD) "_law_odd_word":=.of (by kernel_rfl)
theorem sS (T:Txt K mg) (hq:bH (CXe P w)) {f:Addr} {fd:FuncData} (D:Df K mg "_law_word_changed" aD ["row","cell"] f fd) {dk:Addr} {oC:FuncData} (eh:Df K mg "_law_odd_word" aY ["cell","word"] dk oC) (G_law_odd_word:FnOk P w K mg base (CXe P w) 1 dk oC ["cell","word"] (oM T)):FnOk P w K mg base (CXe P w) 2 f fd ["row","cell"] (kh T):=by
 refine D.F.okC gO (fun vs H Q E h=>?_) (fun cdv A outer s H vs Q E hr h=>?_)
 . obtain ⟨r0,c,rfl,_⟩:=h
   rfl
 . obtain ⟨r0,c,rfl,p0,l0,k⟩:=h;refine ⟨_,(ai (ap (i:=2) gO.nd rfl (Or.inl aO.l) (bN PySem.F.plainAttrs_str PySem.F.slot_str_split PySem.F.type_str_split fo (pvl 0 om) (ae ao ah))) (ai (ap (i:=3) gO.nd rfl (Or.inl bj.l) (ak aL (ak bL (pvl 1 br) af) (ay aN eP.g T.len bQ (ae (pvl 2 aO) ah) (hn:=eP.n) (hdb:=eP.d)))) (ai (aG (ar cA (ak aL (pvl 1 br) af) af (ax _)) (aj (tz (aJ G_law_odd_word (hr.mono (by decide)) eG.g eh.m eh.F.kp eh.b .nil (db hq) (ae (ak bL (pvl 1 br) af) (ae (aF aQ (pvl 2 aO) (pvl 3 bj) (fun _ _=>rfl)) ah)) (hdb:=eG.d)) (xg (pvl 2 aO) (pvl 3 bj) qC))) aw) (ai (aG (ar cA (ak aL (pvl 1 br) af) af (ax _)) (aj (bG (bN PySem.F.plainAttrs_list PySem.F.slot_list_pop PySem.F.type_list_pop AG (pvl 2 aO) (ae (pvl 3 bj) ah)))) aw) (ai (aG (ar cA (ak aL (pvl 1 br) af) af (ax _)) (aj (bG (bN PySem.F.plainAttrs_list PySem.F.slot_list_insert PySem.F.type_list_insert lv (pvl 2 aO) (ae (pvl 3 bj) (ae (aF aQ (pvl 2 aO) (pvl 3 bj) (fun _ _=>rfl)) ah))))) aw) (ai (aG (PW.pt (nX (ar cA (ak aL (pvl 1 br) af) af (ax _)) (pH (ar uL (pvl 3 bj) af (ax _))))) (aj (tz (aF aQ (cj (ae ao (ae ao (ae ao (ae ao (ae ao (ae ao (ae ao (ae ao ah))))))))) (ak aL (ak bL (pvl 1 br) af) af) (fun _ _=>rfl)) (xg (pvl 2 aO) (pvl 3 bj) qC))) aw) (aj (aR (bN PySem.F.plainAttrs_str PySem.F.slot_str_join PySem.F.type_str_join qe ao (ae (pvl 2 aO) ah)))))))))),?_⟩;rw [show L2.start ["row","cell","words","at"] [V.str r0,V.int c]=[some (V.str r0),some (V.int c),none,none] from rfl];refine bW fun N0 h0=>?_;walk_at "rd";refine ⟨by simp [tyV],_,rfl,_,rfl,rfl,by omega,fun l nl=>h0 _ _ (bW fun N1 h1=>?_)⟩;have s1:=Same.new (HO.lst ((Txt.split r0 (Str.ofString " ")).map V.str)) nl;have e1:upd H l (HO.lst ((Txt.split r0 (Str.ofString " ")).map V.str)) l=some (.lst ((wsp r0).map V.str)):=ag;generalize upd H l (HO.lst ((Txt.split r0 (Str.ofString " ")).map V.str))=H1 at s1 e1 ⊢;have pw:∀ w∈wsp r0,Pl w:=fun w hw=>p0.sub (yK hw).1;have wl:(wsp r0).length<=r0.length+1:=yC (y:=Str.ofString " ") (by decide);have sw:=IT r0;have wn:wsp r0≠[]:=qO _ _;generalize wsp r0=ws at e1 pw wl sw wn;have w0:=List.length_pos_iff.mpr wn;walk_at "rd";refine ⟨⟨by decide,by decide⟩,_,.inl (SqL.of e1),by rw [List.length_map];omega,h1 _ _ ?_⟩;rw [List.length_map];have q0:=Int.emod_nonneg (c / 4) (show (ws.length:Int)≠0 by omega);have q1:=Int.emod_lt_of_pos (c / 4) (show 0<(ws.length:Int) by omega);obtain ⟨at',hat⟩:∃ at':Nat,c / 4 % (ws.length:Int)=at':=⟨_,(Int.toNat_of_nonneg q0).symm⟩;rw [hat] at q0 q1 ⊢;obtain ⟨w,hw⟩:∃ w,ws[at']?=some w:=⟨_,List.getElem?_eq_getElem (by omega)⟩;have ww:=List.mem_of_getElem? hw;have swp:=Kf hw;have ixw:atI (ws.map V.str) (at':Int)=some (V.str w):=pM (by rw [List.getElem?_map,hw];rfl);have sp:Pl (Str.ofString " "):=by unfold Pl;decide +kernel
   have fin:∀ (ws':List Str) (H2:Hp),Same H H2->H2 l=some (.lst (ws'.map V.str))->(∀ x∈ws',Pl x)->SW ws'<=2*r0.length+63->tyV K "str" (V.str (Str.ofString " ")) H2/\HF K (V.str (Str.ofString " ")) [V.ref l] H2 Q:=fun ws' H2 s2 e2 p2 sw2=>by
     have jl:=IG ws';refine ⟨by simp [tyV],_,l,ws',rfl,rfl,SqL.of e2,?_,k _ H2 s2 (sp.join p2) (by omega)⟩;have:(ws'.map (·.length)).sum+ws'.length*(Str.ofString " ").length=SW ws':=by
       rw [show (Str.ofString " ").length=1 from rfl,Nat.mul_one];clear jl sw2 p2 e2;unfold SW
       induction ws' with
       | nil=>rfl
       | cons x xs ih=>simp only [List.map_cons,List.sum_cons,List.length_cons];omega
     omega
   walk_at "rd";refine ⟨by decide,?_⟩;have sl:∀ {H2:Hp} (o:HO),Same H H2->Same H (upd H2 l o):=fun o s b ob e=>by rw [am (az e nl)];exact s _ _ e
   by_cases c0:c % 4=0
   . rw [if_pos c0];refine ⟨⟨by decide,by decide⟩,ixL e1 ixw ⟨c / 60,w,rfl,pw w ww,by omega,fun w' H2 s2 pw' lw'=>Eb (s2 _ _ e1) (by omega) (by rw [List.length_map];exact q1) ⟨by decide,?_⟩⟩⟩;rw [if_neg (by omega)];refine ⟨by decide,?_⟩;rw [if_neg (by omega)];refine ⟨by decide,?_⟩;rw [if_neg (by omega),<- List.map_set];refine fin _ _ (sl _ (s1.trans s2)) ag (fun x hx=>?_) ?_
     . rcases List.mem_or_eq_of_mem_set hx with hx|rfl
       . exact pw x hx
       . exact pw'
     . have:=Fa (w':=w') hw;rw [Int.toNat_natCast];omega
   rw [if_neg c0];refine ⟨by decide,?_⟩;by_cases c1:c % 4=1
   . rw [if_pos c1];refine ⟨tyL e1,l,_,_,at',V.str w,rfl,rfl,e1,by omega,by omega,by rw [List.length_map];exact Ck (by omega),by rw [List.getElem?_map,hw];rfl,by decide,?_⟩;rw [if_neg (by omega)];refine ⟨by decide,?_⟩;rw [if_neg (by omega),Bm];refine fin _ _ (sl _ s1) ag (fun x hx=>pw x (List.mem_of_mem_eraseIdx hx)) ?_;have:=G0 hw;omega
   rw [if_neg c1];refine ⟨by decide,?_⟩;by_cases c2:c % 4=2
   . rw [if_pos c2];refine ⟨tyL e1,ixL e1 ixw (Au e1 (by omega) (by rw [List.length_map];omega) (cz (by rw [List.length_map];omega)) ⟨by decide,?_⟩)⟩;rw [if_neg (by omega),<- List.map_take,<- List.map_drop,<- List.map_cons,<- List.map_append];refine fin _ _ (sl _ s1) ag (fun x hx=>?_) ?_
     . rcases List.mem_append.mp hx with hx|hx
       . exact pw x (List.mem_of_mem_take hx)
       . rcases List.mem_cons.mp hx with rfl|hx
         . exact pw _ ww
         . exact pw x (List.mem_of_mem_drop hx)
     . rw [Jf];omega
   rw [if_neg c2];refine ⟨by decide,?_⟩;rw [if_pos (by omega)];by_cases ca:0<(at':Int)
   . rw [if_pos ca];refine ⟨av (by simp),fun p np=>⟨⟨by decide,by decide⟩,by decide,?_⟩⟩;obtain ⟨w',hw'⟩:∃ w',[Str.ofString "0",Str.ofString "1",Str.ofString "2",Str.ofString "23",Str.ofString "24",Str.ofString "1000000",Str.ofString "1000001",Str.ofString "5"][(c / 60 % 8).toNat]?=some w':=⟨_,List.getElem?_eq_getElem (by simp;omega)⟩;have hp:∀ w∈[Str.ofString "0",Str.ofString "1",Str.ofString "2",Str.ofString "23",Str.ofString "24",Str.ofString "1000000",Str.ofString "1000001",Str.ofString "5"],Pl w/\w.length<=7:=(by unfold Pl;decide +kernel);obtain ⟨pw',lw'⟩:=hp w' (List.mem_of_getElem? hw');have s2:=Same.new (HO.lst [V.str (Str.ofString "0"),V.str (Str.ofString "1"),V.str (Str.ofString "2"),V.str (Str.ofString "23"),V.str (Str.ofString "24"),V.str (Str.ofString "1000000"),V.str (Str.ofString "1000001"),V.str (Str.ofString "5")]) np;refine ixL ag (v:=V.str w') (cV (by omega) (by rw [show [V.str (Str.ofString "0"),V.str (Str.ofString "1"),V.str (Str.ofString "2"),V.str (Str.ofString "23"),V.str (Str.ofString "24"),V.str (Str.ofString "1000000"),V.str (Str.ofString "1000001"),V.str (Str.ofString "5")]=[Str.ofString "0",Str.ofString "1",Str.ofString "2",Str.ofString "23",Str.ofString "24",Str.ofString "1000000",Str.ofString "1000001",Str.ofString "5"].map V.str from rfl,List.getElem?_map,hw'];rfl)) (Eb (s2 _ _ e1) (by omega) (by rw [List.length_map];exact q1) ?_);rw [<- List.map_set];refine fin _ _ (sl _ (s1.trans s2)) ag (fun x hx=>?_) ?_
     . rcases List.mem_or_eq_of_mem_set hx with hx|rfl
       . exact pw x hx
       . exact pw'
     . have:=Fa (w':=w') hw;rw [Int.toNat_natCast];omega
   . rw [if_neg ca];exact fin ws H1 s1 e1 pw (by omega)
def pQ (T:Txt K mg):Sp:=fun vs H Q _=>∃ (l0:Addr) (c:Int) (ws:List Str) (m n:Nat),vs=[.ref l0,.int c]/\H l0=some (.lst (ws.map V.str))/\WsO m n ws/\ws≠[]/\m<=800/\n<=40/\∀ l ws' H',Same H H'->H' l=some (.lst (ws'.map V.str))->ws'≠[]->WsO (2*m+63) (n+1) ws'->Q (.ref l) H'
abbrev aP:Stmt:=top 42
theorem eu:FnScope ["rows","cell","told","at","rest","more"] ["rows","cell"] (aa aP):=FnScope.of (by kernel_rfl)
theorem eM:NmL (aa aP) "rows":=.of (by kernel_rfl)
theorem bI:NmL (aa aP) "cell":=.of (by kernel_rfl)
theorem aA:NmL (aa aP) "told":=.of (by kernel_rfl)
theorem be:NmL (aa aP) "at":=.of (by kernel_rfl)
theorem cm:NmL (aa aP) "rest":=.of (by kernel_rfl)
theorem kt:NmL (aa aP) "more":=.of (by kernel_rfl)
theorem gM:NmG (aa aP) "list":=.of (by kernel_rfl)
theorem aU:NmG (aa aP) "len":=.of (by kernel_rfl)
theorem eN:NmG (aa aP) "_law_word_changed":=.of (by kernel_rfl)
theorem iI:NmG (aa aP) "str":=.of (by kernel_rfl)
theorem xT (T:Txt K mg) (hq:bH (CXe P w)) {f:Addr} {fd:FuncData} (D:Df K mg "_law_changed" aP ["rows","cell"] f fd) {b8:Addr} {ko:FuncData} (cF:Df K mg "_law_word_changed" aD ["row","cell"] b8 ko) (G_law_word_changed:FnOk P w K mg base (CXe P w) 2 b8 ko ["row","cell"] (kh T)):FnOk P w K mg base (CXe P w) 3 f fd ["rows","cell"] (pQ T):=by
 refine D.F.okC eu (fun vs H Q E h=>?_) (fun cdv A outer s H vs Q E hr h=>?_)
 . obtain ⟨l0,c,ws,m,n,rfl,_⟩:=h
   rfl
 . obtain ⟨l0,c,ws,m,n,rfl,e0,wo',wn,m5,n4,k⟩:=h;have hv:=hr.units;refine ⟨_,(ai (ap (i:=2) eu.nd rfl (Or.inl aA.l) (dE Ax gM.g T.list Ip (ae (pvl 0 eM) ah) (hn:=gM.n) (hdb:=gM.d))) (ai (ap (i:=3) eu.nd rfl (Or.inl be.l) (ak aL (ak bL (pvl 1 bI) af) (ay aN aU.g T.len bQ (ae (pvl 0 eM) ah) (hn:=aU.n) (hdb:=aU.d)))) (ai (ap (i:=4) eu.nd rfl (Or.inl cm.l) (ak bL (pvl 1 bI) af)) (ai (aG (ar uM (ak aL (pvl 1 bI) af) af (ax _)) (aj (tz (aJ G_law_word_changed (hr.mono (by decide)) eN.g cF.m cF.F.kp cF.b .nil (db hq) (ae (aF aQ (pvl 2 aA) (pvl 3 be) (fun _ _=>rfl)) (ae (pvl 4 cm) ah)) (hdb:=eN.d)) (xg (pvl 2 aA) (pvl 3 be) qC))) aw) (ai (aG (ar cA (ak aL (pvl 1 bI) af) af (ax _)) (aj (bG (bN PySem.F.plainAttrs_list PySem.F.slot_list_pop PySem.F.type_list_pop AG (pvl 2 aA) (ae (pvl 3 be) ah)))) aw) (ai (aG (ar cA (ak aL (pvl 1 bI) af) af (ax _)) (aj (bG (bN PySem.F.plainAttrs_list PySem.F.slot_list_insert PySem.F.type_list_insert lv (pvl 2 aA) (ae (pvl 3 be) (ae (aF aQ (pvl 2 aA) (pvl 3 be) (fun _ _=>rfl)) ah))))) aw) (ai (aG (ar cA (ak aL (pvl 1 bI) af) af (ax _)) (aj (ap (i:=2) eu.nd rfl (Or.inl aA.l) (ak vR (ak vR (iK mG (pvl 2 aA) mF (gB (pvl 3 be))) (Fh (iK mG (pvl 2 aA) (gB (pvl 3 be)) (gB (ak bP (pvl 3 be) af))) (Km JV af))) (iK mG (pvl 2 aA) (gB (ak bP (pvl 3 be) af)) mF)))) aw) (ai (aG (ar cA (ak aL (pvl 1 bI) af) af (ax _)) (aj (bG (bN PySem.F.plainAttrs_list PySem.F.slot_list_insert PySem.F.type_list_insert lv (pvl 2 aA) (ae (aF aQ (cj (ae (pvl 3 be) (ae (ay aN aU.g T.len bQ (ae (pvl 2 aA) ah) (hn:=aU.n) (hdb:=aU.d)) ah))) (ak aL (pvl 4 cm) af) (fun _ _=>rfl)) (ae (aF aQ (cj (ae ao (ae ao (ae ao (ae ao (ae ao ah)))))) (ak aL (ak bL (pvl 4 cm) af) af) (fun _ _=>rfl)) ah))))) aw) (ai (aG (ar cA (ak aL (pvl 1 bI) af) af (ax _)) (ai (ap (i:=5) eu.nd rfl (Or.inl kt.l) (aF aQ (cj (ae (ak bP (ay aN aU.g T.len bQ (ae (pvl 0 eM) ah) (hn:=aU.n) (hdb:=aU.d)) af) (ae (ak uy (ay aN aU.g T.len bQ (ae (pvl 0 eM) ah) (hn:=aU.n) (hdb:=aU.d)) af) (ae af (ae af (ae af (ae (ak bP (ak HZ af af) (ak aL (pvl 4 cm) (ak vS af af))) ah))))))) (ak aL (pvl 4 cm) af) (fun _ _=>rfl))) (aj (tz (ak cC ao (dE nM iI.g T.str Bc (ae (pvl 5 kt) ah) (hn:=iI.n) (hdb:=iI.d))) (xg (pvl 2 aA) af qC)))) aw) (ai (aG (ar (EU hv) (pvl 2 aA) (cj ah) (ax _)) (aj (aR (cj (ae ao ah)))) aw) (aj (aR (pvl 2 aA))))))))))))),?_⟩;rw [show L2.start ["rows","cell","told","at","rest","more"] [V.ref l0,V.int c]=[some (V.ref l0),some (V.int c),none,none,none,none] from rfl];unfold tSl uC tNoPart IQ;refine bW fun N1 h1=>?_;walk_at "rd";refine ⟨_,.inl (SqL.of e0),fun l nl=>h1 _ _ (bW fun N2 h2=>?_)⟩;have s1:=Same.new (HO.lst (ws.map V.str)) nl;have e1:upd H l (.lst (ws.map V.str)) l=some (.lst (ws.map V.str)):=ag;generalize upd H l (.lst (ws.map V.str))=H1 at s1 e1 ⊢;have w0:=List.length_pos_iff.mpr wn;have wl:=wo'.1;have sl:∀ {H2:Hp} (o:HO),Same H H2->Same H (upd H2 l o):=fun o s b ob e=>by rw [am (az e nl)];exact s _ _ e
   walk_at "rd";refine ⟨⟨by decide,by decide⟩,_,.inl (SqL.of (s1 _ _ e0)),by rw [List.length_map];omega,h2 _ _ (bW fun N3 h3=>?_)⟩;rw [List.length_map];have q0:=Int.emod_nonneg (c / 8) (show (ws.length:Int)≠0 by omega);have q1:=Int.emod_lt_of_pos (c / 8) (show 0<(ws.length:Int) by omega);obtain ⟨at',hat⟩:∃ at':Nat,c / 8 % (ws.length:Int)=at':=⟨_,(Int.toNat_of_nonneg q0).symm⟩;rw [hat] at q0 q1 ⊢;obtain ⟨w,hw⟩:∃ w,ws[at']?=some w:=⟨_,List.getElem?_eq_getElem (by omega)⟩;have ww:=List.mem_of_getElem? hw;have ixw:atI (ws.map V.str) (at':Int)=some (V.str w):=pM (by rw [List.getElem?_map,hw];rfl);have up:∀ w∈ws,Pl w/\w.length<=2*m+63:=fun w hw=>⟨(wo'.2 w hw).1,Nat.le_trans (wo'.2 w hw).2 (by omega)⟩;have wo2:WsO (2*m+63) (n+1) ws:=⟨by omega,up⟩;walk_at "rd";refine ⟨⟨by decide,by decide⟩,h3 _ _ (bW fun N4 h4=>?_)⟩;clear h1 h2 h3;have g4:∀ (ws':List Str) (H2:Hp),Same H H2->H2 l=some (.lst (ws'.map V.str))->WsO (2*m+63) (n+1) ws'->(3<=c % 8->ws'=ws)->N4 [some (V.ref l0),some (V.int c),some (V.ref l),some (V.int (at':Int)),some (V.int (c / 200)),none] H2:=by
     intro ws' H2 s2 e2 o2 q2;refine h4 _ _ (bW fun N5 h5=>?_);clear h4;have g5:∀ (ws':List Str) (H2:Hp),Same H H2->H2 l=some (.lst (ws'.map V.str))->WsO (2*m+63) (n+1) ws'->(4<=c % 8->ws'=ws)->N5 [some (V.ref l0),some (V.int c),some (V.ref l),some (V.int (at':Int)),some (V.int (c / 200)),none] H2:=by
       intro ws' H2 s2 e2 o2 q2;refine h5 _ _ (bW fun N6 h6=>?_);clear h5;have g6:∀ (ws':List Str) (H2:Hp),Same H H2->H2 l=some (.lst (ws'.map V.str))->WsO (2*m+63) (n+1) ws'->(5<=c % 8->ws'=ws)->N6 [some (V.ref l0),some (V.int c),some (V.ref l),some (V.int (at':Int)),some (V.int (c / 200)),none] H2:=by
         intro ws' H2 s2 e2 o2 q2;refine h6 _ _ (bW fun N7 h7=>?_);clear h6;have g7:∀ (l':Addr) (ws':List Str) (H2:Hp),Same H H2->H2 l'=some (.lst (ws'.map V.str))->WsO (2*m+63) (n+1) ws'->(6<=c % 8->ws'=ws/\l'=l)->N7 [some (V.ref l0),some (V.int c),some (V.ref l'),some (V.int (at':Int)),some (V.int (c / 200)),none] H2:=by
           intro l' ws' H2 s2 e2 o2 q2;refine h7 _ _ (bW fun N8 h8=>?_);clear h7;have g8:∀ (l':Addr) (ws':List Str) (H2:Hp),Same H H2->H2 l'=some (.lst (ws'.map V.str))->WsO (2*m+63) (n+1) ws'->(7<=c % 8->ws'=ws/\l'=l)->N8 [some (V.ref l0),some (V.int c),some (V.ref l'),some (V.int (at':Int)),some (V.int (c / 200)),none] H2:=by
             intro l' ws' H2 s2 e2 o2 q2;refine h8 _ _ (bW fun N9 h9=>?_);clear h8;have g9:∀ (l':Addr) (v5:Option V) (ws':List Str) (H2:Hp),Same H H2->H2 l'=some (.lst (ws'.map V.str))->WsO (2*m+63) (n+1) ws'->N9 [some (V.ref l0),some (V.int c),some (V.ref l'),some (V.int (at':Int)),some (V.int (c / 200)),v5] H2:=by
               intro l' v5 ws' H2 s2 e2 o2;refine h9 _ _ ?_;walk_at "rd";refine ⟨av (by simp),fun r nr=>?_⟩;have u1:=Same.new (HO.lst []) nr;refine IL (fun w hw=>(o2.2 w hw).1) (u1 _ _ e2) ag ⟨_,rfl,?_⟩;by_cases z:ws'=[]
               . rw [if_pos (decide_eq_true z)];refine ⟨av (by simp),fun p np=>k p [Str.ofString ""] _ (s2.trans (u1.trans (Same.new _ np))) ag (by simp) ⟨by simp,fun x hx=>?_⟩⟩;rw [List.mem_singleton.mp hx];exact ⟨by unfold Pl;decide +kernel,Nat.zero_le _⟩
               . rw [if_neg (by rw [decide_eq_true_eq];exact z)];exact k l' ws' _ (s2.trans u1) (u1 _ _ e2) z o2
             walk_at "rd";refine ⟨by decide,?_⟩;by_cases c7:c % 8=7
             . rw [if_pos c7];obtain ⟨ew,el⟩:=q2 (by omega);rw [ew] at e2;rw [el] at e2 ⊢;refine ⟨_,.inl (SqL.of (s2 _ _ e0)),_,.inl (SqL.of (s2 _ _ e0)),⟨by decide,by decide,by decide⟩,⟨by decide,by decide⟩,by decide,av (by simp),fun p np=>⟨by decide,?_⟩⟩;rw [List.length_map];have hA:0<=(10:Int)^Int.toNat 50/\(10:Int)^Int.toNat 50+1000000000<=((10^51:Nat):Int):=(by decide);have hB:=Int.emod_nonneg (c / 200) (show (10:Int)^Int.toNat 9≠0 by decide);have hC:=Int.emod_lt_of_pos (c / 200) (show 0<(10:Int)^Int.toNat 9 by decide);rw [show (10:Int)^Int.toNat 9=1000000000 from rfl] at hB hC ⊢;generalize (10:Int)^Int.toNat 50=A0 at hA ⊢;have hB1:(24:Nat)+100<10^51:=(by decide);obtain ⟨B1,hBe⟩:∃ B1:Nat,B1=10^51:=⟨_,rfl⟩;rw [<- hBe] at hA hB1;have hnn:∃ nn:Nat,nn<B1/\atI [V.int ((ws.length:Int)+1),V.int ((ws.length:Int) - 1),V.int 0,V.int 25,V.int 24,V.int (A0+c / 200 % 1000000000)] (c / 200 % 6)=some (V.int nn):=by
                 rcases (show c / 200 % 6=0\/c / 200 % 6=1\/c / 200 % 6=2\/c / 200 % 6=3\/c / 200 % 6=4\/c / 200 % 6=5 by omega) with e|e|e|e|e|e <;> rw [e]
                 . exact ⟨ws.length+1,by omega,rfl⟩
                 . exact ⟨ws.length - 1,by omega,by rw [show ((ws.length - 1:Nat):Int)=(ws.length:Int) - 1 by omega];rfl⟩
                 . exact ⟨0,by omega,rfl⟩
                 . exact ⟨25,by omega,rfl⟩
                 . exact ⟨24,by omega,rfl⟩
                 . exact ⟨(A0+c / 200 % 1000000000).toNat,by omega,by rw [Int.toNat_of_nonneg (by omega)];rfl⟩
               obtain ⟨nn,nb,hnn⟩:=hnn;rw [hBe] at nb;have u1:=Same.new (HO.lst [V.int ((ws.length:Int)+1),V.int ((ws.length:Int) - 1),V.int 0,V.int 25,V.int 24,V.int (A0+c / 200 % 1000000000)]) np;have fl:(FS nn).length<=51:=by
                 rw [bi,pJ];exact iC 50 nn nb
               have l4:(Str.ofString "web ").length=4:=(by decide +kernel);refine ixL ag hnn ⟨_,rfl,xz nb (by decide) (by decide),_,rfl,_,rfl,?_,Eb (u1 _ _ e2) (by decide) (by rw [List.length_map];omega) ?_⟩
               . rw [zU];exact av (by omega)
               . rw [zU,<- List.map_set];refine g9 l _ _ _ (sl _ (s2.trans u1)) ag ⟨by rw [List.length_set];omega,fun x hx=>?_⟩;rcases List.mem_or_eq_of_mem_set hx with hx|rfl
                 . exact up x hx
                 . exact ⟨(show Pl (Str.ofString "web ") by unfold Pl;decide +kernel).app (Pl.fs nn),by rw [eR];omega⟩
             . rw [if_neg c7];exact g9 l' none ws' H2 s2 e2 o2
           walk_at "rd";refine ⟨by decide,?_⟩;by_cases c6:c % 8=6
           . rw [if_pos c6];obtain ⟨ew,el⟩:=q2 (by omega);rw [ew] at e2;rw [el] at e2 ⊢;refine ⟨tyL e2,_,.inl (SqL.of e2),av (by simp),fun p np=>⟨by decide,?_⟩⟩;rw [List.length_map];have hj:∃ j:Nat,j<=ws.length/\atI [V.int (at':Int),V.int (ws.length:Int)] (c / 200 % 2)=some (V.int j):=by
               rcases (show c / 200 % 2=0\/c / 200 % 2=1 by omega) with e|e <;> rw [e]
               . exact ⟨at',by omega,rfl⟩
               . exact ⟨ws.length,Nat.le_refl _,rfl⟩
             obtain ⟨j,jl,hj⟩:=hj;have u1:=Same.new (HO.lst [V.int (at':Int),V.int (ws.length:Int)]) np;refine ixL ag hj ⟨av (by simp),fun p2 np2=>⟨⟨by decide,by decide⟩,by decide,?_⟩⟩;have u2:=Same.new (HO.lst [V.str (Str.ofString ""),V.str (Str.ofString " "),V.str (Str.ofString "road 0 1 2 2"),V.str (Str.ofString "web 1"),V.str (Str.ofString "x")]) np2;have hp:∀ w∈[Str.ofString "",Str.ofString " ",Str.ofString "road 0 1 2 2",Str.ofString "web 1",Str.ofString "x"],Pl w/\w.length<=63:=(by unfold Pl;decide +kernel);obtain ⟨w',hw'⟩:∃ w',[Str.ofString "",Str.ofString " ",Str.ofString "road 0 1 2 2",Str.ofString "web 1",Str.ofString "x"][(c / 200 / 2 % 5).toNat]?=some w':=⟨_,List.getElem?_eq_getElem (by simp;omega)⟩;obtain ⟨pw',lw'⟩:=hp w' (List.mem_of_getElem? hw');refine ixL ag (v:=V.str w') (cV (by omega) (by rw [show [V.str (Str.ofString ""),V.str (Str.ofString " "),V.str (Str.ofString "road 0 1 2 2"),V.str (Str.ofString "web 1"),V.str (Str.ofString "x")]=[Str.ofString "",Str.ofString " ",Str.ofString "road 0 1 2 2",Str.ofString "web 1",Str.ofString "x"].map V.str from rfl,List.getElem?_map,hw'];rfl)) (Au (u2 _ _ (u1 _ _ e2)) (by omega) (by rw [List.length_map];omega) (cz (by rw [List.length_map];omega)) ?_);rw [<- List.map_take,<- List.map_drop,<- List.map_cons,<- List.map_append];refine g8 l _ _ (sl _ (s2.trans (u1.trans u2))) ag ⟨by rw [List.length_append,List.length_cons,List.length_take,List.length_drop];omega,fun x hx=>?_⟩ fun z=>absurd z (by omega);rcases List.mem_append.mp hx with hx|hx
             . exact up x (List.mem_of_mem_take hx)
             . rcases List.mem_cons.mp hx with rfl|hx
               . exact ⟨pw',by omega⟩
               . exact up x (List.mem_of_mem_drop hx)
           . rw [if_neg c6];exact g8 l' ws' H2 s2 e2 o2 fun z=>q2 (by omega)
         walk_at "rd";refine ⟨by decide,?_⟩;by_cases c5:c % 8=5
         . rw [if_pos c5];rw [q2 (by omega)] at e2;refine ⟨l,_,rfl,SqL.of e2,fun p1 n1=>?_⟩;rw [Jn _ (by omega),Int.toNat_natCast,<- List.map_take];have u1:=Same.new (HO.lst ((ws.take at').map V.str)) n1;have b1:upd H2 p1 (HO.lst ((ws.take at').map V.str)) p1=_:=ag;generalize upd H2 p1 (HO.lst ((ws.take at').map V.str))=G1 at u1 b1 ⊢;refine ⟨l,_,rfl,SqL.of (u1 _ _ e2),fun p2 n2=>?_⟩;rw [Iz _ (by omega) (by omega),Int.toNat_natCast,show ((at':Int)+2 - (at':Int)).toNat=2 by omega,<- List.map_drop,<- List.map_take];have u2:=Same.new (HO.lst (((ws.drop at').take 2).map V.str)) n2;refine ⟨p2,rfl,_,SqL.of ag,fun p3 n3=>?_⟩;rw [<- List.map_reverse];have u3:=Same.new (HO.lst (((ws.drop at').take 2).reverse.map V.str)) n3;have b3:upd (upd G1 p2 (HO.lst (((ws.drop at').take 2).map V.str))) p3 (HO.lst (((ws.drop at').take 2).reverse.map V.str)) p3=_:=ag;have u23:=u2.trans u3;generalize upd (upd G1 p2 (HO.lst (((ws.drop at').take 2).map V.str))) p3 (HO.lst (((ws.drop at').take 2).reverse.map V.str))=G3 at u23 b3 ⊢;refine CU (u23 _ _ b1) b3 (av (by simp only [List.length_append,List.length_map,List.length_take,List.length_reverse,List.length_drop];omega)) fun p4 n4=>?_;have u4:=Same.new (HO.lst ((ws.take at').map V.str++((ws.drop at').take 2).reverse.map V.str)) n4;have b4:upd G3 p4 (HO.lst ((ws.take at').map V.str++((ws.drop at').take 2).reverse.map V.str)) p4=_:=ag;have u14:=u1.trans (u23.trans u4);generalize upd G3 p4 (HO.lst ((ws.take at').map V.str++((ws.drop at').take 2).reverse.map V.str))=G4 at u4 b4 u14 ⊢;refine ⟨l,_,rfl,SqL.of (u14 _ _ e2),fun p5 n5=>?_⟩;rw [A4 _ (by omega),show ((at':Int)+2).toNat=at'+2 by omega,<- List.map_drop];have u5:=Same.new (HO.lst ((ws.drop (at'+2)).map V.str)) n5;refine CU (u5 _ _ b4) ag (av (by simp only [List.length_append,List.length_map,List.length_take,List.length_reverse,List.length_drop];omega)) fun p6 n6=>?_;refine g7 p6 (ws.take at'++((ws.drop at').take 2).reverse++ws.drop (at'+2)) _ (s2.trans (u14.trans (u5.trans (Same.new _ n6)))) (by rw [ag,List.map_append,List.map_append]) ⟨?_,fun x hx=>?_⟩ fun z=>absurd z (by omega)
           . simp only [List.length_append,List.length_take,List.length_reverse,List.length_drop];omega
           . rcases List.mem_append.mp hx with hx|hx
             . rcases List.mem_append.mp hx with hx|hx
               . exact up x (List.mem_of_mem_take hx)
               . exact up x (List.mem_of_mem_drop (List.mem_of_mem_take (List.mem_reverse.mp hx)))
             . exact up x (List.mem_of_mem_drop hx)
         . rw [if_neg c5];exact g7 l ws' H2 s2 e2 o2 fun z=>⟨q2 (by omega),rfl⟩
       walk_at "rd";refine ⟨by decide,?_⟩;by_cases c4:c % 8=4
       . rw [if_pos c4];have:=q2 (by omega);subst this;refine ⟨tyL e2,ixL e2 ixw (Au e2 (by omega) (by rw [List.length_map];omega) (cz (by rw [List.length_map];omega)) ?_)⟩;rw [<- List.map_take,<- List.map_drop,<- List.map_cons,<- List.map_append];refine g6 _ _ (sl _ s2) ag ⟨by rw [List.length_append,List.length_cons,List.length_take,List.length_drop];omega,fun x hx=>?_⟩ fun z=>absurd z (by omega);rcases List.mem_append.mp hx with hx|hx
         . exact up x (List.mem_of_mem_take hx)
         . rcases List.mem_cons.mp hx with rfl|hx
           . exact up _ ww
           . exact up x (List.mem_of_mem_drop hx)
       . rw [if_neg c4];exact g6 ws' H2 s2 e2 o2 fun z=>q2 (by omega)
     walk_at "rd";refine ⟨by decide,?_⟩;by_cases c3:c % 8=3
     . rw [if_pos c3];have:=q2 (by omega);subst this;refine ⟨tyL e2,l,_,_,at',V.str w,rfl,rfl,e2,by omega,by omega,by rw [List.length_map];exact Ck (by omega),by rw [List.getElem?_map,hw];rfl,?_⟩;rw [Bm];exact g5 _ _ (sl _ s2) ag ⟨Nat.le_trans (List.length_eraseIdx_le ..) (by omega),fun x hx=>up x (List.mem_of_mem_eraseIdx hx)⟩ fun z=>absurd z (by omega)
     . rw [if_neg c3];exact g5 ws' H2 s2 e2 o2 fun z=>q2 (by omega)
   walk_at "rd";refine ⟨by decide,?_⟩;by_cases c0:c % 8<3
   . rw [if_pos c0];have m1:=(wo'.2 w ww).2;refine ixL e1 ixw ⟨w,_,rfl,(wo'.2 w ww).1,by omega,fun w' H2 s2 pw' lw'=>Eb (s2 _ _ e1) (by omega) (by rw [List.length_map];exact q1) ?_⟩;rw [<- List.map_set];refine g4 _ _ (sl _ (s1.trans s2)) ag ⟨by rw [List.length_set];omega,fun x hx=>?_⟩ fun z=>absurd z (by omega);rcases List.mem_or_eq_of_mem_set hx with hx|rfl
     . exact up x hx
     . exact ⟨pw',by omega⟩
   . rw [if_neg c0];exact g4 ws H1 s1 e1 wo2 fun _=>rfl
def sE (T:Txt K mg):Sp:=fun vs H Q _=>∃ (m:Int) (l:Addr) (ps:List Addr) (rs:List Road),vs=[.int m,.ref l]/\H l=some (.lst (ps.map V.ref))/\RoadsAt H ps rs/\1<=m/\m<=24/\rs.length<=24/\(∀ r∈rs,RoadOk m r)/\∀ b H',Same H H'->(b=true↔lF m rs)->Q (.bl b) H'
abbrev bf:Stmt:=top 38
theorem dM:FnScope ["many","roads","met","at","road","one","other"] ["many","roads"] (aa bf):=FnScope.of (by kernel_rfl)
theorem uq:NmL (aa bf) "many":=.of (by kernel_rfl)
theorem sM:NmL (aa bf) "roads":=.of (by kernel_rfl)
theorem cT:NmL (aa bf) "met":=.of (by kernel_rfl)
theorem eA:NmL (aa bf) "at":=.of (by kernel_rfl)
theorem dC:NmL (aa bf) "road":=.of (by kernel_rfl)
theorem mq:NmL (aa bf) "one":=.of (by kernel_rfl)
theorem gK:NmL (aa bf) "other":=.of (by kernel_rfl)
theorem cS:NmG (aa bf) "len":=.of (by kernel_rfl)
theorem zh (T:Txt K mg) (hq:bH (CXe P w)) {f:Addr} {fd:FuncData} (D:Df K mg "_law_joined" bf ["many","roads"] f fd):FnOk P w K mg base (CXe P w) 1 f fd ["many","roads"] (sE T):=by
 refine D.F.okC dM (fun vs H Q E h=>?_) (fun cdv A outer s H vs Q E hr h=>?_)
 . obtain ⟨m,l,ps,rs,rfl,_⟩:=h
   rfl
 . obtain ⟨m,l,ps,rs,rfl,el,ro,m1,m24,rl,gok,k⟩:=h;refine ⟨_,(ai (ap (i:=2) dM.nd rfl (Or.inl cT.l) (cj (ae af ah))) (ai (ap (i:=3) dM.nd rfl (Or.inl eA.l) af) (ai (Be PassesOwn.never (ar uM (pvl 3 eA) (ay aN cS.g T.len bQ (ae (pvl 2 cT) ah) (hn:=cS.n) (hdb:=cS.d)) (ax _)) (ai (e9 PassesOwn.never rfl (fQ (pvl 1 sM)) (bg (i:=4) dM.nd rfl (Or.inl dC.l)) (aj (e9 PassesOwn.never rfl (fQ (cj (ae (jm (ae (aF dR (pvl 4 dC) af (fun _ _=>rfl)) (ae (aF dR (pvl 4 dC) af (fun _ _=>rfl)) ah))) (ae (jm (ae (aF dR (pvl 4 dC) af (fun _ _=>rfl)) (ae (aF dR (pvl 4 dC) af (fun _ _=>rfl)) ah))) ah)))) (A3 (n:=2) rfl (ie (bg (i:=5) dM.nd rfl (Or.inl mq.l)) (ie (bg (i:=6) dM.nd rfl (Or.inl gK.l)) yd))) (aj (aG (PW.pt (nX (ar cA (pvl 5 mq) (aF aQ (pvl 2 cT) (pvl 3 eA) (fun _ _=>rfl)) (ax _)) (pH (ar Bi (pvl 6 gK) (pvl 2 cT) (by with_unfolding_all rfl))))) (aj (bG (bN PySem.F.plainAttrs_list PySem.F.slot_list_append PySem.F.type_list_append cG (pvl 2 cT) (ae (pvl 6 gK) ah)))) aw))))) (aj (ap (i:=3) dM.nd rfl (Or.inl eA.l) (ak bP (pvl 3 eA) af))))) (aj (aR (pG cA (ay aN cS.g T.len bQ (ae (pvl 2 cT) ah) (hn:=cS.n) (hdb:=cS.d)) (pvl 0 uq) (ax _))))))),?_⟩;rw [show L2.start ["many","roads","met","at","road","one","other"] [V.int m,V.ref l]=[some (V.int m),some (V.ref l),none,none,none,none,none] from rfl];walk_at "rd";refine ⟨av (by simp),fun lm nlm=>?_⟩;have nl:lm≠l:=fun z=>by rw [z,el] at nlm;cases nlm
   refine CI (fun n σ H2=>∃ (ks:List Int) (at_:Nat),n=24 - at_/\∃ (v4 v5 v6:Option V),σ=[some (.int m),some (.ref l),some (.ref lm),some (.int at_),v4,v5,v6]/\Same H H2/\H2 lm=some (.lst (ks.map V.int))/\JW m rs at_ ks/\at_<=ks.length) _ ⟨[0],0,rfl,none,none,none,rfl,Same.new _ nlm,ag,JW.start m1,Nat.zero_le _⟩ ?_;rintro n σ H2 NW hN hN2 ⟨ks,at_,rfl,v4,v5,v6,rfl,s2,e2,J,al⟩;have kl:=eU (by omega) J.nd J.rng;walk_at "rd";refine ⟨_,.inl (SqL.of e2),?_⟩;rw [List.length_map];by_cases c:(at_:Int)<(ks.length:Int)
   . rw [if_pos c];refine ⟨NW,hN2,⟨_,SqL.of (s2 _ _ el)⟩,?_⟩;obtain ⟨p,hp⟩:∃ p,ks[at_]?=some p:=⟨_,List.getElem?_eq_getElem (by omega)⟩;refine lx (K:=K) (xs:=ps.map V.ref) (fun i σ H3=>Same H H3/\∃ (ks3:List Int) (v4 v5 v6:Option V),σ=[some (.int m),some (.ref l),some (.ref lm),some (.int at_),v4,v5,v6]/\H3 lm=some (.lst (ks3.map V.int))/\JW m rs at_ ks3/\ks3[at_]?=some p/\∀ r∈rs.take i,(r.a=p->r.b∈ks3)/\(r.b=p->r.a∈ks3)) ⟨s2,ks,_,_,_,rfl,e2,J,hp,fun r hr=>by cases hr⟩ (fun i σ H3 _ z=>SqL.of (z.1 _ _ el)) ?_ ?_
     . rintro i x σ H3 N BB hBB hN3 hi ⟨s3,ks3,w4,w5,w6,rfl,e3,J3,hp3,sn⟩;obtain ⟨q,r,rfl,h1,h2,h3⟩:=ro.get hi;have et:rs.take (i+1)=rs.take i++[r]:=(by rw [List.take_succ,h2];rfl);have rm:=List.mem_of_getElem? h2;have rk:=gok r rm;refine hBB _ _ ?_;walk_at "rd";have h3':=s3 _ _ h3;refine ixT h3' rfl (ixT h3' rfl ⟨av (by simp),fun t1 n1=>?_⟩);have u1:=Same.new (HO.tup [V.int r.a,V.int r.b]) n1;refine ixT (u1 _ _ h3') rfl (ixT (u1 _ _ h3') rfl ⟨av (by simp),fun t2 n2=>⟨av (by simp),fun t3 n3=>⟨⟨_,SqL.of ag⟩,?_⟩⟩⟩);have u2:=Same.new (HO.tup [V.int r.b,V.int r.a]) n2;have u3:=Same.new (HO.lst [V.ref t1,V.ref t2]) n3;have b1:=u3 _ _ (u2 _ _ (ag (H:=H3) (a:=t1) (o:=HO.tup [V.int r.a,V.int r.b])));have b2:=u3 _ _ (ag (H:=upd H3 t1 (HO.tup [V.int r.a,V.int r.b])) (a:=t2) (o:=HO.tup [V.int r.b,V.int r.a]));have b3:upd (upd (upd H3 t1 (HO.tup [V.int r.a,V.int r.b])) t2 (HO.tup [V.int r.b,V.int r.a])) t3 (HO.lst [V.ref t1,V.ref t2]) t3=some (.lst [V.ref t1,V.ref t2]):=ag;have u13:=u1.trans (u2.trans u3);generalize upd (upd (upd H3 t1 (HO.tup [V.int r.a,V.int r.b])) t2 (HO.tup [V.int r.b,V.int r.a])) t3 (HO.lst [V.ref t1,V.ref t2])=H4 at b1 b2 b3 u13 ⊢;have e4:=u13 _ _ e3;have s4:=s3.trans u13;have t1l:t1≠lm:=fun z=>by rw [z,e4] at b1;cases b1
       have t2l:t2≠lm:=fun z=>by rw [z,e4] at b2;cases b2
       have t3l:t3≠lm:=fun z=>by
         have:=(u1.trans u2) _ _ e3;rw [<- z,n3] at this;cases this
       refine lx (K:=K) (xs:=[V.ref t1,V.ref t2]) (fun j σ H5=>Same H H5/\H5 t1=some (.tup [V.int r.a,V.int r.b])/\H5 t2=some (.tup [V.int r.b,V.int r.a])/\H5 t3=some (.lst [V.ref t1,V.ref t2])/\∃ (ks5:List Int) (v5 v6:Option V),σ=[some (.int m),some (.ref l),some (.ref lm),some (.int at_),some (.ref q),v5,v6]/\H5 lm=some (.lst (ks5.map V.int))/\JW m rs at_ ks5/\ks5[at_]?=some p/\(∀ r∈rs.take i,(r.a=p->r.b∈ks5)/\(r.b=p->r.a∈ks5))/\(1<=j->r.a=p->r.b∈ks5)/\(2<=j->r.b=p->r.a∈ks5)) ⟨s4,b1,b2,b3,ks3,_,_,rfl,e4,J3,hp3,sn,fun z=>absurd z (by decide),fun z=>absurd z (by decide)⟩ (fun j σ H5 _ z=>SqL.of z.2.2.2.1) ?_ ?_
       . rintro j y σ H5 N4 B4 hB4 hN4 hy ⟨s5,d1,d2,d3,ks5,x5,x6,rfl,e5,J5,hp5,sn5,f1,f2⟩;have hj:∃ (tj:Addr) (one other:Int),y=V.ref tj/\H5 tj=some (.tup [V.int one,V.int other])/\(one=p->other∈cY rs p)/\(0<=other/\other<m)/\((j=0/\one=r.a/\other=r.b)\/(j=1/\one=r.b/\other=r.a)):=by
           match j,hy with
           | 0,hy=>cases hy;exact ⟨t1,_,_,rfl,d1,fun z=>li.mpr ⟨r,rm,.inl ⟨z,rfl⟩⟩,⟨rk.b0,rk.b1⟩,.inl ⟨rfl,rfl,rfl⟩⟩
           | 1,hy=>cases hy;exact ⟨t2,_,_,rfl,d2,fun z=>li.mpr ⟨r,rm,.inr ⟨z,rfl⟩⟩,⟨rk.a0,rk.a1⟩,.inr ⟨rfl,rfl,rfl⟩⟩
           | j+2,hy=>cases hy
         obtain ⟨tj,one,other,rfl,dj,hend,hrg,hj⟩:=hj;have a5:=(List.getElem?_eq_some_iff.mp hp5).1;have k5:=eU (by omega) J5.nd J5.rng;have pm:=List.mem_of_getElem? hp5;have fin:∀ (ks6:List Int) (H6:Hp),(∀ x∈ks5,x∈ks6)->(∀ b o,H5 b=some o->b≠lm->H6 b=some o)->H6 lm=some (.lst (ks6.map V.int))->JW m rs at_ ks6->ks6[at_]?=some p->(one=p->other∈ks6)->N4 [some (.int m),some (.ref l),some (.ref lm),some (.int at_),some (.ref q),some (.int one),some (.int other)] H6:=by
           intro ks6 H6 sub ok6 e6 J6 hp6 hin;refine hN4 _ _ ⟨fun b o e=>ok6 _ _ (s5 _ _ e) (az e nlm),ok6 _ _ d1 t1l,ok6 _ _ d2 t2l,ok6 _ _ d3 t3l,ks6,_,_,rfl,e6,J6,hp6,fun r' hr'=>⟨fun z=>sub _ ((sn5 r' hr').1 z),fun z=>sub _ ((sn5 r' hr').2 z)⟩,fun _=>?_,fun j2=>?_⟩
           . rcases hj with ⟨j0,rfl,rfl⟩|⟨j1,rfl,rfl⟩
             . exact hin
             . exact fun z=>sub _ (f1 (by omega) z)
           . rcases hj with ⟨j0,rfl,rfl⟩|⟨j1,rfl,rfl⟩
             . omega
             . exact hin
         refine hB4 _ _ ?_;walk_at "rd";refine ⟨_,SqT.of dj,rfl,_,_,rfl,_,_,rfl,rfl,ixL e5 (pM (by rw [List.getElem?_map,hp5];rfl)) ⟨rfl,?_⟩⟩;by_cases c1:one=p
         . rw [if_pos (congrArg V.int c1)];refine inL e5 ⟨_,rfl,?_⟩;by_cases c2:other∈ks5
           . rw [decide_eq_true c2,if_neg (by decide)];exact fin ks5 H5 (fun _ z=>z) (fun _ _ e _=>e) e5 J5 hp5 fun _=>c2
           . rw [decide_eq_false c2,if_pos (by decide)];refine ⟨tyL e5,pz e5 (cz (by rw [List.length_map];omega)) ?_⟩;refine fin (ks5++[other]) _ (fun _ z=>List.mem_append_left _ z) (fun b o e nb=>by rw [am nb];exact e) (by rw [ag,List.map_append];rfl) (J5.add (by omega) pm (hend c1) hrg c2) (by rw [List.getElem?_append_left a5];exact hp5) fun _=>List.mem_append_right _ (List.mem_singleton.mpr rfl)
         . rw [if_neg (fun z=>c1 (by injection z))];exact fin ks5 H5 (fun _ z=>z) (fun _ _ e _=>e) e5 J5 hp5 fun z=>absurd z c1
       . rintro B4 σ H5 hB4 ⟨s5,d1,d2,d3,ks5,x5,x6,rfl,e5,J5,hp5,sn5,f1,f2⟩;refine hB4 _ _ (hN3 _ _ ⟨s5,ks5,_,_,_,rfl,e5,J5,hp5,fun r' hr'=>?_⟩);rw [et] at hr';rcases List.mem_append.mp hr' with z|z
         . exact sn5 r' z
         . rw [List.mem_singleton.mp z];exact ⟨f1 (by simp),f2 (by simp)⟩
     . rintro BB σ H3 hBB ⟨s3,ks3,w4,w5,w6,rfl,e3,J3,hp3,sn⟩;rw [List.take_of_length_le (by rw [List.length_map,Paired.length ro];exact Nat.le_refl _)] at sn;refine hBB _ _ ?_;walk_at "rd";have a3:=(List.getElem?_eq_some_iff.mp hp3).1;have k3:=eU (by omega) J3.nd J3.rng;exact hN (24 - (at_+1)) _ _ (by omega) ⟨ks3,at_+1,rfl,_,_,_,by rw [Int.natCast_succ],s3,e3,J3.next hp3 sn,a3⟩
   . rw [if_neg c];refine ⟨_,.inl (SqL.of e2),k _ _ s2 ?_⟩;rw [decide_eq_true_eq,List.length_map];exact J.all (by omega) m1
def r9 (T:Txt K mg):Sp:=fun vs H Q _=>∃ (m:Nat) (l:Addr) (ps:List Addr) (rs:List Road),vs=[.int m,.ref l]/\H l=some (.lst (ps.map V.ref))/\RoadsAt H ps rs/\rs.length<=24/\(∀ r∈rs,0<=r.a/\0<=r.b)/\∀ b H',Same H H'->(b=true↔Good m rs)->Q (.bl b) H'
abbrev aV:Stmt:=top 39
theorem gx:FnScope ["many","roads","one","other","there","back"] ["many","roads"] (aa aV):=FnScope.of (by kernel_rfl)
theorem dB:NmL (aa aV) "many":=.of (by kernel_rfl)
theorem gD:NmL (aa aV) "roads":=.of (by kernel_rfl)
theorem iZ:NmL (aa aV) "one":=.of (by kernel_rfl)
theorem gC:NmL (aa aV) "other":=.of (by kernel_rfl)
theorem gF:NmL (aa aV) "there":=.of (by kernel_rfl)
theorem ii:NmL (aa aV) "back":=.of (by kernel_rfl)
theorem jc:NmG (aa aV) "len":=.of (by kernel_rfl)
theorem cU:NmG (aa aV) "max":=.of (by kernel_rfl)
theorem jb:NmG (aa aV) "min":=.of (by kernel_rfl)
theorem ib:NmG (aa aV) "_law_joined":=.of (by kernel_rfl)
theorem zc (T:Txt K mg) (hq:bH (CXe P w)) {f:Addr} {fd:FuncData} (D:Df K mg "_law_is_web" aV ["many","roads"] f fd) {ez:Addr} {sj:FuncData} (fJ:Df K mg "_law_joined" bf ["many","roads"] ez sj) (G_law_joined:FnOk P w K mg base (CXe P w) 1 ez sj ["many","roads"] (sE T)):FnOk P w K mg base (CXe P w) 2 f fd ["many","roads"] (r9 T):=by
 refine D.F.okC gx (fun vs H Q E h=>?_) (fun cdv A outer s H vs Q E hr h=>?_)
 . obtain ⟨m,l,ps,rs,rfl,_⟩:=h
   rfl
 . obtain ⟨m,l,ps,rs,rfl,el,ro,rl,nn,k⟩:=h;refine ⟨_,(ai (aG (PW.pt (gP (ar uM (pvl 0 dB) af (ax _)) (gP (ar uL (pvl 0 dB) af (ax _)) (jY (ar gb (ay aN jc.g T.len bQ (ae (pvl 1 gD) ah) (hn:=jc.n) (hdb:=jc.d)) (ak uy (pvl 0 dB) af) (ax _)))))) (aj (aR oq)) aw) (ai (e9 PassesOwn.never rfl (fQ (pvl 1 gD)) (A3 (n:=4) rfl (ie (bg (i:=2) gx.nd rfl (Or.inl iZ.l)) (ie (bg (i:=3) gx.nd rfl (Or.inl gC.l)) (ie (bg (i:=4) gx.nd rfl (Or.inl gF.l)) (ie (bg (i:=5) gx.nd rfl (Or.inl ii.l)) yd))))) (aj (aG (PW.pt (gP (ar cA (pvl 2 iZ) (pvl 3 gC) (ax _)) (gP (ar Kh (ay (yF rfl) cU.g T.max Fm (ae (pvl 2 iZ) (ae (pvl 3 gC) ah)) (hn:=cU.n) (hdb:=cU.d)) (pvl 0 dB) (ax _)) (gP (ar uM (ay (uz rfl) jb.g T.min AE (ae (pvl 4 gF) (ae (pvl 5 ii) ah)) (hn:=jb.n) (hdb:=jb.d)) af (ax _)) (jY (ar uL (ay (yF rfl) cU.g T.max Fm (ae (pvl 4 gF) (ae (pvl 5 ii) ah)) (hn:=cU.n) (hdb:=cU.d)) (ak vS af af) (ax _))))))) (aj (aR oq)) aw))) (aj (aR (aJ G_law_joined (hr.mono (by decide)) ib.g fJ.m fJ.F.kp fJ.b .nil (db hq) (ae (pvl 0 dB) (ae (pvl 1 gD) ah)) (hdb:=ib.d)))))),?_⟩;rw [show L2.start ["many","roads","one","other","there","back"] [V.int m,V.ref l]=[some (V.int m),some (V.ref l),none,none,none,none] from rfl];refine bW fun N1 h1=>?_;walk_at "rd";by_cases m1:(m:Int)<1
   . rw [if_pos m1];exact k _ _ (Same.refl _) ⟨(fun z=>by cases z),fun g=>absurd g.m1 (by omega)⟩
   rw [if_neg m1];by_cases m24:24<(m:Int)
   . rw [if_pos m24];exact k _ _ (Same.refl _) ⟨(fun z=>by cases z),fun g=>absurd g.m24 (by omega)⟩
   rw [if_neg m24];refine ⟨_,.inl (SqL.of el),?_⟩;have pl:=Paired.length ro;rw [List.length_map,pl];by_cases ml:(rs.length:Int)=m - 1
   case neg =>
     rw [if_pos ml];exact k _ _ (Same.refl _) ⟨(fun z=>by cases z),fun g=>absurd g.len ml⟩
   rw [if_neg (fun z=>z ml)];refine h1 _ _ (bW fun N2 h2=>?_);walk_at "rd";refine ⟨⟨_,SqL.of el⟩,?_⟩;refine lx (K:=K) (xs:=ps.map V.ref) (fun i σ H3=>H3=H/\(∀ r∈rs.take i,RoadOk m r)/\∃ v2 v3 v4 v5,σ=[some (.int m),some (.ref l),v2,v3,v4,v5]) ⟨rfl,fun r hr=>(by cases hr),_,_,_,_,rfl⟩ (fun i σ H3 _ z=>SqL.of (by rw [z.1];exact el)) ?_ ?_
   . rintro i x σ H3 N BB hBB hN3 hi ⟨rfl,ok,w2,w3,w4,w5,rfl⟩;obtain ⟨q,r,rfl,e1,e2,e3⟩:=ro.get hi;have et:rs.take (i+1)=rs.take i++[r]:=(by rw [List.take_succ,e2];rfl);have rm:=List.mem_of_getElem? e2;obtain ⟨a0,b0⟩:=nn r rm;refine hBB _ _ ?_;walk_at "rd";have bad:¬ RoadOk m r->∀ H',Same H3 H'->Q (V.bl false) H':=fun nk H' s'=>k _ _ s' ⟨(fun z=>by cases z),fun g=>absurd (g.ok r rm) nk⟩;refine ⟨_,SqT.of e3,rfl,_,_,rfl,_,_,rfl,_,_,rfl,_,_,rfl,rfl,?_⟩;refine ⟨rfl,?_⟩;by_cases c1:r.a=r.b
     . rw [if_pos (congrArg V.int c1)];exact bad (fun g=>g.ne c1) _ (Same.refl _)
     rw [if_neg (fun z=>c1 (by injection z))];refine ⟨_,_,⟨rfl,rfl⟩,?_⟩;by_cases c2:(m:Int)<=if r.b > r.a then r.b else r.a
     . rw [if_pos c2];refine bad (fun g=>?_) _ (Same.refl _);have h1:=g.a1;have h2:=g.b1;split at c2 <;> omega
     rw [if_neg c2];refine ⟨_,_,⟨rfl,rfl⟩,?_⟩;by_cases c3:(if r.u<r.t then r.u else r.t)<2
     . rw [if_pos c3];refine bad (fun g=>?_) _ (Same.refl _);have h1:=g.t0;have h2:=g.u0;split at c3 <;> omega
     rw [if_neg c3];refine ⟨_,_,⟨rfl,rfl⟩,⟨by decide,by decide⟩,?_⟩;rw [show (10:Int)^Int.toNat 6=1000000 from rfl];by_cases c4:1000000<(if r.u > r.t then r.u else r.t)
     . rw [if_pos c4];refine bad (fun g=>?_) _ (Same.refl _);have h1:=g.t1;have h2:=g.u1;split at c4 <;> omega
     rw [if_neg c4];have gr:RoadOk m r:=by
       refine ⟨a0,?_,b0,?_,c1,?_,?_,?_,?_⟩
       . split at c2 <;> omega
       . split at c2 <;> omega
       . split at c3 <;> omega
       . split at c4 <;> omega
       . split at c3 <;> omega
       . split at c4 <;> omega
     refine hN3 _ _ ⟨rfl,fun r' hr'=>?_,_,_,_,_,rfl⟩;rw [et] at hr';rcases List.mem_append.mp hr' with z|z
     . exact ok r' z
     . rw [List.mem_singleton.mp z];exact gr
   . rintro BB σ H3 hBB ⟨rfl,ok,w2,w3,w4,w5,rfl⟩;rw [List.take_of_length_le (by rw [List.length_map,pl];exact Nat.le_refl _)] at ok;refine hBB _ _ (h2 _ _ ?_);walk_at "rd";exact ⟨m,l,ps,rs,rfl,el,ro,by omega,by omega,rl,ok,fun b H' s' hb=>k b H' s' (hb.trans ⟨fun j=>⟨by omega,by omega,ml,ok,j⟩,fun g=>g.jn⟩)⟩
def m6 (T:Txt K mg):Sp:=fun vs H Q _=>∃ w:Str,vs=[.str w]/\WOk w/\(∀ n,numW w=some n->∀ H',Same H H'->Q (.int (n:Int)) H')/\(numW w=none->∀ H',Same H H'->Q .non H')
abbrev bo:Stmt:=top 35
theorem gj:FnScope ["word","number","sign"] ["word"] (aa bo):=FnScope.of (by kernel_rfl)
theorem dL:NmL (aa bo) "word":=.of (by kernel_rfl)
theorem da:NmL (aa bo) "number":=.of (by kernel_rfl)
theorem fW:NmL (aa bo) "sign":=.of (by kernel_rfl)
theorem cf:NmG (aa bo) "len":=.of (by kernel_rfl)
theorem vH (T:Txt K mg) (hq:bH (CXe P w)) {f:Addr} {fd:FuncData} (D:Df K mg "_law_number_in" bo ["word"] f fd):FnOk P w K mg base (CXe P w) 1 f fd ["word"] (m6 T):=by
 refine D.F.okC gj (fun vs H Q E h=>?_) (fun cdv A outer s H vs Q E hr h=>?_)
 . obtain ⟨w,rfl,_⟩:=h
   rfl
 . obtain ⟨w,rfl,⟨as,wl⟩,k,kn⟩:=h;refine ⟨_,(ai (aG (PW.pt (gP (ik (n9 iQ iQ af (ay gZ cf.g T.len bQ (ae (pvl 0 dL) ah) (hn:=cf.n) (hdb:=cf.d)) af)) (jY (PW.pt (nX (ar cA (aF AN (pvl 0 dL) af (fun _ _=>rfl)) ao (ax _)) (pH (ar uL (ay gZ cf.g T.len bQ (ae (pvl 0 dL) ah) (hn:=cf.n) (hdb:=cf.d)) af (ax _)))))))) (aj (aR wL)) aw) (ai (ap (i:=1) gj.nd rfl (Or.inl da.l) af) (ai (e9 PassesOwn.never rfl (EC (pvl 0 dL)) (bg (i:=2) gj.nd rfl (Or.inl fW.l)) (ai (aG (ar AL (pvl 2 fW) ao (by with_unfolding_all rfl)) (aj (aR wL)) aw) (aj (ap (i:=1) gj.nd rfl (Or.inl da.l) (ak bP (ak lM (pvl 1 da) af) (bN PySem.F.plainAttrs_str PySem.F.slot_str_index PySem.F.type_str_index Eg ao (ae (pvl 2 fW) ah))))))) (aj (aR (pvl 1 da)))))),?_⟩;rw [show L2.start ["word","number","sign"] [V.str w]=[some (V.str w),none,none] from rfl];refine bW fun N1 h1=>?_;walk_at "rd";have ln:w.length=w.cps.toList.length:=bi w;have wl':w.length<=sizeLine:=Nat.le_trans wl (by decide);refine ⟨w,rfl,wl',?_⟩;rw [ln];by_cases l1:(1:Int)<=(w.cps.toList.length:Int)
   . rw [if_pos l1];by_cases l60:(w.cps.toList.length:Int)<=60
     . rw [if_neg (fun z=>z l60)];have go:(w.cps.toList=[48]\/w.cps.toList.head?≠some 48)->N1 [some (V.str w),none,none] H:=fun ld=>by
         refine h1 _ _ (bW fun N2 h2=>?_);walk_at "rd";refine h2 _ _ (bW fun N3 h3=>?_);walk_at "rd";refine ⟨w,rfl,as,?_⟩;refine GB (fun i σ H2=>H2=H/\(∀ c∈w.cps.toList.take i,48<=c/\c<=57)/\∃ v,σ=[some (V.str w),some (V.int (nv (w.cps.toList.take i):Nat)),v]) ⟨rfl,fun c hc=>(by cases hc),_,rfl⟩ ?_ ?_
         . rintro i c σ H2 N hN hi ⟨rfl,al,v,rfl⟩;have et:w.cps.toList.take (i+1)=w.cps.toList.take i++[c]:=(by rw [List.take_succ,hi];rfl);walk_at "rd";refine ⟨_,rfl,_,rfl,?_⟩;rw [yG];by_cases hc:48<=c/\c<=57
           . rw [if_neg (by rw [decide_eq_true hc];decide)];have o:=JC (c - 48) (by omega);rw [show 48+(c - 48)=c by omega] at o;refine ⟨?_,by simp [tyV],_,rfl,_,rfl,_,_,o,hN _ _ ⟨rfl,?_,some (V.str ⟨#[c]⟩),?_⟩⟩
             . exact .inr ⟨by decide,by decide⟩
             . rw [et];intro y hy;rcases List.mem_append.mp hy with h|h
               . exact al y h
               . rw [List.mem_singleton.mp h];exact hc
             . rw [et,CL,Int.natCast_add,Int.natCast_mul]
               rfl
           . rw [if_pos (decide_eq_false hc)];exact kn (lL.mpr fun f=>hc (f.all c (List.mem_of_getElem? hi))) _ (Same.refl _)
         . rintro σ H2 ⟨rfl,al,v,rfl⟩;rw [List.take_length] at al ⊢;refine h3 _ _ ?_;walk_at "rd";have f:Fig w.cps.toList:=⟨by omega,by omega,al,ld⟩;exact k _ (tZ.mpr ⟨f.fs.2,f.fs.1⟩) _ (Same.refl _)
       obtain ⟨c,r,ec⟩:∃ c r,w.cps.toList=c::r:=by
         cases hh:w.cps.toList with
         | nil=>rw [hh] at l1;exact absurd l1 (by decide)
         | cons c r=>exact ⟨c,r,rfl⟩
       refine ixS (i:=0) (by omega) (by rw [ec];rfl) ⟨rfl,?_⟩;by_cases c48:c=48
       . rw [if_pos (show V.str ⟨#[c]⟩=V.str (Str.ofString "0") by rw [c48];rfl)];refine ⟨w,rfl,wl',?_⟩;rw [ln];by_cases l2:(1:Int)<(w.cps.toList.length:Int)
         . rw [if_pos l2];refine kn (lL.mpr fun f=>?_) H (Same.refl _);rcases f.lead with z|z
           . rw [z] at l2;exact absurd l2 (by decide)
           . exact z (by rw [ec,c48];rfl)
         . rw [if_neg l2];refine go (.inl ?_);rw [ec,List.length_cons] at l2;have:r=[]:=List.length_eq_zero_iff.mp (by omega);rw [ec,c48,this]
       . rw [if_neg (fun z=>c48 (by injection z with z;exact (List.cons.inj (show [c]=[48] from congrArg (fun s:Str=>s.cps.toList) z)).1))];exact go (.inr (by rw [ec];exact fun z=>c48 (by injection z)))
     . rw [if_pos l60];exact kn (lL.mpr fun f=>absurd f.len60 (by omega)) H (Same.refl _)
   . rw [if_neg l1];exact kn (lL.mpr fun f=>absurd f.len1 (by omega)) H (Same.refl _)
def Kl (T:Txt K mg) (H:Hp) (Q:VK):Dv->Prop
 | .bad n=>∀ H',Same H H'->Q (.int (n:Int)) H'
 | .web=>∀ H',Same H H'->Q (.str (Str.ofString "web")) H'
 | .ok m rs=>∀ q t ps H',Same H H'->H' q=some (.tup [.int (m:Int),.ref t])->H' t=some (.tup (ps.map V.ref))->RoadsAt H' ps rs->Q (.ref q) H'
def wJ (T:Txt K mg):Sp:=fun vs H Q _=>∃ (a:Addr) (Y:List Str) (dv:Dv),vs=[.ref a]/\H a=some (.lst (Y.map V.str))/\(∀ y∈Y,Rw y)/\Y.length<=1000/\Due Y dv/\Y≠[]/\Kl T H Q dv
abbrev ba:Stmt:=top 40
theorem fh:FnScope ["rows","words","many","lines","roads","at","numbers"] ["rows"] (aa ba):=FnScope.of (by kernel_rfl)
theorem fe:NmL (aa ba) "rows":=.of (by kernel_rfl)
theorem bR:NmL (aa ba) "words":=.of (by kernel_rfl)
theorem fm:NmL (aa ba) "many":=.of (by kernel_rfl)
theorem gi:NmL (aa ba) "lines":=.of (by kernel_rfl)
theorem gc:NmL (aa ba) "roads":=.of (by kernel_rfl)
theorem lO:NmL (aa ba) "at":=.of (by kernel_rfl)
theorem iH:NmL (aa ba) "numbers":=.of (by kernel_rfl)
theorem aX:NmG (aa ba) "len":=.of (by kernel_rfl)
theorem cK:NmG (aa ba) "_law_number_in":=.of (by kernel_rfl)
theorem k8:NmG (aa ba) "int":=.of (by kernel_rfl)
theorem vN:NmG (aa ba) "range":=.of (by kernel_rfl)
theorem ee:NmG (aa ba) "min":=.of (by kernel_rfl)
theorem df:NmG (aa ba) "tuple":=.of (by kernel_rfl)
theorem jH:NmG (aa ba) "_law_is_web":=.of (by kernel_rfl)
theorem D5 (T:Txt K mg) (hq:bH (CXe P w)) {f:Addr} {fd:FuncData} (D:Df K mg "_law_due" ba ["rows"] f fd) {eC:Addr} {sh:FuncData} (fN:Df K mg "_law_is_web" aV ["many","roads"] eC sh) (G_law_is_web:FnOk P w K mg base (CXe P w) 2 eC sh ["many","roads"] (r9 T)) {cM:Addr} {oi:FuncData} (bp:Df K mg "_law_number_in" bo ["word"] cM oi) (G_law_number_in:FnOk P w K mg base (CXe P w) 1 cM oi ["word"] (m6 T)):FnOk P w K mg base (CXe P w) 3 f fd ["rows"] (wJ T):=by
 refine D.F.okC fh (fun vs H Q E h=>?_) (fun cdv A outer s H vs Q E hr h=>?_)
 . obtain ⟨a,Y,dv,rfl,_⟩:=h
   rfl
 . obtain ⟨a,Y,dv,rfl,ea,hY,yl,du,yn,k⟩:=h;refine ⟨_,(ai (ap (i:=1) fh.nd rfl (Or.inl bR.l) (bN PySem.F.plainAttrs_str PySem.F.slot_str_split PySem.F.type_str_split fo (aF aQ (pvl 0 fe) af (fun _ _=>rfl)) (ae ao ah))) (ai (aG (PW.pt (gP (ar gb (ay aN aX.g T.len bQ (ae (pvl 1 bR) ah) (hn:=aX.n) (hdb:=aX.d)) af (ax _)) (gP (ar gb (aF aQ (pvl 1 bR) af (fun _ _=>rfl)) ao (ax _)) (jY (Ak (Ex (aJ G_law_number_in (hr.mono (by decide)) cK.g bp.m bp.F.kp bp.b .nil (db hq) (ae (aF aQ (pvl 1 bR) af (fun _ _=>rfl)) ah) (hdb:=cK.d)))))))) (aj (aR af)) aw) (ai (ap (i:=2) fh.nd rfl (Or.inl fm.l) (aJ G_law_number_in (hr.mono (by decide)) cK.g bp.m bp.F.kp bp.b .nil (db hq) (ae (aF aQ (pvl 1 bR) af (fun _ _=>rfl)) ah) (hdb:=cK.d))) (ai (ap (i:=3) fh.nd rfl (Or.inl gi.l) (aF aQ (cj (ae af (ae (pvl 2 fm) ah))) (dE EI k8.g T.int EY (ae (Az iQ iQ af (pvl 2 fm) af) ah) (hn:=k8.n) (hdb:=k8.d)) (fun _ _=>rfl))) (ai (ap (i:=4) fh.nd rfl (Or.inl gc.l) (cj ah)) (ai (e9 PassesOwn.never rfl (tM vN.g T.range (ae af (ae (ay (uz rfl) ee.g T.min AE (ae (pvl 3 gi) (ae (ay aN aX.g T.len bQ (ae (pvl 0 fe) ah) (hn:=aX.n) (hdb:=aX.d)) ah)) (hn:=ee.n) (hdb:=ee.d)) ah))) (bg (i:=5) fh.nd rfl (Or.inl lO.l)) (ai (ap (i:=1) fh.nd rfl (Or.inl bR.l) (bN PySem.F.plainAttrs_str PySem.F.slot_str_split PySem.F.type_str_split fo (aF aQ (pvl 0 fe) (pvl 5 lO) (fun _ _=>rfl)) (ae ao ah))) (ai (DS (i:=6) fh.nd rfl iH.l rfl (kY (Nc:=["word"]) 1 (by decide +kernel) (by decide +kernel) rfl (by decide +kernel) rfl) (fQ (iK mG (pvl 1 bR) (gB af) mF)) (fun _ _ _ _=>(bg (i:=0) (show (["word"]:List Str).Nodup from by decide +kernel) rfl (Or.inl rfl))) (fun _ _ _ _=>jD) (fun _ _ _ _=>(aJ G_law_number_in (hr.mono (by decide)) (by rfl) bp.m bp.F.kp bp.b .nil (db hq) (ae (pv 0) ah)))) (ai (aG (PW.pt (gP (ar gb (aF aQ (pvl 1 bR) af (fun _ _=>rfl)) ao (ax _)) (gP (ar gb (ay aN aX.g T.len bQ (ae (pvl 1 bR) ah) (hn:=aX.n) (hdb:=aX.d)) af (ax _)) (jY (ar Ew wL (pvl 6 iH) (by with_unfolding_all rfl)))))) (aj (aR (ak bP (pvl 5 lO) af))) aw) (aj (bG (bN PySem.F.plainAttrs_list PySem.F.slot_list_append PySem.F.type_list_append cG (pvl 4 gc) (ae (dE gv df.g T.tuple hV (ae (pvl 6 iH) ah) (hn:=df.n) (hdb:=df.d)) ah)))))))) (ai (aG (ar gb (ay aN aX.g T.len bQ (ae (pvl 0 fe) ah) (hn:=aX.n) (hdb:=aX.d)) (pvl 3 gi) (ax _)) (aj (aR (ak bP (ay (uz rfl) ee.g T.min AE (ae (ay aN aX.g T.len bQ (ae (pvl 0 fe) ah) (hn:=aX.n) (hdb:=aX.d)) (ae (pvl 3 gi) ah)) (hn:=ee.n) (hdb:=ee.d)) af))) aw) (ai (aG (ik (gp (aJ G_law_is_web (hr.mono (by decide)) jH.g fN.m fN.F.kp fN.b .nil (db hq) (ae (pvl 2 fm) (ae (pvl 4 gc) ah)) (hdb:=jH.d)))) (aj (aR ao)) aw) (aj (aR (jm (ae (pvl 2 fm) (ae (dE gv df.g T.tuple hV (ae (pvl 4 gc) ah) (hn:=df.n) (hdb:=df.d)) ah))))))))))))),?_⟩;rw [show L2.start ["rows","words","many","lines","roads","at","numbers"] [V.ref a]=[some (V.ref a),none,none,none,none,none,none] from rfl];unfold tSl uC tNoPart;refine bW fun N0 h0=>?_;walk_at "rd";obtain ⟨y0,e0⟩:∃ y,Y[0]?=some y:=⟨_,List.getElem?_eq_getElem (List.length_pos_iff.mpr yn)⟩;obtain ⟨w1,w2,w3⟩:=(hY y0 (List.mem_of_getElem? e0)).wsp;refine ixL ea (v:=V.str y0) (cV (Int.le_refl 0) (by show (Y.map V.str)[0]?=_;rw [List.getElem?_map,e0];rfl)) ⟨by simp [tyV],y0,rfl,_,rfl,rfl,w1,fun l nl=>h0 _ _ (bW fun N1 h1=>?_)⟩;have s1:=Same.new (HO.lst ((Txt.split y0 (Str.ofString " ")).map V.str)) nl;have el:upd H l (HO.lst ((Txt.split y0 (Str.ofString " ")).map V.str)) l=some (.lst ((wsp y0).map V.str)):=ag;generalize upd H l (HO.lst ((Txt.split y0 (Str.ofString " ")).map V.str))=H1 at s1 el ⊢;have hk:((¬ ∃ ns,Row1 hWeb 1 y0 ns)/\∀ H',Same H H'->Q (.int 1) H') \/
       ∃ m nss,Ldr Y m nss/\(nss.length+1<lns m->(∀ y,Y[nss.length+1]?=some y->¬ ∃ ns,Row1 hRoad 4 y ns)/\∀ H',Same H H'->Q (.int (nss.length+2:Nat)) H') /\
         (nss.length+1=lns m->lns m<Y.length->∀ H',Same H H'->Q (.int (lns m+1:Nat)) H') /\
         (rn Y m nss->¬ Good m (nss.map rdOf)->∀ H',Same H H'->Q (.str (Str.ofString "web")) H') /\
         (rn Y m nss->Good m (nss.map rdOf)->∀ q t ps H',Same H H'->H' q=some (.tup [.int (m:Int),.ref t])->H' t=some (.tup (ps.map V.ref))->RoadsAt H' ps (nss.map rdOf)->Q (.ref q) H'):=by
     cases dv with
     | bad n =>
       rcases du with ⟨rfl,h⟩|⟨m,nss,L,lt,h,rfl⟩|⟨m,nss,L,e,lt,rfl⟩
       . exact .inl ⟨h y0 e0,k⟩
       . exact .inr ⟨m,nss,L,fun _=>⟨h,k⟩,fun e=>absurd e (by omega),fun f=>absurd f.2.1 (by omega),fun f=>absurd f.2.1 (by omega)⟩
       . exact .inr ⟨m,nss,L,fun h=>absurd h (by omega),fun _ _=>k,fun f=>absurd f.2.2 (by omega),fun f=>absurd f.2.2 (by omega)⟩
     | web =>
       obtain ⟨m,nss,f,ng⟩:=du;exact .inr ⟨m,nss,f.1,fun h=>absurd f.2.1 (by omega),fun _ h=>absurd f.2.2 (by omega),fun _ _=>k,fun _ g=>absurd g ng⟩
     | ok m rs =>
       obtain ⟨nss,f,rfl,g⟩:=du;exact .inr ⟨m,nss,f.1,fun h=>absurd f.2.1 (by omega),fun _ h=>absurd f.2.2 (by omega),fun _ ng=>absurd g ng,fun _ _=>k⟩
   clear k du;walk_at "rd";refine ⟨_,.inl (SqL.of el),?_⟩;rw [List.length_map];rcases hk with ⟨h,k⟩|⟨m,nss,L,kA,kB,kC,kD⟩
   . by_cases c2:((wsp y0).length:Int)=2
     case neg =>
       rw [if_pos c2];exact k _ s1
     rw [if_neg (fun z=>z c2)];obtain ⟨x0,x1,ew⟩:∃ x0 x1,wsp y0=[x0,x1]:=by
       have c2':(wsp y0).length=2:=(by omega)
       match hh:wsp y0,c2' with
       | [a,b],_=>exact ⟨a,b,rfl⟩
     rw [ew] at el w3;refine ixL el (v:=V.str x0) rfl ⟨rfl,?_⟩;by_cases c3:x0=Str.ofString "web"
     case neg =>
       rw [if_pos (fun z=>c3 (by injection z))];exact k _ s1
     rw [if_neg (fun z=>z (congrArg V.str c3))];refine ixL el (v:=V.str x1) rfl ⟨x1,rfl,w3 x1 (by simp),fun n hn=>absurd ⟨[n],[x1],by rw [ew,c3];rfl,by rw [List.map_cons,hn];rfl,rfl⟩ h,fun hn H2 s2=>?_⟩;dsimp only;rw [if_pos rfl];exact k _ (s1.trans s2)
   obtain ⟨y0',e0',ws,ew,em,l1⟩:=L.one;have:y0'=y0:=by rw [e0] at e0';exact (Option.some.inj e0').symm
   subst this;obtain ⟨x1,rfl,hx1⟩:∃ x1,ws=[x1]/\numW x1=some m:=by
     have l2:=congrArg List.length em;rw [List.length_map] at l2
     match ws,em,l2 with
     | [x],em,_=>exact ⟨x,rfl,(List.cons.inj em).1⟩
     | [],_,l2=>cases l2
     | _::_::_,_,l2=>cases l2
   rw [ew] at el w3;rw [ew,if_neg (by simp)];refine ixL el (v:=V.str hWeb) rfl ⟨rfl,?_⟩;rw [if_neg (fun z=>z rfl)];refine ixL el (v:=V.str x1) rfl ⟨x1,rfl,w3 x1 (by simp),fun n hn H2 s2=>?_,fun hn=>absurd (hn.symm.trans hx1) (by intro z;cases z)⟩;have:m=n:=Option.some.inj (hx1.symm.trans hn);subst this;dsimp only;rw [if_neg (fun z=>by cases z)];refine h1 _ _ (bW fun N2 h2=>?_);walk_at "rd";refine ixL (s2 _ _ el) (v:=V.str x1) rfl ⟨x1,rfl,w3 x1 (by simp),fun n' hn' H3 s3=>?_,fun hn'=>absurd (hn'.symm.trans hx1) (by intro z;cases z)⟩;have:m=n':=Option.some.inj (hx1.symm.trans hn');subst this;refine h2 _ _ (bW fun N3 h3=>?_);walk_at "rd";refine ⟨av (by simp),fun p1 np1=>?_⟩;have s4:=Same.new (HO.lst [V.int 1,V.int (m:Int)]) np1;have s14:=s1.trans (s2.trans (s3.trans s4));generalize eH4:upd H3 p1 (HO.lst [V.int 1,V.int (m:Int)])=H4 at s4 s14;have e4:H4 p1=some (.lst [V.int 1,V.int (m:Int)]):=by rw [<- eH4];exact ag
   clear s1 s2 s3 s4 el eH4 np1 h0 h1 h2 w1 w2 w3 hn hn';have lp:=uE m;have LL:=L.len;have ly:=L.lenY;have go:N3 [some (V.ref a),some (V.ref l),some (V.int (m:Int)),some (V.int (lns m:Int)),none,none,none] H4:=by
     refine h3 _ _ (bW fun N4 h4=>?_);walk_at "rd";refine ⟨av (by simp),fun lr nlr=>h4 _ _ (bW fun N5 h5=>?_)⟩;have s5:=s14.trans (Same.new (HO.lst []) nlr);have e5:upd H4 lr (HO.lst []) lr=some (.lst (([]:List Addr).map V.ref)):=ag;have nlr0:H lr=none:=s14.free nlr;generalize upd H4 lr (HO.lst [])=H5 at s5 e5 ⊢;clear s14 e4 nlr h3 h4;walk_at "rd";refine ⟨_,.inl (SqL.of (s5 _ _ ea)),_,_,⟨rfl,rfl⟩,_,_,⟨rfl,rfl⟩,?_⟩;rw [List.length_map];have hmn:∃ d:Nat,(if (Y.length:Int)<(lns m:Int) then (Y.length:Int) else (lns m:Int))=d/\d<=lns m/\d<=Y.length/\(d=lns m\/d=Y.length):=by
       by_cases c:(Y.length:Int)<(lns m:Int)
       . exact ⟨Y.length,by rw [if_pos c],by omega,by omega,.inr rfl⟩
       . exact ⟨lns m,by rw [if_neg c],by omega,by omega,.inl rfl⟩
     obtain ⟨d,hd,d1,d2,d3⟩:=hmn;rw [hd];have d0:1<=d:=by
       have:=List.length_pos_iff.mpr yn;omega
     refine ⟨⟨by decide,by decide,by omega,by omega⟩,?_⟩;rw [show ((d:Int) - 1).toNat=d - 1 by omega];refine C9 (fun i σ H6=>i<=nss.length/\Same H H6/\(∃ ps:List Addr,H6 lr=some (.lst (ps.map V.ref))/\ps.length=i/\RoadsAt H6 ps ((nss.map rdOf).take i))/\∃ v1 v5 v6,σ=[some (V.ref a),v1,some (V.int (m:Int)),some (V.int (lns m:Int)),some (V.ref lr),v5,v6]) ⟨Nat.zero_le _,s5,⟨[],e5,rfl,.nil⟩,_,_,_,rfl⟩ ?_ ?_
     . rintro i σ H6 N BB hBB hN hi ⟨il,s6,⟨ps,e6,pl,ro⟩,v1,v5,v6,rfl⟩;obtain ⟨y,hy⟩:∃ y,Y[i+1]?=some y:=⟨_,List.getElem?_eq_getElem (by omega)⟩;obtain ⟨w1,w2,w3⟩:=(hY y (List.mem_of_getElem? hy)).wsp;refine hBB _ _ (bW fun M1 k1=>?_);walk_at "rd";refine ixL (s6 _ _ ea) (v:=V.str y) (cV (by omega) (by rw [show (1+(i:Int)).toNat=i+1 by omega,List.getElem?_map,hy];rfl)) ⟨by simp [tyV],y,rfl,_,rfl,rfl,w1,fun lw nlw=>k1 _ _ (bW fun M2 k2=>?_)⟩;have s7:=Same.new (HO.lst ((Txt.split y (Str.ofString " ")).map V.str)) nlw;have e7:upd H6 lw (HO.lst ((Txt.split y (Str.ofString " ")).map V.str)) lw=some (.lst ((wsp y).map V.str)):=ag;generalize upd H6 lw (HO.lst ((Txt.split y (Str.ofString " ")).map V.str))=H7 at s7 e7 ⊢;obtain ⟨x0,ws,ew⟩:∃ w ws,wsp y=w::ws:=by
         cases e:wsp y with
         | nil=>exact absurd e (qO _ _)
         | cons w ws=>exact ⟨w,ws,rfl⟩
       rw [ew] at e7 w2 w3;have w3':∀ w∈ws,WOk w:=fun w hw=>w3 w (.tail _ hw);rw [List.length_cons] at w2;walk_at "rd";refine ⟨lw,_,rfl,SqL.of e7,fun lt nlt=>?_⟩;rw [A4 _ (by decide)];have s8:=Same.new (HO.lst (ws.map V.str)) nlt;have e8:upd H7 lt (HO.lst (ws.map V.str)) lt=some (.lst (ws.map V.str)):=ag;refine ⟨lt,rfl,⟨_,SqL.of e8⟩,fun lc nlc=>?_⟩;change tI _ _ _ _ _ _ _ (upd (upd H7 lt (HO.lst (ws.map V.str))) lc (HO.lst []));have nlc:upd H7 lt (HO.lst (ws.map V.str)) lc=none:=nlc;generalize upd H7 lt (HO.lst (ws.map V.str))=G3 at s8 e8 nlc ⊢;refine k7 (K:=K) (c:=true) (a:=lt) (xs:=ws.map V.str) (fun i ys σ H2=>Same G3 H2/\H2 lc=some (.lst ys)/\ys=(ws.take i).map (fun w=>rj (numW w))/\∃ v,σ=[v]) ⟨Same.new _ nlc,ag,rfl,_,rfl⟩ (fun i ys σ H2 _ ⟨z,_⟩=>SqL.of (z _ _ e8)) ?_ ?_
       . rintro j x ys σ H9 N2 hN2 hj ⟨s5,h2,rfl,v,rfl⟩;obtain ⟨w,hw,rfl⟩:=List.getElem?_map_some hj;have et:ws.take (j+1)=ws.take j++[w]:=(by rw [List.take_succ,hw];rfl);have hil:j<ws.length:=(List.getElem?_eq_some_iff.mp hw).1;have wm:=List.mem_of_getElem? hw;walk_at "rd";have nx:∀ (x:V) (H5:Hp),x=rj (numW w)->Same H9 H5->H5 lc=some (.lst ((ws.take j).map (fun w=>rj (numW w))))/\((ws.take j).map (fun w=>rj (numW w))).length<sizeLine/\N2 ((ws.take j).map (fun w=>rj (numW w))++[x]) [some (V.str w)] (upd H5 lc (.lst ((ws.take j).map (fun w=>rj (numW w))++[x]))):=fun x H5 ex s6=>by
           refine ⟨s6 _ _ h2,cz (by rw [List.length_map,List.length_take];omega),hN2 _ _ _ ⟨?_,ag,?_,_,rfl⟩⟩
           . exact fun b o e=>by rw [am (az e nlc)];exact s6 _ _ (s5 _ _ e)
           . rw [et,List.map_append,ex]
             rfl
         exact ⟨w,rfl,w3' w wm,fun n hn H3 s6=>nx _ H3 (by rw [hn];rfl) s6,fun hn H3 s6=>nx _ H3 (by rw [hn];rfl) s6⟩
       . rintro ys σ H9 ⟨s9,h2,rfl,v,rfl⟩;rw [List.length_map,List.take_length] at h2;have s69:=s7.trans (s8.trans s9);have e79:=s9 _ _ (s8 _ _ e7);have sH9:=s6.trans s69;have e69:=s69 _ _ e6;refine k2 _ _ (bW fun M3 k3=>?_);walk_at "rd";refine ixL e79 (v:=V.str x0) (cV (Int.le_refl 0) rfl) ⟨rfl,?_⟩;have bad:(¬ ∃ ns,Row1 hRoad 4 y ns)->Q (V.int (1+(i:Int)+1)) H9:=fun ng=>by
           have:i=nss.length:=by
             refine Nat.le_antisymm il (Nat.le_of_not_lt fun z=>?_);obtain ⟨ns',hn'⟩:∃ ns',nss[i]?=some ns':=⟨_,List.getElem?_eq_getElem z⟩;obtain ⟨y',hy',r'⟩:=L.row i ns' hn';rw [hy] at hy';cases hy';exact ng ⟨_,r'⟩
           have kk:=(kA (by omega)).2 H9 sH9;rw [<- this,show ((i+2:Nat):Int)=1+(i:Int)+1 by omega] at kk;exact kk
         by_cases c0:x0=Str.ofString "road"
         case neg =>
           rw [if_pos (fun z=>c0 (by injection z))];refine bad ?_;rintro ⟨ns,ws',e,_⟩;rw [ew] at e;exact c0 (List.cons.inj e).1
         rw [if_neg (fun z=>z (congrArg V.str c0))];refine ⟨_,.inl (SqL.of e79),?_⟩;rw [List.length_map,List.length_cons];by_cases c5:((ws.length+1:Nat):Int)=5
         case neg =>
           rw [if_pos c5];refine bad ?_;rintro ⟨ns,ws',e,em',l4⟩;rw [ew] at e;have:=(List.cons.inj e).2;subst this;have:=congrArg List.length em';rw [List.length_map,List.length_map] at this;omega
         rw [if_neg (fun z=>z c5)];refine ⟨lc,_,rfl,.inl (SqL.of h2),rfl,?_,?_⟩
         . rw [List.all_eq_true];intro x hx;obtain ⟨w,hw,rfl⟩:=List.mem_map.mp hx;cases numW w <;> rfl
         rcases Ik ws with ⟨bd,e⟩|⟨ns,en,e⟩
         . refine ⟨_,rfl,?_⟩;rw [e,if_pos (by decide)];refine bad ?_;rintro ⟨ns,ws',e,em',l4⟩;rw [ew] at e;have:=(List.cons.inj e).2;subst this;obtain ⟨w,hw,z⟩:=bd;have:numW w∈ns.map some:=(by rw [<- em'];exact List.mem_map.mpr ⟨w,hw,rfl⟩);rw [z] at this;obtain ⟨n,_,e⟩:=List.mem_map.mp this;cases e
         . refine ⟨_,rfl,?_⟩;rw [e,if_neg (by decide)];have n4:ns.length=4:=by
             have:=congrArg List.length en;rw [List.length_map,List.length_map] at this;omega
           have r:Row1 hRoad 4 y ns:=⟨ws,by rw [ew,c0];rfl,en,n4⟩;have il2:i<nss.length:=by
             refine Nat.lt_of_le_of_ne il fun z=>?_;exact (kA (by omega)).1 y (by rw [<- z];exact hy) ⟨ns,r⟩
           obtain ⟨ns',hn'⟩:∃ ns',nss[i]?=some ns':=⟨_,List.getElem?_eq_getElem il2⟩;obtain ⟨y',hy',r'⟩:=L.row i ns' hn';rw [hy] at hy';cases hy';have en':=r.uniq r';subst en';have et:(nss.map rdOf).take (i+1)=(nss.map rdOf).take i++[rdOf ns]:=(by rw [List.take_succ,List.getElem?_map,hn'];rfl);rw [Ct en] at h2;refine k3 _ _ ?_;walk_at "rd";refine ⟨tyL e69,_,.inl ⟨SqL.of h2,fun qt nqt=>?_⟩⟩;have s10:=Same.new (HO.tup (vNs ns)) nqt;have nql:qt≠lr:=fun z=>by rw [z,e69] at nqt;cases nqt
           refine pz (s10 _ _ e69) (cz (by rw [List.length_map];omega)) (hN _ _ ⟨il2,?_,⟨ps++[qt],by rw [ag,List.map_append];rfl,by rw [List.length_append,pl];rfl,?_⟩,_,_,_,rfl⟩)
           . exact fun b o e=>by rw [am (az e nlr0)];exact s10 _ _ (sH9 _ _ e)
           . rw [et];refine wT (.cons ?_ .nil) (Paired.imp' (fun b r hb=>?_) ro)
             . show upd _ lr _ qt=some (.tup (eV (rdOf ns)));rw [am nql,Ej n4];exact ag
             . rw [am (uH hb e6 (by intro z;cases z))];exact s10 _ _ (s69 _ _ hb)
     . rintro BB σ H6 hBB ⟨il,s6,⟨ps,e6,pl,ro⟩,v1,v5,v6,rfl⟩;refine hBB _ _ (h5 _ _ ?_);walk_at "rd";refine ⟨_,.inl (SqL.of (s6 _ _ ea)),?_⟩;rw [List.length_map];by_cases cl:(Y.length:Int)=(lns m:Int)
       case neg =>
         rw [if_pos cl];refine ⟨_,.inl (SqL.of (s6 _ _ ea)),_,_,⟨rfl,rfl⟩,?_⟩;rw [List.length_map];by_cases c:(lns m:Int)<(Y.length:Int)
         . rw [if_pos c];exact kB (by omega) (by omega) H6 s6
         . rw [if_neg c];have kk:=(kA (by omega)).2 H6 s6;rw [show ((nss.length+2:Nat):Int)=(Y.length:Int)+1 by omega] at kk;exact kk
       rw [if_neg (fun z=>z cl)];have fu:rn Y m nss:=⟨L,by omega,by omega⟩;rw [List.take_of_length_le (by rw [List.length_map];omega)] at ro;refine ⟨m,lr,ps,nss.map rdOf,rfl,e6,ro,by rw [List.length_map];omega,fun r hr=>?_,fun b H7 s7 hb=>⟨_,rfl,?_⟩⟩
       . obtain ⟨ns,_,rfl⟩:=List.mem_map.mp hr;exact ⟨Int.natCast_nonneg _,Int.natCast_nonneg _⟩
       . by_cases bt:b=true
         . rw [if_neg (by rw [bt];decide)];refine ⟨_,.inl ⟨SqL.of (s7 _ _ e6),fun t nt=>⟨av (by simp),fun q nq=>?_⟩⟩⟩;have u1:=Same.new (HO.tup (ps.map V.ref)) nt;have u2:=Same.new (HO.tup [V.int (m:Int),V.ref t]) nq;exact kD fu (hb.mp bt) q t ps _ (s6.trans (s7.trans (u1.trans u2))) ag (u2 _ _ ag) (RoadsAt.same (s7.trans (u1.trans u2)) ro)
         . rw [if_pos (Bool.eq_false_iff.mpr bt)];exact kC fu (fun g=>bt (hb.mpr g)) H7 (s6.trans s7)
   by_cases c1:1<=m
   . rw [if_pos (by omega)];refine .inr ?_;by_cases c24:m<=24
     . rw [if_pos (by omega)];refine ixL e4 (v:=V.int (m:Int)) rfl ?_;unfold lns at go;rw [if_pos ⟨c1,c24⟩] at go;exact go
     . rw [if_neg (by omega)];refine ixL e4 (v:=V.int 1) rfl ?_;unfold lns at go;rw [if_neg (fun z=>c24 z.2)] at go;exact go
   . rw [if_neg (by omega)];refine .inr (ixL e4 (v:=V.int 1) rfl ?_);unfold lns at go;rw [if_neg (fun z=>c1 z.1)] at go;exact go
def vf (T:Txt K mg):Sp:=fun vs H Q _=>∃ (a:Addr) (ns:List Int) (k:Int),vs=[.ref a,.int k]/\SqL K H a (ns.map V.int)/\0<=k/\∀ v,Q (.int v) H
abbrev cN:Stmt:=top 30
theorem Cd:FnScope ["script","k"] ["script","k"] (aa cN):=FnScope.of (by kernel_rfl)
theorem lA:NmL (aa cN) "script":=.of (by kernel_rfl)
theorem sr:NmL (aa cN) "k":=.of (by kernel_rfl)
theorem kf:NmG (aa cN) "len":=.of (by kernel_rfl)
theorem Ch (T:Txt K mg) (hq:bH (CXe P w)) {f:Addr} {fd:FuncData} (D:Df K mg "_law_cell" cN ["script","k"] f fd):FnOk P w K mg base (CXe P w) 1 f fd ["script","k"] (vf T):=by
 refine D.F.okC Cd (fun vs H Q E h=>?_) (fun cdv A outer s H vs Q E hr h=>?_)
 . obtain ⟨a,ns,i,rfl,_⟩:=h
   rfl
 . obtain ⟨a,ns,i,rfl,ha,h0,k⟩:=h;refine ⟨_,(ai (aG (ar uM (pvl 1 sr) (ay aN kf.g T.len bQ (ae (pvl 0 lA) ah) (hn:=kf.n) (hdb:=kf.d)) (ax _)) (aj (aR (aF aQ (pvl 0 lA) (pvl 1 sr) (fun _ _=>rfl)))) aw) (aj (aR af))),?_⟩;rw [show L2.start ["script","k"] [V.ref a,V.int i]=[some (V.ref a),some (V.int i)] from rfl];walk_at "rd";refine ⟨_,.inl ha,?_⟩;rw [List.length_map];by_cases c:i<(ns.length:Int)
   . rw [if_pos c];have hi:i.toNat<ns.length:=(by omega);exact ixS ha (cV h0 (v:=.int ns[i.toNat]) (by rw [List.getElem?_map,List.getElem?_eq_getElem hi];rfl)) (k _)
   . rw [if_neg c];exact k 0
theorem GU (c k:Int) (k0:0<=k) (k1:k<=1000):∃ a b d:Int,(c % 998244353+7919*k+11)*48271 % 2147483647=a/\a*a % 2147483629=b/\(b+104729*k+7)*b % 1000000007=d/\CMul 7919 k/\CMul (c % 998244353+7919*k+11) 48271/\CMul a a/\CMul 104729 k/\CMul (b+104729*k+7) b/\CMul d 16807/\0<=d*16807 % 2147483647 / 8/\d*16807 % 2147483647 / 8<=2147483647:=by
 have em:∀ (x n:Int),0<n->0<=x % n/\x % n<n:=fun x n h=>⟨Int.emod_nonneg x (Int.ne_of_gt h),Int.emod_lt_of_pos x h⟩;refine ⟨_,_,_,rfl,rfl,rfl,?_⟩;have h1:=em ((c % 998244353+7919*k+11)*48271) 2147483647 (by decide);generalize (c % 998244353+7919*k+11)*48271 % 2147483647=a at h1 ⊢;have h2:=em (a*a) 2147483629 (by decide);generalize a*a % 2147483629=b at h2 ⊢;have h3:=em ((b+104729*k+7)*b) 1000000007 (by decide);generalize (b+104729*k+7)*b % 1000000007=d at h3 ⊢;have h4:=em (d*16807) 2147483647 (by decide);exact ⟨.inl ⟨by decide,by decide⟩,.inr ⟨by decide,by decide⟩,.inl ⟨by omega,by omega⟩,.inl ⟨by decide,by decide⟩,.inr ⟨by omega,by omega⟩,.inr ⟨by decide,by decide⟩,by omega,by omega⟩
def sX (T:Txt K mg):Sp:=fun vs H Q _=>∃ (c k:Int),vs=[.int c,.int k]/\0<=k/\k<=1000/\∀ v,0<=v->v<=2147483647->Q (.int v) H
abbrev cr:Stmt:=top 31
theorem jU:FnScope ["cell","k","m"] ["cell","k"] (aa cr):=FnScope.of (by kernel_rfl)
theorem uP:NmL (aa cr) "cell":=.of (by kernel_rfl)
theorem qf:NmL (aa cr) "k":=.of (by kernel_rfl)
theorem cD:NmL (aa cr) "m":=.of (by kernel_rfl)
theorem Aq (T:Txt K mg) (hq:bH (CXe P w)) {f:Addr} {fd:FuncData} (D:Df K mg "_law_mixed" cr ["cell","k"] f fd):FnOk P w K mg base (CXe P w) 1 f fd ["cell","k"] (sX T):=by
 refine D.F.okC jU (fun vs H Q E h=>?_) (fun cdv A outer s H vs Q E hr h=>?_)
 . obtain ⟨c,i,rfl,_⟩:=h
   rfl
 . obtain ⟨c,i,rfl,i0,i1,k⟩:=h;obtain ⟨a,b,d,e1,e2,e3,h1,h2,h3,h4,h5,h6,h7,h8⟩:=GU c i i0 i1;refine ⟨_,(ai (ap (i:=2) jU.nd rfl (Or.inl cD.l) (ak aL (ak lM (ak bP (ak bP (ak aL (pvl 0 uP) af) (ak lM af (pvl 1 qf))) af) af) af)) (ai (ap (i:=2) jU.nd rfl (Or.inl cD.l) (ak aL (ak lM (pvl 2 cD) (pvl 2 cD)) af)) (ai (ap (i:=2) jU.nd rfl (Or.inl cD.l) (ak aL (ak lM (ak bP (ak bP (pvl 2 cD) (ak lM af (pvl 1 qf))) af) (pvl 2 cD)) af)) (aj (aR (ak bL (ak aL (ak lM (pvl 2 cD) af) af) af)))))),?_⟩;rw [show L2.start ["cell","k","m"] [V.int c,V.int i]=[some (V.int c),some (V.int i),none] from rfl];walk_at "rd";rw [e1,e2,e3];exact ⟨by decide,h1,h2,by decide,h3,by decide,h4,h5,by decide,h6,by decide,⟨by decide,by decide⟩,k _ h7 h8⟩
def pP (T:Txt K mg):Sp:=fun vs H Q _=>∃ (a:Addr) (ns:List Int) (m:Int),vs=[.ref a,.int m]/\SqL K H a (ns.map V.int)/\0<=m/\m<=800/\∀ (l:Addr) (xs:List Int) (H':Hp),H l=none->Same H H'->H' l=some (.lst (xs.map V.int))->(xs.length:Int)=m->Q (.ref l) H'
abbrev aZ:Stmt:=top 32
theorem fP:FnScope ["script","many","rest","numbers","k"] ["script","many"] (aa aZ):=FnScope.of (by kernel_rfl)
theorem jK:NmL (aa aZ) "script":=.of (by kernel_rfl)
theorem sU:NmL (aa aZ) "many":=.of (by kernel_rfl)
theorem cq:NmL (aa aZ) "rest":=.of (by kernel_rfl)
theorem dz:NmL (aa aZ) "numbers":=.of (by kernel_rfl)
theorem jz:NmL (aa aZ) "k":=.of (by kernel_rfl)
theorem cZ:NmG (aa aZ) "_law_cell":=.of (by kernel_rfl)
theorem qX:NmG (aa aZ) "range":=.of (by kernel_rfl)
theorem cP:NmG (aa aZ) "_law_mixed":=.of (by kernel_rfl)
theorem xG (T:Txt K mg) (hq:bH (CXe P w)) {f:Addr} {fd:FuncData} (D:Df K mg "_law_numbers" aZ ["script","many"] f fd) {gn:Addr} {u7:FuncData} (dU:Df K mg "_law_cell" cN ["script","k"] gn u7) (G_law_cell:FnOk P w K mg base (CXe P w) 1 gn u7 ["script","k"] (vf T)) {fq:Addr} {ug:FuncData} (dm:Df K mg "_law_mixed" cr ["cell","k"] fq ug) (G_law_mixed:FnOk P w K mg base (CXe P w) 1 fq ug ["cell","k"] (sX T)):FnOk P w K mg base (CXe P w) 2 f fd ["script","many"] (pP T):=by
 refine D.F.okC fP (fun vs H Q E h=>?_) (fun cdv A outer s H vs Q E hr h=>?_)
 . obtain ⟨a,ns,m,rfl,_⟩:=h
   rfl
 . obtain ⟨a,ns,m,rfl,ha,m0,m1,k⟩:=h;refine ⟨_,(ai (ap (i:=2) fP.nd rfl (Or.inl cq.l) (aJ G_law_cell (hr.mono (by decide)) cZ.g dU.m dU.F.kp dU.b .nil (db hq) (ae (pvl 0 jK) (ae af ah)) (hdb:=cZ.d))) (ai (ap (i:=3) fP.nd rfl (Or.inl dz.l) (cj ah)) (ai (e9 PassesOwn.never rfl (yU qX.g T.range (ae (pvl 1 sU) ah)) (bg (i:=4) fP.nd rfl (Or.inl jz.l)) (aj (aG (ar cA (ak aL (aJ G_law_cell (hr.mono (by decide)) cZ.g dU.m dU.F.kp dU.b .nil (db hq) (ae (pvl 0 jK) (ae af ah)) (hdb:=cZ.d)) af) af (ax _)) (ai (bG (bN PySem.F.plainAttrs_list PySem.F.slot_list_append PySem.F.type_list_append cG (pvl 3 dz) (ae (ak aL (pvl 2 cq) (ak vS af af)) ah))) (aj (ap (i:=2) fP.nd rfl (Or.inl cq.l) (ak FX (pvl 2 cq) (ak vS af af))))) (aj (bG (bN PySem.F.plainAttrs_list PySem.F.slot_list_append PySem.F.type_list_append cG (pvl 3 dz) (ae (ak bP (ak lM (aJ G_law_mixed (hr.mono (by decide)) cP.g dm.m dm.F.kp dm.b .nil (db hq) (ae (pvl 2 cq) (ae (pvl 4 jz) ah)) (hdb:=cP.d)) af) (aJ G_law_mixed (hr.mono (by decide)) cP.g dm.m dm.F.kp dm.b .nil (db hq) (ae (pvl 2 cq) (ae (ak bP (pvl 4 jz) af) ah)) (hdb:=cP.d))) ah))))))) (aj (aR (pvl 3 dz)))))),?_⟩;rw [show L2.start ["script","many","rest","numbers","k"] [V.ref a,V.int m]=[some (V.ref a),some (V.int m),none,none,none] from rfl];walk_at "rd";refine ⟨a,ns,1,rfl,ha,by decide,fun au=>⟨by decide,fun l nl=>⟨by omega,by omega,?_⟩⟩⟩;refine mB (fun i σ H2=>Same H H2/\∃ (au:Int) (xs:List Int) (v4:Option V),H2 l=some (.lst (xs.map V.int))/\xs.length=i/\σ=[some (.ref a),some (.int m),some (.int au),some (.ref l),v4]) ⟨Same.new _ nl,au,[],_,ag,rfl,rfl⟩ ?_ ?_
   . rintro i σ H2 N hN hi ⟨s2,au,xs,v4,e2,xl,rfl⟩;rw [Int.zero_add];have sa:=Same.seq s2 ha;have add2:∀ (z au:Int),N [some (V.ref a),some (V.int m),some (V.int au),some (V.ref l),some (V.int (i:Int))] (upd H2 l (.lst (xs.map V.int++[V.int z]))):=fun z au =>
       hN _ _ ⟨s2.put nl _,au,xs++[z],_,by rw [ag,List.map_append];rfl,by rw [List.length_append,xl];rfl,rfl⟩
     walk_at "rd";refine ⟨a,ns,0,rfl,sa,by decide,fun c=>⟨c,rfl,by decide,?_⟩⟩;have p20:Jc 10 20:=⟨by decide,by decide,by decide⟩;by_cases z:c % 2=0
     . rw [if_pos z];exact ⟨tyL e2,p20,by decide +kernel,pz e2 (cz (by rw [List.length_map];omega)) ⟨p20,⟨by decide +kernel,by decide +kernel⟩,add2 _ _⟩⟩
     . rw [if_neg z];exact ⟨tyL e2,au,(i:Int),rfl,by omega,by omega,fun x x0 x1=>⟨x,rfl,.inr ⟨by decide,by decide⟩,au,(i:Int)+100,rfl,by omega,by omega,fun y _ _=>⟨y,rfl,pz e2 (cz (by rw [List.length_map];omega)) (add2 _ _)⟩⟩⟩
   . rintro σ H2 ⟨s2,au,xs,v4,e2,xl,rfl⟩;walk_at "rd";exact k l xs H2 nl s2 e2 (by omega)
def u9 (T:Txt K mg):Sp:=fun vs H Q _=>∃ (c:Int),vs=[.int c]/\∀ t,2<=t->t<=1000000->Q (.int t) H
abbrev dS:Stmt:=top 33
theorem Ci:FnScope ["rest"] ["rest"] (aa dS):=FnScope.of (by kernel_rfl)
theorem jy:NmL (aa dS) "rest":=.of (by kernel_rfl)
theorem Br (T:Txt K mg) (hq:bH (CXe P w)) {f:Addr} {fd:FuncData} (D:Df K mg "_law_toll" dS ["rest"] f fd):FnOk P w K mg base (CXe P w) 1 f fd ["rest"] (u9 T):=by
 refine D.F.okC Ci (fun vs H Q E h=>?_) (fun cdv A outer s H vs Q E hr h=>?_)
 . obtain ⟨c,rfl,_⟩:=h
   rfl
 . obtain ⟨c,rfl,k⟩:=h;refine ⟨_,(ai (aG (ar cA (ak aL (pvl 0 jy) af) af (ax _)) (aj (aR (ak bP af (ak aL (ak bL (pvl 0 jy) af) af)))) aw) (aj (aR (ak bP af (ak aL (ak bL (pvl 0 jy) af) af))))),?_⟩;rw [show L2.start ["rest"] [V.int c]=[some (V.int c)] from rfl];walk_at "rd";have a1:=Int.emod_nonneg (c / 8) (show (999999:Int)≠0 by decide);have a2:=Int.emod_lt_of_pos (c / 8) (show (0:Int)<999999 by decide);have a3:=Int.emod_nonneg (c / 8) (show (3:Int)≠0 by decide);have a4:=Int.emod_lt_of_pos (c / 8) (show (0:Int)<3 by decide);refine ⟨by decide,?_⟩;by_cases z:c % 8=0
   . rw [if_pos z];exact ⟨⟨by decide,by decide⟩,by decide,k _ (by omega) (by omega)⟩
   . rw [if_neg z];exact ⟨⟨by decide,by decide⟩,by decide,k _ (by omega) (by omega)⟩
def wZ (T:Txt K mg):Sp:=fun vs H Q _=>∃ (a:Addr) (ns:List Int),vs=[.ref a]/\H a=some (.lst (ns.map V.int))/\25<=ns.length/\ns.length<=1000 /\
 ∀ (t l:Addr) (m:Int) (ps:List Addr) (rs:List Road) (H':Hp),H t=none->H l=none->Same H H'->H' t=some (.tup [.int m,.ref l])->H' l=some (.lst (ps.map V.ref))->RoadsAt H' ps rs->Good m rs->Q (.ref t) H'
abbrev bc:Stmt:=top 34
theorem bF:FnScope ["numbers","head","many","names","k","roads","rest","near","there","back","road"] ["numbers"] (aa bc):=FnScope.of (by kernel_rfl)
theorem im:NmL (aa bc) "numbers":=.of (by kernel_rfl)
theorem dJ:NmL (aa bc) "head":=.of (by kernel_rfl)
theorem fj:NmL (aa bc) "many":=.of (by kernel_rfl)
theorem di:NmL (aa bc) "names":=.of (by kernel_rfl)
theorem bM:NmL (aa bc) "k":=.of (by kernel_rfl)
theorem gm:NmL (aa bc) "roads":=.of (by kernel_rfl)
theorem bE:NmL (aa bc) "rest":=.of (by kernel_rfl)
theorem jR:NmL (aa bc) "near":=.of (by kernel_rfl)
theorem f6:NmL (aa bc) "there":=.of (by kernel_rfl)
theorem gQ:NmL (aa bc) "back":=.of (by kernel_rfl)
theorem j7:NmL (aa bc) "road":=.of (by kernel_rfl)
theorem nN:NmG (aa bc) "range":=.of (by kernel_rfl)
theorem eK:NmG (aa bc) "_law_toll":=.of (by kernel_rfl)
theorem kN:NmG (aa bc) "len":=.of (by kernel_rfl)
theorem DP (T:Txt K mg) (hq:bH (CXe P w)) {f:Addr} {fd:FuncData} (D:Df K mg "_law_web" bc ["numbers"] f fd) {f9:Addr} {uY:FuncData} (d4:Df K mg "_law_toll" dS ["rest"] f9 uY) (G_law_toll:FnOk P w K mg base (CXe P w) 1 f9 uY ["rest"] (u9 T)):FnOk P w K mg base (CXe P w) 2 f fd ["numbers"] (wZ T):=by
 refine D.F.okC bF (fun vs H Q E h=>?_) (fun cdv A outer s H vs Q E hr h=>?_)
 . obtain ⟨a,ns,rfl,_⟩:=h
   rfl
 . obtain ⟨a,ns,rfl,ha,n25,n1,k⟩:=h;refine ⟨_,(ai (ap (i:=1) bF.nd rfl (Or.inl dJ.l) (aF aQ (pvl 0 im) af (fun _ _=>rfl))) (ai (ap (i:=2) bF.nd rfl (Or.inl fj.l) (ak bP af (ak aL (pvl 1 dJ) af))) (ai (aG (ar cA (ak aL (ak bL (pvl 1 dJ) af) af) af (ax _)) (aj (ap (i:=2) bF.nd rfl (Or.inl fj.l) (ak bP af (ak aL (ak bL (pvl 1 dJ) af) af)))) aw) (ai (ap (i:=3) bF.nd rfl (Or.inl di.l) (cj ah)) (ai (e9 PassesOwn.never rfl (yU nN.g T.range (ae (pvl 2 fj) ah)) (bg (i:=4) bF.nd rfl (Or.inl bM.l)) (aj (bG (bN PySem.F.plainAttrs_list PySem.F.slot_list_insert PySem.F.type_list_insert lv (pvl 3 di) (ae (ak aL (aF aQ (pvl 0 im) (ak bP (pvl 4 bM) af) (fun _ _=>rfl)) (ak bP (pvl 4 bM) af)) (ae (pvl 4 bM) ah)))))) (ai (ap (i:=5) bF.nd rfl (Or.inl gm.l) (cj ah)) (ai (e9 PassesOwn.never rfl (tM nN.g T.range (ae af (ae (pvl 2 fj) ah))) (bg (i:=4) bF.nd rfl (Or.inl bM.l)) (ai (ap (i:=6) bF.nd rfl (Or.inl bE.l) (ak bL (aF aQ (pvl 0 im) (ak bP (pvl 4 bM) af) (fun _ _=>rfl)) (ak bP (pvl 4 bM) af))) (ai (ap (i:=7) bF.nd rfl (Or.inl jR.l) (aF aQ (cj (ae (ak uy (pvl 4 bM) af) (ae af (ae (ak aL (pvl 6 bE) (pvl 4 bM)) (ae (ak aL (pvl 6 bE) (pvl 4 bM)) ah))))) (ak aL (ak bL (pvl 1 dJ) af) af) (fun _ _=>rfl))) (ai (ap (i:=6) bF.nd rfl (Or.inl bE.l) (ak bL (pvl 6 bE) (pvl 4 bM))) (ai (ap (i:=8) bF.nd rfl (Or.inl f6.l) (aJ G_law_toll (hr.mono (by decide)) eK.g d4.m d4.F.kp d4.b .nil (db hq) (ae (pvl 6 bE) ah) (hdb:=eK.d))) (ai (ap (i:=9) bF.nd rfl (Or.inl gQ.l) (aJ G_law_toll (hr.mono (by decide)) eK.g d4.m d4.F.kp d4.b .nil (db hq) (ae (ak bL (pvl 6 bE) af) ah) (hdb:=eK.d))) (ai (aG (ar cA (ak aL (ak bL (pvl 1 dJ) af) af) af (ax _)) (aj (ap (i:=9) bF.nd rfl (Or.inl gQ.l) (pvl 8 f6))) aw) (ai (ap (i:=6) bF.nd rfl (Or.inl bE.l) (ak bL (ak bL (pvl 6 bE) af) af)) (ai (ap (i:=10) bF.nd rfl (Or.inl j7.l) (jm (ae (aF aQ (pvl 3 di) (pvl 7 jR) (fun _ _=>rfl)) (ae (aF aQ (pvl 3 di) (pvl 4 bM) (fun _ _=>rfl)) (ae (pvl 8 f6) (ae (pvl 9 gQ) ah)))))) (ai (aG (ar cA (ak aL (pvl 6 bE) af) af (ax _)) (aj (ap (i:=10) bF.nd rfl (Or.inl j7.l) (jm (ae (aF aQ (pvl 3 di) (pvl 4 bM) (fun _ _=>rfl)) (ae (aF aQ (pvl 3 di) (pvl 7 jR) (fun _ _=>rfl)) (ae (pvl 9 gQ) (ae (pvl 8 f6) ah))))))) aw) (aj (bG (bN PySem.F.plainAttrs_list PySem.F.slot_list_insert PySem.F.type_list_insert lv (pvl 5 gm) (ae (ak aL (ak bL (pvl 6 bE) af) (ak bP (ay aN kN.g T.len bQ (ae (pvl 5 gm) ah) (hn:=kN.n) (hdb:=kN.d)) af)) (ae (pvl 10 j7) ah))))))))))))))) (aj (aR (jm (ae (pvl 2 fj) (ae (pvl 5 gm) ah)))))))))))),?_⟩;rw [show L2.start ["numbers","head","many","names","k","roads","rest","near","there","back","road"] [V.ref a]=[some (V.ref a),none,none,none,none,none,none,none,none,none,none] from rfl];have em:∀ (x n:Int),0<n->0<=x % n/\x % n<n:=fun x n h=>⟨Int.emod_nonneg x (Int.ne_of_gt h),Int.emod_lt_of_pos x h⟩;walk_at "rd";refine ixL ha (atG (by decide) (by omega)) ?_;generalize ns.getD (0:Int).toNat 0=c;refine ⟨_,rfl,by decide,_,rfl,⟨by decide,by decide⟩,by decide,?_⟩;have h1:=em c 7 (by decide);have h2:=em (c / 70) 17 (by decide);have h3:=em (c / 1190) 4 (by decide);apply IC (8+c / 70 % 17) (1+c % 7)
   . generalize 1+c % 7=m;intro h;exact h
   . exact fun h=>⟨_,rfl,⟨by decide,by decide⟩,by decide,h⟩
   intro m hm;have m1:1<=m:=by omega
   have m24:m<=24:=by omega
   clear hm;refine ⟨by decide,fun la nla=>⟨by omega,by omega,?_⟩⟩;refine mB (fun i σ H2=>Same H H2/\(∃ row,H2 la=some (.lst (row.map V.int))/\Labels i row)/\∃ v,σ=[some (V.ref a),some (V.int c),some (V.int m),some (V.ref la),v,none,none,none,none,none,none]) ⟨Same.new _ nla,⟨[],ag,.nil⟩,_,rfl⟩ ?_ ?_
   . rintro i σ H2 N hN hi ⟨s2,⟨row,e2,L⟩,v,rfl⟩;rw [Int.zero_add];have ll:=L.len;walk_at "rd";refine ⟨tyL e2,ixL (s2 _ _ ha) (atG (by omega) (by omega)) ⟨_,rfl,by omega,?_⟩⟩;have q:=em (ns.getD ((i:Int)+1).toNat 0) ((i:Int)+1) (by omega);generalize ns.getD ((i:Int)+1).toNat 0 % ((i:Int)+1)=w at q ⊢;refine Au e2 q.1 (by rw [List.length_map];omega) (cz (by rw [List.length_map];omega)) ?_;refine hN _ _ ⟨s2.put nla _,⟨_,?_,L.put w.toNat (by omega)⟩,_,rfl⟩;rw [ag,List.map_append,List.map_cons,List.map_take,List.map_drop]
   . rintro σ H2 ⟨s2,⟨ls,e2,L⟩,v,rfl⟩;walk_at "rd";have L':Labels m.toNat ls:=L;have ll:=L'.len;refine ⟨by decide,fun lo nlo=>⟨1,m,⟨rfl,rfl⟩,⟨by decide,by decide,by omega,by omega⟩,?_⟩⟩;have nlo0:=s2.free nlo;have nll:la≠lo:=fun z=>by rw [<- z,e2] at nlo;cases nlo
     refine mB (fun i σ H3=>∃ (ps:List Addr) (rs:List Road) (rows:List Row) (v4 v6 v7 v8 v9 v10:Option V),σ=[some (V.ref a),some (V.int c),some (V.int m),some (V.ref la),v4,some (V.ref lo),v6,v7,v8,v9,v10]/\Same H H3/\H3 la=some (.lst (ls.map V.int))/\H3 lo=some (.lst (ps.map V.ref))/\RoadsAt H3 ps rs/\Rows i rows/\Put ls rows rs) ⟨[],[],[],_,_,_,_,_,_,rfl,s2.trans (Same.new _ nlo),Same.new _ nlo _ _ e2,ag,.nil,⟨rfl,fun i r h=>by cases h⟩,Put.nil _⟩ ?_ ?_
     . rintro i σ H3 N hN hi ⟨ps,rs,rows,v4,v6,v7,v8,v9,v10,rfl,s3,l3,o3,ro3,R,P⟩;have k0:(1:Int)<=1+(i:Int):=(by omega);have k1:1+(i:Int)<m:=(by omega);generalize hk:(1:Int)+(i:Int)=kk at k0 k1 ⊢;have psl:ps.length=rs.length:=Paired.length ro3;have rl:=R.len;have pl:=P.len;walk_at "rd";refine ixL (s3 _ _ ha) (atG (by omega) (by omega)) ⟨_,rfl,⟨by omega,by omega⟩,by omega,by omega,av (by simp),fun q1 nq1=>⟨⟨by decide,by decide⟩,by decide,?_⟩⟩;generalize ns.getD (kk+1).toNat 0 / (kk+1)=w;have hg:=em w kk (by omega);obtain ⟨un,hun,u0,u1⟩:∃ un:Int,atI [V.int (kk - 1),V.int 0,V.int (w % kk),V.int (w % kk)] (c / 1190 % 4)=some (.int un)/\0<=un/\un<kk:=by
         rcases (show c / 1190 % 4=0\/c / 1190 % 4=1\/c / 1190 % 4=2\/c / 1190 % 4=3 by omega) with z|z|z|z
         . exact ⟨_,by rw [z];rfl,by omega,by omega⟩
         . exact ⟨_,by rw [z];rfl,by omega,by omega⟩
         . exact ⟨_,by rw [z];rfl,hg.1,hg.2⟩
         . exact ⟨_,by rw [z];rfl,hg.1,hg.2⟩
       have s4:=Same.new (.lst [.int (kk - 1),.int 0,.int (w % kk),.int (w % kk)]) nq1;refine ixL ag hun ?_;generalize upd H3 q1 (.lst [.int (kk - 1),.int 0,.int (w % kk),.int (w % kk)])=H4 at s4 ⊢;refine ⟨⟨by omega,by omega⟩,_,rfl,fun th t0 t1=>⟨⟨by decide,by decide⟩,_,rfl,fun bk b0 b1=>⟨⟨by decide,by decide⟩,by decide,?_⟩⟩⟩;have gk:atI (ls.map V.int) kk=some (.int (ls.getD kk.toNat 0)):=cV (by omega) (by rw [List.getElem?_map,mI L' (by omega)];rfl);have gu:atI (ls.map V.int) un=some (.int (ls.getD un.toNat 0)):=cV u0 (by rw [List.getElem?_map,mI L' (by omega)];rfl);have l4:=s4 _ _ l3;generalize w / kk / 7999992 / 7999992=au;have put:∀ (H7:Hp) (q:Addr) (row:Row) (v8 v9:Option V),Same H3 H7->row.k=kk->RowOk row->H7 q=some (.tup (eV (iJ ls row)))->tyV K "list" (V.ref lo) H7/\Jy au 2/\∃ x,(SqL K H7 lo x\/SqT K H7 lo x)/\0<(x.length:Int)+1/\rInsert (V.ref lo) [V.int (au / 2 % ((x.length:Int)+1)),V.ref q] H7 fun _ H8=>N [some (V.ref a),some (V.int c),some (V.int m),some (V.ref la),some (V.int kk),some (V.ref lo),some (V.int au),some (V.int un),v8,v9,some (V.ref q)] H8:=by
         intro H7 q row v8 v9 s7 rk rok hq;have o7:=s7 _ _ o3;have pe:=em (au / 2) (((ps.map V.ref).length:Int)+1) (by omega);refine ⟨tyL o7,⟨by decide,by decide⟩,ps.map V.ref,.inl (SqL.of o7),by omega,Au o7 pe.1 (by omega) (cz (by rw [List.length_map];omega)) ?_⟩;generalize (au / 2 % (((ps.map V.ref).length:Int)+1)).toNat=n;have keep:∀ {zs:List V} {q:Addr} {r':Road},H7 q=some (.tup (eV r'))->upd H7 lo (.lst zs) q=some (.tup (eV r')):=fun {zs q r'} h=>by rw [am (uH h o7 (by intro z;cases z))];exact h
         refine hN _ _ ⟨ps.take n++q::ps.drop n,rs.take n++iJ ls row::rs.drop n,rows++[row],_,_,_,_,_,_,rfl,(s3.trans s7).put nlo0 _,by rw [am nll];exact s7 _ _ l3,by rw [ag,List.map_append,List.map_cons,List.map_take,List.map_drop],?_,ES R (by omega) rok,P.step row n⟩;exact IW n (Paired.imp' (fun p r h=>keep h) (RoadsAt.same s7 ro3)) (keep hq)
       have okR:∀ (x y z:Int),2<=x->x<=1000000->2<=y->y<=1000000->RowOk ⟨kk,un,x,y,z,0⟩:=fun x y z a b c d=>⟨u0,u1,a,b,c,d,Int.le_refl _,by show (0:Int)<kk;omega⟩;have e1:∀ x y:Int,eV (iJ ls ⟨kk,un,x,y,1,0⟩)=[V.int (ls.getD un.toNat 0),V.int (ls.getD kk.toNat 0),V.int x,V.int y]:=fun x y=>by unfold iJ;rw [if_pos rfl];rfl
       have e2':∀ x y:Int,eV (iJ ls ⟨kk,un,x,y,0,0⟩)=[V.int (ls.getD kk.toNat 0),V.int (ls.getD un.toNat 0),V.int x,V.int y]:=fun x y=>by unfold iJ;rw [if_neg (show ¬ (0:Int)=1 by decide)];rfl
       by_cases y1:c / 4760 % 3=0
       . rw [if_pos y1];refine ⟨⟨by decide,by decide⟩,⟨by decide,by decide⟩,ixL l4 gu (ixL l4 gk ⟨av (by simp),fun q2 nq2=>⟨by decide,?_⟩⟩)⟩;have s5:=s4.trans (Same.new (.tup [V.int (ls.getD un.toNat 0),V.int (ls.getD kk.toNat 0),V.int th,V.int th]) nq2);have l5:=s5 _ _ l3;by_cases y2:au % 2=1
         . rw [if_pos y2];exact ixL l5 gk (ixL l5 gu ⟨av (by simp),fun q3 nq3=>put _ q3 ⟨kk,un,th,th,0,0⟩ _ _ (s5.trans (Same.new _ nq3)) rfl (okR _ _ _ t0 t1 t0 t1) (by rw [ag,e2'])⟩)
         . rw [if_neg y2];exact put _ q2 ⟨kk,un,th,th,1,0⟩ _ _ s5 rfl (okR _ _ _ t0 t1 t0 t1) (by rw [ag,e1])
       . rw [if_neg y1];refine ⟨⟨by decide,by decide⟩,⟨by decide,by decide⟩,ixL l4 gu (ixL l4 gk ⟨av (by simp),fun q2 nq2=>⟨by decide,?_⟩⟩)⟩;have s5:=s4.trans (Same.new (.tup [V.int (ls.getD un.toNat 0),V.int (ls.getD kk.toNat 0),V.int th,V.int bk]) nq2);have l5:=s5 _ _ l3;by_cases y2:au % 2=1
         . rw [if_pos y2];exact ixL l5 gk (ixL l5 gu ⟨av (by simp),fun q3 nq3=>put _ q3 ⟨kk,un,bk,th,0,0⟩ _ _ (s5.trans (Same.new _ nq3)) rfl (okR _ _ _ b0 b1 t0 t1) (by rw [ag,e2'])⟩)
         . rw [if_neg y2];exact put _ q2 ⟨kk,un,th,bk,1,0⟩ _ _ s5 rfl (okR _ _ _ t0 t1 b0 b1) (by rw [ag,e1])
     . rintro σ H3 ⟨ps,rs,rows,v4,v6,v7,v8,v9,v10,rfl,s3,l3,o3,ro3,R,P⟩;have g:=HM (n:=m.toNat) (by omega) (by omega) L' (by rw [show m.toNat - 1=(m - 1).toNat by omega];exact R) P;rw [Int.toNat_of_nonneg (by omega)] at g;walk_at "rd";refine ⟨av (by simp),fun t nt=>?_⟩;have s5:=Same.new (.tup [.int m,.ref lo]) nt;exact k t lo m ps rs _ (s3.free nt) nlo0 (s3.trans s5) ag (s5 _ _ o3) (RoadsAt.same s5 ro3) g
def zY (K:PySem.W.Frag):Sp:=fun vs H Q _=>∃ (a:Addr) (ns:List Int),vs=[.ref a]/\SqL K H a (ns.map V.int)/\ns.length<=63/\∀ H',Q (.bl true) H'
def JN (T:Txt K mg):Sp:=zY K
abbrev bZ:Stmt:=top 43
theorem iM:FnScope ["script","many","roads","rows","road","cell","told","due","found","web"] ["script"] (aa bZ):=FnScope.of (by kernel_rfl)
theorem su:NmL (aa bZ) "script":=.of (by kernel_rfl)
theorem pi:NmL (aa bZ) "many":=.of (by kernel_rfl)
theorem nG:NmL (aa bZ) "roads":=.of (by kernel_rfl)
theorem jo:NmL (aa bZ) "rows":=.of (by kernel_rfl)
theorem uR:NmL (aa bZ) "road":=.of (by kernel_rfl)
theorem lu:NmL (aa bZ) "cell":=.of (by kernel_rfl)
theorem gA:NmL (aa bZ) "told":=.of (by kernel_rfl)
theorem j8:NmL (aa bZ) "due":=.of (by kernel_rfl)
theorem jN:NmL (aa bZ) "found":=.of (by kernel_rfl)
theorem qo:NmL (aa bZ) "web":=.of (by kernel_rfl)
theorem pD:NmG (aa bZ) "_law_web":=.of (by kernel_rfl)
theorem lH:NmG (aa bZ) "_law_numbers":=.of (by kernel_rfl)
theorem rT:NmG (aa bZ) "str":=.of (by kernel_rfl)
theorem fk:NmG (aa bZ) "_law_changed":=.of (by kernel_rfl)
theorem iR:NmG (aa bZ) "_law_due":=.of (by kernel_rfl)
theorem iU:NmG (aa bZ) "_law_bad":=.of (by kernel_rfl)
theorem cR:NmG (aa bZ) "isinstance":=.of (by kernel_rfl)
theorem fS:NmG (aa bZ) "tuple":=.of (by kernel_rfl)
theorem oQ:NmG (aa bZ) "read_web":=.of (by kernel_rfl)
theorem oX:NmG (aa bZ) "bool":=.of (by kernel_rfl)
theorem IZ (T:Txt K mg) (hq:bH (CXe P w)) {f:Addr} {fd:FuncData} (D:Df K mg "law" bZ ["script"] f fd) {gY:Addr} {wt:FuncData} (ff:Df K mg "_law_bad" aW ["pick","text"] gY wt) (G_law_bad:FnOk P w K mg base (CXe P w) 7 gY wt ["pick","text"] (wg T)) {dN:Addr} {qg:FuncData} (cB:Df K mg "_law_changed" aP ["rows","cell"] dN qg) (G_law_changed:FnOk P w K mg base (CXe P w) 3 dN qg ["rows","cell"] (pQ T)) {iA:Addr} {wa:FuncData} (fi:Df K mg "_law_due" ba ["rows"] iA wa) (G_law_due:FnOk P w K mg base (CXe P w) 3 iA wa ["rows"] (wJ T)) {dQ:Addr} {qa:FuncData} (eS:Df K mg "_law_numbers" aZ ["script","many"] dQ qa) (G_law_numbers:FnOk P w K mg base (CXe P w) 2 dQ qa ["script","many"] (pP T)) {ip:Addr} {vZ:FuncData} (jC:Df K mg "_law_web" bc ["numbers"] ip vZ) (G_law_web:FnOk P w K mg base (CXe P w) 2 ip vZ ["numbers"] (wZ T)) {dn:Addr} {jg:FuncData} (cL:Df K mg "read_web" a8 ["text"] dn jg) (G_read_web:FnOk P w K mg base (CXe P w) 6 dn jg ["text"] (pf T)):FnOk P w K mg base (CXe P w) 8 f fd ["script"] (JN T):=by
 refine D.F.okC iM (fun vs H Q E h=>?_) (fun cdv A outer s H vs Q E hr h=>?_)
 . obtain ⟨a,ns,rfl,_⟩:=h
   rfl
 . obtain ⟨a,ns,rfl,ha,hn,k⟩:=h;have hv:=hr.units;refine ⟨_,(ai (tz (aJ G_law_web (hr.mono (by decide)) pD.g jC.m jC.F.kp jC.b .nil (db hq) (ae (aJ G_law_numbers (hr.mono (by decide)) lH.g eS.m eS.F.kp eS.b .nil (db hq) (ae (pvl 0 su) (ae af ah)) (hdb:=lH.d)) ah) (hdb:=pD.d)) (A3 (n:=2) rfl (ie (bg (i:=1) iM.nd rfl (Or.inl pi.l)) (ie (bg (i:=2) iM.nd rfl (Or.inl nG.l)) yd)))) (ai (ap (i:=3) iM.nd rfl (Or.inl jo.l) (cj (ae (ak cC ao (dE nM rT.g T.str Bc (ae (pvl 1 pi) ah) (hn:=rT.n) (hdb:=rT.d))) ah))) (ai (e9 PassesOwn.never rfl (fQ (pvl 2 nG)) (bg (i:=4) iM.nd rfl (Or.inl uR.l)) (aj (bG (bN PySem.F.plainAttrs_list PySem.F.slot_list_append PySem.F.type_list_append cG (pvl 3 jo) (ae (ak cC ao (bN PySem.F.plainAttrs_str PySem.F.slot_str_join PySem.F.type_str_join qe ao (ae (yg rfl (kY (Nc:=["part"]) 1 (by decide +kernel) (by decide +kernel) rfl (by decide +kernel) rfl) (tX (pvl 4 uR)) (fun _ _ _ _=>(bg (i:=0) (show (["part"]:List Str).Nodup from by decide +kernel) rfl (Or.inl rfl))) (fun _ _ _ _=>jD) (fun _ _ _ _=>(dE nM (by rfl) T.str Bc (ae (pv 0) ah)))) ah))) ah))))) (ai (e9 PassesOwn.never rfl (fQ (ak vR (cj (ae af (ae af ah))) (iK mG (pvl 0 su) (gB af) (gB af)))) (bg (i:=5) iM.nd rfl (Or.inl lu.l)) (ai (ap (i:=6) iM.nd rfl (Or.inl gA.l) (aJ G_law_changed (hr.mono (by decide)) fk.g cB.m cB.F.kp cB.b .nil (db hq) (ae (pvl 3 jo) (ae (pvl 5 lu) ah)) (hdb:=fk.d))) (ai (aG (ar cA (ak aL (ak bL (pvl 5 lu) af) af) af (ax _)) (aj (ap (i:=6) iM.nd rfl (Or.inl gA.l) (aJ G_law_changed (hr.mono (by decide)) fk.g cB.m cB.F.kp cB.b .nil (db hq) (ae (pvl 6 gA) (ae (ak bL (pvl 5 lu) af) ah)) (hdb:=fk.d)))) aw) (ai (ap (i:=7) iM.nd rfl (Or.inl j8.l) (aJ G_law_due (hr.mono (by decide)) iR.g fi.m fi.F.kp fi.b .nil (db hq) (ae (pvl 6 gA) ah) (hdb:=iR.d))) (ai (ap (i:=8) iM.nd rfl (Or.inl jN.l) (aJ G_law_bad (hr.mono (by decide)) iU.g ff.m ff.F.kp ff.b .nil (db hq) (ae af (ae (bN PySem.F.plainAttrs_str PySem.F.slot_str_join PySem.F.type_str_join qe ao (ae (pvl 6 gA) ah)) ah)) (hdb:=iU.d))) (aj (aG (gp (ay uU cR.g T.isinstance cX (ae (pvl 7 j8) (ae (uI (v:=.ty "tuple") fS.g T.tuple hV rfl (hn:=fS.n) (hd:=fS.d)) ah)) (hn:=cR.n) (hdb:=cR.d))) (ai (aG (Ak (IA (pvl 8 jN))) (aj (aR oq)) aw) (ai (ap (i:=9) iM.nd rfl (Or.inl qo.l) (aJ G_read_web (hr.mono (by decide)) oQ.g cL.m cL.F.kp cL.b .nil (db hq) (ae (bN PySem.F.plainAttrs_str PySem.F.slot_str_join PySem.F.type_str_join qe ao (ae (pvl 6 gA) ah)) ah) (hdb:=oQ.d))) (aj (aG (PW.pt (gP (ar gb (EG  (pvl 9 qo) rfl) (aF dR (pvl 7 j8) af (fun _ _=>rfl)) (ax _)) (jY (ar (JE hv) (EG  (pvl 9 qo) rfl) (aF dR (pvl 7 j8) af (fun _ _=>rfl)) (ax _))))) (aj (aR oq)) aw)))) (aj (aG (PW.pt (gP (gp (ay uU cR.g T.isinstance cX (ae (pvl 8 jN) (ae (uI (v:=.ty "bool") oX.g T.bool Il rfl (hn:=oX.n) (hd:=oX.d)) ah)) (hn:=cR.n) (hdb:=cR.d))) (jY (ar gb (pvl 8 jN) (pvl 7 j8) (ax _))))) (aj (aR oq)) aw))))))))) (aj (aR (Jd (pG (EU hv) (aJ G_law_due (hr.mono (by decide)) iR.g fi.m fi.F.kp fi.b .nil (db hq) (ae (pvl 3 jo) ah) (hdb:=iR.d)) (jm (ae (pvl 1 pi) (ae (dE gv fS.g T.tuple hV (ae (pvl 2 nG) ah) (hn:=fS.n) (hdb:=fS.d)) ah))) (ax _)) (E7 (Jp (Ex (aJ G_law_bad (hr.mono (by decide)) iU.g ff.m ff.F.kp ff.b .nil (db hq) (ae af (ae (bN PySem.F.plainAttrs_str PySem.F.slot_str_join PySem.F.type_str_join qe ao (ae (pvl 3 jo) ah)) ah)) (hdb:=iU.d)))))))))))),?_⟩;rw [show L2.start ["script","many","roads","rows","road","cell","told","due","found","web"] [V.ref a]=[some (V.ref a),none,none,none,none,none,none,none,none,none] from rfl];unfold tSl uC;refine bW fun N1 h1=>?_;walk_at "rd";refine ⟨a,ns,25,rfl,ha,by decide,by decide,fun ln nu H1 n1 s1 en nul=>?_⟩;refine ⟨ln,nu,rfl,en,by omega,by omega,fun t l m ps rs H2 nt nl s2 et el ro g=>?_⟩;have m1:=g.m1;have m24:=g.m24;have glen:=g.len;have hlen:ps.length=rs.length:=Paired.length ro;refine ⟨t,rfl,_,SqT.of et,rfl,_,_,rfl,_,_,rfl,rfl,h1 _ _ (bW fun N2 h2=>?_)⟩;have ha2:=(s1.trans s2).seq ha;clear en s1 s2 et nt nl n1 h1 ha;walk_at "rd";have lw:(Str.ofString "web ").length=4:=rfl;have lr:(Str.ofString "road ").length=5:=rfl;have mb:m.toNat<2^4000:=Nat.lt_of_lt_of_le (show m.toNat<2^5 by omega) (Nat.pow_le_pow_right (by decide) (by decide));have em:((m.toNat:Nat):Int)=m:=Int.toNat_of_nonneg (by omega);have fl:=Js mb;have e0:Str.ofString (toString m)=FS m.toNat:=by rw [<- zU,em]
   rw [e0];refine ⟨by rw [<- em];exact xz (n:=2) (show m.toNat<10^2 by omega) (by decide) (by decide),_,rfl,_,rfl,av (by omega),av (by simp),fun q nq=>h2 _ _ (bW fun N3 h3=>?_)⟩;rw [Ii];have s3:=Same.new (HO.lst [V.str (rwt hWeb [m.toNat])]) nq;have e3:upd H2 q (HO.lst [V.str (rwt hWeb [m.toNat])]) q=some (.lst ((rwt hWeb [m.toNat]::([]:List Road).map vM).map V.str)):=ag;generalize upd H2 q (HO.lst [V.str (rwt hWeb [m.toNat])])=H3 at s3 e3 ⊢;clear h2 fl e0;walk_at "rd";refine ⟨⟨_,SqL.of (s3 _ _ el)⟩,?_⟩;refine lx (K:=K) (xs:=ps.map V.ref) (fun i σ H4=>Same H2 H4/\H4 q=some (.lst ((rwt hWeb [m.toNat]::(rs.take i).map vM).map V.str))/\∃ v4,σ=[some (V.ref a),some (V.int m),some (V.ref l),some (V.ref q),v4,none,none,none,none,none]) ⟨s3,e3,_,rfl⟩ (fun i σ H4 _ z=>SqL.of (z.1 _ _ el)) ?_ ?_
   . rintro i x σ H4 N BB hBB hN hi ⟨s4,e4,v4,rfl⟩;obtain ⟨qr,r,rfl,hq1,hr2,hr3⟩:=ro.get hi;have et:rs.take (i+1)=rs.take i++[r]:=(by rw [List.take_succ,hr2];rfl);have hil:i<rs.length:=(List.getElem?_eq_some_iff.mp hr2).1;obtain ⟨rv,rb⟩:=G5 (g.ok r (List.mem_of_getElem? hr2)) m24;have hr3':H4 qr=some (.tup (eV r)):=s4 _ _ hr3;rw [rv] at hr3';refine hBB _ _ ?_;walk_at "rd";refine ⟨tyL e4,by simp [tyV],⟨_,SqT.of hr3'⟩,fun pc npc=>?_⟩;refine k7 (K:=K) (c:=false) (a:=qr) (xs:=vNs (d6 r)) (fun j ys σ H5=>Same H4 H5/\H5 pc=some (.lst ys)/\ys=(((d6 r).take j).map FS).map V.str/\∃ v,σ=[v]) ⟨Same.new _ npc,ag,rfl,_,rfl⟩ (fun j ys σ H5 _ ⟨z,_⟩=>SqT.of (z _ _ hr3')) ?_ ?_
     . rintro j y ys σ H5 N5 hN5 hj ⟨s5,h5,rfl,v,rfl⟩;obtain ⟨n,hn,rfl⟩:=List.getElem?_map_some hj;have ej:(d6 r).take (j+1)=(d6 r).take j++[n]:=(by rw [List.take_succ,hn];rfl);have jl:j<4:=(List.getElem?_eq_some_iff.mp hn).1;walk_at "rd";refine ⟨xz (rb n (List.mem_of_getElem? hn)) (by decide) (by decide),h5,cz (by simp only [List.length_map,List.length_take];omega),hN5 _ _ _ ⟨?_,ag,?_,_,rfl⟩⟩
       . exact fun b o e=>by rw [am (az e npc)];exact s5 _ _ e
       . rw [ej,List.map_append,List.map_append,zU]
         rfl
     . rintro ys σ H5 ⟨s5,h5,rfl,v,rfl⟩;have h5:H5 pc=some (.lst (((d6 r).map FS).map V.str)):=h5;have rb4:∀ n∈d6 r,n<2^4000:=fun n hn=>Nat.lt_trans (rb n hn) (by decide);refine ⟨_,pc,(d6 r).map FS,rfl,rfl,SqL.of h5,Je rb4 (show 4<=100 by decide),_,rfl,_,rfl,?_,?_⟩
       . have:(wds (d6 r)).length<=61*4:=Ia rb;show _+(wds (d6 r)).length<=_;exact av (by omega)
       rw [show Str.join (Str.ofString " ") ((d6 r).map FS)=wds (d6 r) from rfl,show Str.ofString "road " ++ wds (d6 r)=vM r from Hi];refine pz (s5 _ _ e4) (cz (by simp only [List.length_map,List.length_cons,List.length_take];omega)) (hN _ _ ⟨(s4.trans s5).put nq _,?_,_,rfl⟩);rw [ag,et,List.map_append,<- List.cons_append,List.map_append]
       rfl
   . rintro BB σ H4 hBB ⟨s4,e4,v4,rfl⟩;rw [List.length_map,hlen,List.take_length] at e4;have e4:H4 q=some (.lst ((jq m rs).map V.str)):=e4;refine hBB _ _ (h3 _ _ (bW fun N4 h4=>?_));have el4:=s4 _ _ el;have ro4:=RoadsAt.same s4 ro;have ha4:=s4.seq ha2;clear h3 s4 s3 el ro ha2 e3;walk_at "rd";refine ⟨av (by simp),fun c1 nc1=>?_⟩;have u1:=Same.new (HO.lst [V.int 0,V.int 7]) nc1;refine slI (u1.seq ha4) fun c2 nc2=>?_;have cl:=GP ns (some 2) (some 26);generalize yf ns (some 2) (some 26)=cs at cl nc2 ⊢;have u2:=Same.new (HO.lst (cs.map V.int)) nc2;refine CU (u2 _ _ ag) ag (av (by rw [List.length_map];simp;omega)) fun c3 nc3=>?_;have u13:=u1.trans (u2.trans (Same.new (HO.lst ([V.int 0,V.int 7]++cs.map V.int)) nc3));have e5:upd (upd (upd H4 c1 (.lst [V.int 0,V.int 7])) c2 (.lst (cs.map V.int))) c3 (.lst ([V.int 0,V.int 7]++cs.map V.int)) c3=some (.lst ((0::7::cs).map V.int)):=ag;generalize upd (upd (upd H4 c1 (.lst [V.int 0,V.int 7])) c2 (.lst (cs.map V.int))) c3 (.lst ([V.int 0,V.int 7]++cs.map V.int))=H5 at e5 u13 ⊢;have e4':=u13 _ _ e4;have el5:=u13 _ _ el4;have ro5:=RoadsAt.same u13 ro4;clear u1 u2 nc1 nc2 nc3 e4 el4 ro4 ha4 u13;have wo0:=Iw g;have wn0:jq m rs≠[]:=(by unfold jq;simp);refine ⟨c3,rfl,⟨_,SqL.of e5⟩,?_⟩;refine lx (K:=K) (xs:=(0::7::cs).map V.int) (fun i σ H6=>Same H5 H6/\∃ v4 v5 v6 v7 v8 v9,σ=[some (V.ref a),some (V.int m),some (V.ref l),some (V.ref q),v4,v5,v6,v7,v8,v9]) ⟨Same.refl _,_,_,_,_,_,_,rfl⟩ (fun i σ H6 _ z=>SqL.of (z.1 _ _ e5)) ?_ ?_
     . rintro i y σ H6 N BB hBB hN hy ⟨s6,v4,v5,v6,v7,v8,v9,rfl⟩;obtain ⟨c,_,rfl⟩:=List.getElem?_map_some hy;refine hBB _ _ (bW fun M1 k1=>?_);walk_at "rd";refine ⟨q,c,jq m rs,305,24,rfl,s6 _ _ e4',wo0,wn0,by decide,by decide,fun l1 ws1 H7 s7 el1 wn1 wo1=>k1 _ _ (bW fun M2 k2=>?_)⟩;have s57:=s6.trans s7;have au:∀ (l2:Addr) (ws2:List Str) (H8:Hp),Same H5 H8->H8 l2=some (.lst (ws2.map V.str))->ws2≠[]->WsO 1500 26 ws2->M2 [some (V.ref a),some (V.int m),some (V.ref l),some (V.ref q),v4,some (V.int c),some (V.ref l2),v7,v8,v9] H8:=by
         intro l2 ws2 H8 s8 el2 wn2 wo2;obtain ⟨dv,du⟩:=Ep wn2;obtain ⟨t1,t2,t3⟩:=wo2.text (by decide) (by decide) wn2;have rw2:=wo2.rw (by decide);have wl2:=wo2.1;refine k2 _ _ (bW fun M3 k3=>?_);walk_at "rd";refine ⟨l2,ws2,dv,rfl,el2,rw2,by omega,du,wn2,?_⟩;have go:∀ (x:V) (H9:Hp),Same H8 H9->(match dv with|.bad n=>x=.int (n:Int)|.web=>x=.str (Str.ofString "web")|.ok m' rs'=>∃ q' t' ps',x=.ref q'/\H9 q'=some (.tup [.int (m':Int),.ref t'])/\H9 t'=some (.tup (ps'.map V.ref))/\RoadsAt H9 ps' rs')->M3 [some (V.ref a),some (V.int m),some (V.ref l),some (V.ref q),v4,some (V.int c),some (V.ref l2),some x,v8,v9] H9:=by
           intro x H9 s9 hx;refine k3 _ _ (bW fun M4 k4=>?_);walk_at "rd";refine ⟨by simp [tyV],_,l2,_,rfl,rfl,SqL.of (s9 _ _ el2),t3,_,ws2,dv,rfl,t2,t1,rw2,du,fun H10 s10=>k4 _ _ ?_⟩;have s910:=s9.trans s10;cases dv with
           | bad n =>
             have hx:x=.int (n:Int):=hx;subst hx;walk_at "rd";refine ⟨_,_,_,false,rfl,.int _,fun cv h=>by cases h;rfl,_,rfl,?_⟩;rw [if_neg (by decide)];refine ⟨_,_,_,false,rfl,.int _,fun cv h=>by cases h;rfl,_,rfl,?_⟩;rw [if_neg (by decide)];refine ⟨rfl,?_⟩;rw [if_neg (fun z=>z rfl)];exact hN _ _ ⟨s8.trans s910,_,_,_,_,_,_,rfl⟩
           | web =>
             have hx:x=.str (Str.ofString "web"):=hx;subst hx;walk_at "rd";refine ⟨_,_,_,false,rfl,.str _,fun cv h=>by cases h;rfl,_,rfl,?_⟩;rw [if_neg (by decide)];refine ⟨_,_,_,false,rfl,.str _,fun cv h=>by cases h;rfl,_,rfl,?_⟩;rw [if_neg (by decide)];refine ⟨rfl,?_⟩;rw [if_neg (fun z=>z rfl)];exact hN _ _ ⟨s8.trans s910,_,_,_,_,_,_,rfl⟩
           | ok m' rs' =>
             obtain ⟨q',t',ps',rfl,h1,h2,h3⟩:=hx;walk_at "rd";refine ⟨_,_,_,true,rfl,.tup (s10 _ _ h1),fun cv h=>by cases h;rfl,_,rfl,?_⟩;rw [if_pos rfl,if_neg (fun z=>z rfl)];refine ⟨by simp [tyV],_,l2,_,rfl,rfl,SqL.of (s910 _ _ el2),t3,_,ws2,.ok m' rs',rfl,t2,t1,rw2,du,fun pw tw psw H11 np11 s11 W=>?_⟩;obtain ⟨dx,ob⟩:=W.ob;have s9':=s10.trans s11;refine ⟨pw,rfl,T.Web,dx,_,ob,T.xh,T.n_many,_,Dz _ _,ixT (s9' _ _ h1) rfl ⟨rfl,?_⟩⟩;rw [if_neg (fun z=>z rfl)];refine ⟨pw,rfl,T.Web,dx,_,ob,T.xh,T.n_roads,_,B3 _ _,ixT (s9' _ _ h1) rfl ?_⟩;refine ⟨_,_,.tup (SqT.of W.tu) (nO W.ro),.tup (SqT.of (s9' _ _ h2)) (nO (RoadsAt.same s9' h3)),?_,_,rfl,?_⟩
             . have:=sZ rs';simp only [PyData.depth];omega
             . have e:PyData.eqv (.tuple (rs'.map dRd)) (.tuple (rs'.map dRd))=true:=by
                 simp only [PyData.eqv];exact xR rs'
               rw [e,if_neg (by decide)];exact hN _ _ ⟨s8.trans (s910.trans s11),_,_,_,_,_,_,rfl⟩
         cases dv with
         | bad n=>exact fun H9 s9=>go _ H9 s9 rfl
         | web=>exact fun H9 s9=>go _ H9 s9 rfl
         | ok m' rs'=>exact fun q' t' ps' H9 s9 h1 h2 h3=>go _ H9 s9 ⟨q',t',ps',rfl,h1,h2,h3⟩
       walk_at "rd";refine ⟨⟨by decide,by decide⟩,by decide,?_⟩;by_cases c13:c / 7 % 3=1
       . rw [if_pos c13];exact ⟨⟨by decide,by decide⟩,l1,_,ws1,673,25,rfl,el1,wo1,wn1,by decide,by decide,fun l2 ws2 H8 s8 el2 wn2 wo2=>au l2 ws2 H8 (s57.trans s8) el2 wn2 ⟨wo2.1,fun w hw=>⟨(wo2.2 w hw).1,Nat.le_trans (wo2.2 w hw).2 (by decide)⟩⟩⟩
       . rw [if_neg c13];exact au l1 ws1 H7 s57 el1 wn1 ⟨Nat.le_trans wo1.1 (by decide),fun w hw=>⟨(wo1.2 w hw).1,Nat.le_trans (wo1.2 w hw).2 (by decide)⟩⟩
     . rintro BB σ H6 hBB ⟨s6,v4,v5,v6,v7,v8,v9,rfl⟩;refine hBB _ _ (h4 _ _ ?_);walk_at "rd";obtain ⟨t1,t2,t3⟩:=wo0.text (by decide) (by decide) wn0;have rw2:=wo0.rw (by decide);have du:=E5 g;refine ⟨q,jq m rs,_,rfl,s6 _ _ e4',rw2,by have:=wo0.1;omega,du,wn0,fun q' t' ps' H7 s7 h1 h2 h3=>?_⟩;have s67:=s6.trans s7;refine ⟨_,.inl ⟨SqL.of (s67 _ _ el5),fun tt ntt=>⟨av (by simp),fun pp npp=>?_⟩⟩⟩;have u1:=Same.new (HO.tup (ps.map V.ref)) ntt;have u2:=Same.new (HO.tup [V.int m,V.ref tt]) npp;have b1:=u2 _ _ (ag (H:=H7) (a:=tt) (o:=HO.tup (ps.map V.ref)));have u12:=u1.trans u2;rw [em] at h1;refine ⟨_,_,.tup (SqT.of (u12 _ _ h1)) (.cons (.int _) (.cons (.tup (SqT.of (u12 _ _ h2)) (nO (RoadsAt.same u12 h3))) .nil)),.tup (SqT.of ag) (.cons (.int _) (.cons (.tup (SqT.of b1) (nO (RoadsAt.same (s67.trans u12) ro5))) .nil)),?_,_,rfl,?_⟩
       . have:=sZ rs;simp only [PyData.depth,PyData.depthAll];omega
       . have e:PyData.eqv (.tuple [.int m,.tuple (rs.map dRd)]) (.tuple [.int m,.tuple (rs.map dRd)])=true:=by
           have:=xR rs;simp [PyData.eqv,PyData.eqvAll,this]
         rw [e,if_pos rfl];refine ⟨by simp [tyV],_,q,_,rfl,rfl,SqL.of ((s67.trans u12) _ _ e4'),t3,_,jq m rs,_,rfl,t2,t1,rw2,du,fun H10 s10=>?_⟩;show Q (V.bl (decide (V.non=V.non))) H10;rw [decide_eq_true rfl];exact k _
end
theorem KG:bH CX0:=fun _ _ _ _ _ h=>h
theorem all_mk {l:PySem.W.OpenLaw} {w:World} {K:PySem.W.Frag} {h:Heap} {mg:Str->Option Value} {fa:Addr} {a9:Addr} {eB:Addr} {d7:Addr} {cH:Addr} {d8:Addr} {ck:Addr} {jP:Addr} {xc_TollError:Value} {xd_TollError:Option Addr} {xk_TollError:ClassData} {xs_TollError:Array (Option Value)} {xc_BadWeb:Value} {xd_BadWeb:Option Addr} {xk_BadWeb:ClassData} {xs_BadWeb:Array (Option Value)} {qn_BadWeb qq_BadWeb:Str} {qN_BadWeb:Addr} {qb_BadWeb qm_BadWeb:List Value} {qh_BadWeb:Bool} {qs_BadWeb:List Str} {qu_BadWeb:List Value} {qa_BadWeb:Bool} {qc_BadWeb:Option Bool} {qd_BadWeb:Option Addr} {q0_BadWeb q1_BadWeb q2_BadWeb q3_BadWeb q5_BadWeb:Option Value} {xc_NoPlace:Value} {xd_NoPlace:Option Addr} {xk_NoPlace:ClassData} {xs_NoPlace:Array (Option Value)} {xc_BadLaying:Value} {xd_BadLaying:Option Addr} {xk_BadLaying:ClassData} {xs_BadLaying:Array (Option Value)} {xc_BadStep:Value} {xd_BadStep:Option Addr} {xk_BadStep:ClassData} {xs_BadStep:Array (Option Value)} {xc_BadText:Value} {xd_BadText:Option Addr} {xk_BadText:ClassData} {xs_BadText:Array (Option Value)} {qn_BadText qq_BadText:Str} {qN_BadText:Addr} {qb_BadText qm_BadText:List Value} {qh_BadText:Bool} {qs_BadText:List Str} {qu_BadText:List Value} {qa_BadText:Bool} {qc_BadText:Option Bool} {qd_BadText:Option Addr} {q0_BadText q1_BadText q2_BadText q3_BadText q5_BadText:Option Value} {dl:Addr} {od_check_counts wS:Option Addr} {xn:Array (Option Value)} {oc_check_counts wP wR wv oP xc:Value} {gf:Addr} {od_is_place B8:Option Addr} {BP:Array (Option Value)} {oc_is_place B0 BF BK uV BJ:Value} {eE:Addr} {od_check_ends zn:Option Addr} {zd:Array (Option Value)} {oc_check_ends y7 zA zm sy zH:Value} {eF:Addr} {od_other_ends zw:Option Addr} {zP:Array (Option Value)} {oc_other_ends zJ zQ zo r6 zf:Value} {dh:Addr} {od_check_joined wd:Option Addr} {wq:Array (Option Value)} {oc_check_joined wG vX wu oH vQ:Value} {dP:Addr} {od_check_tolls xM:Option Addr} {xF:Array (Option Value)} {oc_check_tolls xK xy xE pI xJ:Value} {f_Web___init__:Addr} {od_Web___init__ wO:Option Addr} {xb:Array (Option Value)} {oc_Web___init__ wB wY vV oN wV:Value} {f_BadText___init__:Addr} {od_BadText___init__ sV:Option Addr} {sL:Array (Option Value)} {oc_BadText___init__ sW sH sO kr sT:Value} {b5:Addr} {od_check_end Aa:Option Addr} {A7:Array (Option Value)} {oc_check_end A1 AV AK tY Bb:Value} {fv:Addr} {od_is_number Bg:Option Addr} {A2:Array (Option Value)} {oc_is_number AR AW Ai tW Av:Value} {b9:Addr} {od_read_number xC:Option Addr} {yc:Array (Option Value)} {oc_read_number xS xv xX p9 xL:Value} {dg:Addr} {od_read_numbers wC:Option Addr} {vU:Array (Option Value)} {oc_read_numbers vY wW wM oV xp:Value} {cw:Addr} {od_read_words zy:Option Addr} {zt:Array (Option Value)} {oc_read_words zO zr zu rY zz:Value} {eD:Addr} {od_read_steps zG:Option Addr} {zE:Array (Option Value)} {oc_read_steps zD zF zR sd zC:Value} {f8:Addr} {od_read_row B9:Option Addr} {B7:Array (Option Value)} {oc_read_row BO B6 BG vi Cg:Value} {dn:Addr} {od_read_web Bp:Option Addr} {BA:Array (Option Value)} {oc_read_web Bq Cf BC vc Bu:Value} {gY:Addr} {od_law_bad De:Option Addr} {C1:Array (Option Value)} {oc_law_bad Di Dq DX wf DW:Value} {dk:Addr} {od_law_odd_word wD:Option Addr} {wA:Array (Option Value)} {oc_law_odd_word xk xj wU ot wI:Value} {b8:Addr} {od_law_word_changed sI:Option Addr} {sF:Array (Option Value)} {oc_law_word_changed sN sJ sK kg sG:Value} {dN:Addr} {od_law_changed xu:Option Addr} {xN:Array (Option Value)} {oc_law_changed yj yi xA pR xH:Value} {ez:Addr} {od_law_joined zB:Option Addr} {zL:Array (Option Value)} {oc_law_joined zv zN zI si y8:Value} {eC:Addr} {od_law_is_web y9:Option Addr} {zK:Array (Option Value)} {oc_law_is_web y6 zi zj sk zq:Value} {cM:Addr} {od_law_number_in vB:Option Addr} {vC:Array (Option Value)} {oc_law_number_in vA vE vD no vz:Value} {iA:Addr} {od_law_due Ea:Option Addr} {CN:Array (Option Value)} {oc_law_due D7 Dg D6 we Dl:Value} {gn:Addr} {od_law_cell Bo:Option Addr} {BW:Array (Option Value)} {oc_law_cell Ce Bw BR vb BZ:Value} {fq:Addr} {od_law_mixed Af:Option Addr} {Ah:Array (Option Value)} {oc_law_mixed A6 AQ z9 t9 Bn:Value} {dQ:Addr} {od_law_numbers xP:Option Addr} {xt:Array (Option Value)} {oc_law_numbers xx xO xw pK xr:Value} {f9:Addr} {od_law_toll Bt:Option Addr} {B2:Array (Option Value)} {oc_law_toll Ca BM BD va B5:Value} {ip:Addr} {od_law_web Du:Option Addr} {C2:Array (Option Value)} {oc_law_web Db DG CP wH Ds:Value} {CY:Addr} {od_law EE:Option Addr} {JS:Array (Option Value)} {oc_law Fo Fi EH AJ Es:Value} {t_MOST_PLACES:Tok} {t_LEAST_TOLL:Tok} {t_MOST_TOLL:Tok} {t_FIGURES:Tok} {t_MOST_FIGURES:Tok} (X:K.In h) (G:h.Ns mainGlobals mg) (hfa:mg "law"=some (.ref fa))
   (m7:PySem.W.nsIn K mainGlobals "TollError"=some (some (.ref a9)))
   (tV:PySem.W.nsIn K mainGlobals "BadWeb"=some (some (.ref eB)))
   (rz:PySem.W.nsIn K mainGlobals "NoPlace"=some (some (.ref d7)))
   (og:PySem.W.nsIn K mainGlobals "BadLaying"=some (some (.ref cH)))
   (qp:PySem.W.nsIn K mainGlobals "BadStep"=some (some (.ref d8)))
   (qD:PySem.W.nsIn K mainGlobals "BadText"=some (some (.ref ck)))
   (AU:PySem.W.nsIn K mainGlobals "Web"=some (some (.ref jP)))
   (nI:K.lookup a9=some ⟨xc_TollError,xd_TollError,.cls xk_TollError,xs_TollError⟩)
   (ni:xk_TollError.mro=.ref a9::bmV)
   (mQ:PySem.W.typeIn K (.ref a9)=some (.type "type"))
   (mZ:PySem.W.findIn K (.ref a9) "__getattribute__"=some (some (.builtin "BaseException.__getattribute__")))
   (nW:PySem.W.findIn K (.ref a9) "__getattr__"=some none)
   (mP:PySem.W.findIn K (.ref a9) "__class__"=some (some (.builtin "object.__class__")))
   (ny:PySem.W.hasDictIn K a9=true)
   (oG:K.lookup eB=some ⟨xc_BadWeb,xd_BadWeb,.cls xk_BadWeb,xs_BadWeb⟩)
   (tK:xk_BadWeb.mro=.ref eB::.ref a9::bmV)
   (ub:PySem.W.typeIn K (.ref eB)=some (.type "type"))
   (uw:PySem.W.findIn K (.ref eB) "__getattribute__"=some (some (.builtin "BaseException.__getattribute__")))
   (uh:PySem.W.findIn K (.ref eB) "__getattr__"=some none)
   (ua:PySem.W.findIn K (.ref eB) "__class__"=some (some (.builtin "object.__class__")))
   (tF:PySem.W.hasDictIn K eB=true)
   (t6:(⟨xc_BadWeb,xd_BadWeb,.cls xk_BadWeb,xs_BadWeb⟩:Obj)=excClassObj qn_BadWeb qq_BadWeb eB qN_BadWeb qb_BadWeb qm_BadWeb qh_BadWeb qs_BadWeb qu_BadWeb qa_BadWeb qc_BadWeb qd_BadWeb q0_BadWeb q1_BadWeb q2_BadWeb q3_BadWeb q5_BadWeb "ValueError.__new__")
   (uu:PySem.W.nsOkIn K qN_BadWeb=true)
   (uA:PySem.W.nsIn K qN_BadWeb "__init__"=some none)
   (ue:PySem.W.tailIn K bmV qm_BadWeb=true)
   (rq:K.lookup d7=some ⟨xc_NoPlace,xd_NoPlace,.cls xk_NoPlace,xs_NoPlace⟩)
   (rA:xk_NoPlace.mro=.ref d7::.ref a9::bmV)
   (qj:PySem.W.typeIn K (.ref d7)=some (.type "type"))
   (qR:PySem.W.findIn K (.ref d7) "__getattribute__"=some (some (.builtin "BaseException.__getattribute__")))
   (qh:PySem.W.findIn K (.ref d7) "__getattr__"=some none)
   (qI:PySem.W.findIn K (.ref d7) "__class__"=some (some (.builtin "object.__class__")))
   (qZ:PySem.W.hasDictIn K d7=true)
   (mW:K.lookup cH=some ⟨xc_BadLaying,xd_BadLaying,.cls xk_BadLaying,xs_BadLaying⟩)
   (mX:xk_BadLaying.mro=.ref cH::.ref a9::bmV)
   (nU:PySem.W.typeIn K (.ref cH)=some (.type "type"))
   (nZ:PySem.W.findIn K (.ref cH) "__getattribute__"=some (some (.builtin "BaseException.__getattribute__")))
   (nS:PySem.W.findIn K (.ref cH) "__getattr__"=some none)
   (nL:PySem.W.findIn K (.ref cH) "__class__"=some (some (.builtin "object.__class__")))
   (ol:PySem.W.hasDictIn K cH=true)
   (qw:K.lookup d8=some ⟨xc_BadStep,xd_BadStep,.cls xk_BadStep,xs_BadStep⟩)
   (rB:xk_BadStep.mro=.ref d8::.ref a9::bmV)
   (q8:PySem.W.typeIn K (.ref d8)=some (.type "type"))
   (rK:PySem.W.findIn K (.ref d8) "__getattribute__"=some (some (.builtin "BaseException.__getattribute__")))
   (rL:PySem.W.findIn K (.ref d8) "__getattr__"=some none)
   (rN:PySem.W.findIn K (.ref d8) "__class__"=some (some (.builtin "object.__class__")))
   (qA:PySem.W.hasDictIn K d8=true)
   (jT:K.lookup ck=some ⟨xc_BadText,xd_BadText,.cls xk_BadText,xs_BadText⟩)
   (mt:xk_BadText.mro=.ref ck::.ref a9::bmV)
   (qm:PySem.W.typeIn K (.ref ck)=some (.type "type"))
   (rH:PySem.W.findIn K (.ref ck) "__getattribute__"=some (some (.builtin "BaseException.__getattribute__")))
   (qN:PySem.W.findIn K (.ref ck) "__getattr__"=some none)
   (rg:PySem.W.findIn K (.ref ck) "__class__"=some (some (.builtin "object.__class__")))
   (mz:PySem.W.hasDictIn K ck=true)
   (qE:(⟨xc_BadText,xd_BadText,.cls xk_BadText,xs_BadText⟩:Obj)=excClassObj qn_BadText qq_BadText ck qN_BadText qb_BadText qm_BadText qh_BadText qs_BadText qu_BadText qa_BadText qc_BadText qd_BadText q0_BadText q1_BadText q2_BadText q3_BadText q5_BadText "ValueError.__new__")
   (rV:PySem.W.nsOkIn K qN_BadText=true)
   (rE:PySem.W.nsIn K qN_BadText "__init__"=some (some (.ref f_BadText___init__)))
   (qM:PySem.W.tailIn K bmV qm_BadText=true)
   (m3:PySem.W.specialIn K (.ref a9) "__getattribute__"=some (some (.builtin "type.__getattribute__")))
   (mJ:PySem.W.readsIn K a9 (.type "type")=true)
   (n8:PySem.W.findCls K (.ref a9) (.type "type") "__init__"=some (.val (.builtin "ValueError.__init__")))
   (rR:PySem.W.findIn K (.ref ck) "__setattr__"=some (some (.builtin "object.__setattr__")))
   (my:PySem.W.findIn K (.ref ck) "at"=some none)
   (xgs:PySem.W.specialIn K (.builtin "object.__class__") "__get__"=some (some (.builtin "getset_descriptor.__get__")))
   (xtk:PySem.W.takesIn K (.builtin "object.__class__")=some true)
   (xnd:[a9,eB,d7,cH,d8,ck].Nodup)
   (kI:PySem.W.nsIn K mainGlobals "check_counts"=some (some (.ref dl)))
   (lj:K.lookup dl=some ⟨oc_check_counts,od_check_counts,.func (PySem.W.fnOf "check_counts" "check_counts" (aM bn) (aE bn) (aa bn) .none wP wR wv wS oP xc),xn⟩)
   (kR:PySem.W.codeIn K oP "check_counts"=true)
   (kT:PySem.W.keepIn K (.ref dl)=true)
   (qY:PySem.W.nsIn K mainGlobals "is_place"=some (some (.ref gf)))
   (rM:K.lookup gf=some ⟨oc_is_place,od_is_place,.func (PySem.W.fnOf "is_place" "is_place" (aM dy) (aE dy) (aa dy) .none B0 BF BK B8 uV BJ),BP⟩)
   (qT:PySem.W.codeIn K uV "is_place"=true)
   (qV:PySem.W.keepIn K (.ref gf)=true)
   (nP:PySem.W.nsIn K mainGlobals "check_ends"=some (some (.ref eE)))
   (nA:K.lookup eE=some ⟨oc_check_ends,od_check_ends,.func (PySem.W.fnOf "check_ends" "check_ends" (aM bS) (aE bS) (aa bS) .none y7 zA zm zn sy zH),zd⟩)
   (nz:PySem.W.codeIn K sy "check_ends"=true)
   (nQ:PySem.W.keepIn K (.ref eE)=true)
   (mO:PySem.W.nsIn K mainGlobals "other_ends"=some (some (.ref eF)))
   (nh:K.lookup eF=some ⟨oc_other_ends,od_other_ends,.func (PySem.W.fnOf "other_ends" "other_ends" (aM bX) (aE bX) (aa bX) .none zJ zQ zo zw r6 zf),zP⟩)
   (mR:PySem.W.codeIn K r6 "other_ends"=true)
   (oh:PySem.W.keepIn K (.ref eF)=true)
   (lh:PySem.W.nsIn K mainGlobals "check_joined"=some (some (.ref dh)))
   (lb:K.lookup dh=some ⟨oc_check_joined,od_check_joined,.func (PySem.W.fnOf "check_joined" "check_joined" (aM aI) (aE aI) (aa aI) .none wG vX wu wd oH vQ),wq⟩)
   (kL:PySem.W.codeIn K oH "check_joined"=true)
   (kZ:PySem.W.keepIn K (.ref dh)=true)
   (lS:PySem.W.nsIn K mainGlobals "check_tolls"=some (some (.ref dP)))
   (lY:K.lookup dP=some ⟨oc_check_tolls,od_check_tolls,.func (PySem.W.fnOf "check_tolls" "check_tolls" (aM bC) (aE bC) (aa bC) .none xK xy xE xM pI xJ),xF⟩)
   (md:PySem.W.codeIn K pI "check_tolls"=true)
   (l6:PySem.W.keepIn K (.ref dP)=true)
   (lq:PySem.W.findIn K (.ref jP) "__init__"=some (some (.ref f_Web___init__)))
   (kJ:PySem.W.isFn K (.ref f_Web___init__)=true)
   (kz:K.lookup f_Web___init__=some ⟨oc_Web___init__,od_Web___init__,.func (PySem.W.fnOf "__init__" "Web.__init__" (aM aK) (aE aK) (aa aK) .none wB wY vV wO oN wV),xb⟩)
   (ky:PySem.W.codeIn K oN "Web.__init__"=true)
   (kP:PySem.W.keepIn K (.ref f_Web___init__)=true)
   (lD:PySem.W.findIn K (.ref ck) "__init__"=some (some (.ref f_BadText___init__)))
   (iE:PySem.W.isFn K (.ref f_BadText___init__)=true)
   (iu:K.lookup f_BadText___init__=some ⟨oc_BadText___init__,od_BadText___init__,.func (PySem.W.fnOf "__init__" "BadText.__init__" (aM aH) (aE aH) (aa aH) .none sW sH sO sV kr sT),sL⟩)
   (iz:PySem.W.codeIn K kr "BadText.__init__"=true)
   (iy:PySem.W.keepIn K (.ref f_BadText___init__)=true)
   (pB:PySem.W.nsIn K mainGlobals "check_end"=some (some (.ref b5)))
   (o8:K.lookup b5=some ⟨oc_check_end,od_check_end,.func (PySem.W.fnOf "check_end" "check_end" (aM bO) (aE bO) (aa bO) .none A1 AV AK Aa tY Bb),A7⟩)
   (o4:PySem.W.codeIn K tY "check_end"=true)
   (o0:PySem.W.keepIn K (.ref b5)=true)
   (oZ:PySem.W.nsIn K mainGlobals "is_number"=some (some (.ref fv)))
   (pd:K.lookup fv=some ⟨oc_is_number,od_is_number,.func (PySem.W.fnOf "is_number" "is_number" (aM ce) (aE ce) (aa ce) .none AR AW Ai Bg tW Av),A2⟩)
   (pq:PySem.W.codeIn K tW "is_number"=true)
   (o9:PySem.W.keepIn K (.ref fv)=true)
   (lQ:PySem.W.nsIn K mainGlobals "read_number"=some (some (.ref b9)))
   (lR:K.lookup b9=some ⟨oc_read_number,od_read_number,.func (PySem.W.fnOf "read_number" "read_number" (aM bq) (aE bq) (aa bq) .none xS xv xX xC p9 xL),yc⟩)
   (lW:PySem.W.codeIn K p9 "read_number"=true)
   (mh:PySem.W.keepIn K (.ref b9)=true)
   (kX:PySem.W.nsIn K mainGlobals "read_numbers"=some (some (.ref dg)))
   (kF:K.lookup dg=some ⟨oc_read_numbers,od_read_numbers,.func (PySem.W.fnOf "read_numbers" "read_numbers" (aM bD) (aE bD) (aa bD) .none vY wW wM wC oV xp),vU⟩)
   (kE:PySem.W.codeIn K oV "read_numbers"=true)
   (kW:PySem.W.keepIn K (.ref dg)=true)
   (mT:PySem.W.nsIn K mainGlobals "read_words"=some (some (.ref cw)))
   (nJ:K.lookup cw=some ⟨oc_read_words,od_read_words,.func (PySem.W.fnOf "read_words" "read_words" (aM bw) (aE bw) (aa bw) .none zO zr zu zy rY zz),zt⟩)
   (nY:PySem.W.codeIn K rY "read_words"=true)
   (nK:PySem.W.keepIn K (.ref cw)=true)
   (mK:PySem.W.nsIn K mainGlobals "read_steps"=some (some (.ref eD)))
   (nR:K.lookup eD=some ⟨oc_read_steps,od_read_steps,.func (PySem.W.fnOf "read_steps" "read_steps" (aM bU) (aE bU) (aa bU) .none zD zF zR zG sd zC),zE⟩)
   (mM:PySem.W.codeIn K sd "read_steps"=true)
   (mS:PySem.W.keepIn K (.ref eD)=true)
   (qW:PySem.W.nsIn K mainGlobals "read_row"=some (some (.ref f8)))
   (rP:K.lookup f8=some ⟨oc_read_row,od_read_row,.func (PySem.W.fnOf "read_row" "read_row" (aM bK) (aE bK) (aa bK) .none BO B6 BG B9 vi Cg),B7⟩)
   (qB:PySem.W.codeIn K vi "read_row"=true)
   (rO:PySem.W.keepIn K (.ref f8)=true)
   (rJ:PySem.W.nsIn K mainGlobals "read_web"=some (some (.ref dn)))
   (qv:K.lookup dn=some ⟨oc_read_web,od_read_web,.func (PySem.W.fnOf "read_web" "read_web" (aM a8) (aE a8) (aa a8) .none Bq Cf BC Bp vc Bu),BA⟩)
   (qy:PySem.W.codeIn K vc "read_web"=true)
   (rG:PySem.W.keepIn K (.ref dn)=true)
   (sY:PySem.W.nsIn K mainGlobals "_law_bad"=some (some (.ref gY)))
   (ud:K.lookup gY=some ⟨oc_law_bad,od_law_bad,.func (PySem.W.fnOf "_law_bad" "_law_bad" (aM aW) (aE aW) (aa aW) .none Di Dq DX De wf DW),C1⟩)
   (tH:PySem.W.codeIn K wf "_law_bad"=true)
   (tU:PySem.W.keepIn K (.ref gY)=true)
   (kK:PySem.W.nsIn K mainGlobals "_law_odd_word"=some (some (.ref dk)))
   (kO:K.lookup dk=some ⟨oc_law_odd_word,od_law_odd_word,.func (PySem.W.fnOf "_law_odd_word" "_law_odd_word" (aM aY) (aE aY) (aa aY) .none xk xj wU wD ot wI),wA⟩)
   (k6:PySem.W.codeIn K ot "_law_odd_word"=true)
   (kM:PySem.W.keepIn K (.ref dk)=true)
   (iG:PySem.W.nsIn K mainGlobals "_law_word_changed"=some (some (.ref b8)))
   (hJ:K.lookup b8=some ⟨oc_law_word_changed,od_law_word_changed,.func (PySem.W.fnOf "_law_word_changed" "_law_word_changed" (aM aD) (aE aD) (aa aD) .none sN sJ sK sI kg sG),sF⟩)
   (ic:PySem.W.codeIn K kg "_law_word_changed"=true)
   (ix:PySem.W.keepIn K (.ref b8)=true)
   (me:PySem.W.nsIn K mainGlobals "_law_changed"=some (some (.ref dN)))
   (l8:K.lookup dN=some ⟨oc_law_changed,od_law_changed,.func (PySem.W.fnOf "_law_changed" "_law_changed" (aM aP) (aE aP) (aa aP) .none yj yi xA xu pR xH),xN⟩)
   (lZ:PySem.W.codeIn K pR "_law_changed"=true)
   (l9:PySem.W.keepIn K (.ref dN)=true)
   (nV:PySem.W.nsIn K mainGlobals "_law_joined"=some (some (.ref ez)))
   (mU:K.lookup ez=some ⟨oc_law_joined,od_law_joined,.func (PySem.W.fnOf "_law_joined" "_law_joined" (aM bf) (aE bf) (aa bf) .none zv zN zI zB si y8),zL⟩)
   (nD:PySem.W.codeIn K si "_law_joined"=true)
   (nC:PySem.W.keepIn K (.ref ez)=true)
   (mY:PySem.W.nsIn K mainGlobals "_law_is_web"=some (some (.ref eC)))
   (nF:K.lookup eC=some ⟨oc_law_is_web,od_law_is_web,.func (PySem.W.fnOf "_law_is_web" "_law_is_web" (aM aV) (aE aV) (aa aV) .none y6 zi zj y9 sk zq),zK⟩)
   (mV:PySem.W.codeIn K sk "_law_is_web"=true)
   (nj:PySem.W.keepIn K (.ref eC)=true)
   (jM:PySem.W.nsIn K mainGlobals "_law_number_in"=some (some (.ref cM)))
   (kb:K.lookup cM=some ⟨oc_law_number_in,od_law_number_in,.func (PySem.W.fnOf "_law_number_in" "_law_number_in" (aM bo) (aE bo) (aa bo) .none vA vE vD vB no vz),vC⟩)
   (jS:PySem.W.codeIn K no "_law_number_in"=true)
   (j3:PySem.W.keepIn K (.ref cM)=true)
   (ut:PySem.W.nsIn K mainGlobals "_law_due"=some (some (.ref iA)))
   (tf:K.lookup iA=some ⟨oc_law_due,od_law_due,.func (PySem.W.fnOf "_law_due" "_law_due" (aM ba) (aE ba) (aa ba) .none D7 Dg D6 Ea we Dl),CN⟩)
   (tD:PySem.W.codeIn K we "_law_due"=true)
   (tG:PySem.W.keepIn K (.ref iA)=true)
   (qU:PySem.W.nsIn K mainGlobals "_law_cell"=some (some (.ref gn)))
   (rp:K.lookup gn=some ⟨oc_law_cell,od_law_cell,.func (PySem.W.fnOf "_law_cell" "_law_cell" (aM cN) (aE cN) (aa cN) .none Ce Bw BR Bo vb BZ),BW⟩)
   (qz:PySem.W.codeIn K vb "_law_cell"=true)
   (rD:PySem.W.keepIn K (.ref gn)=true)
   (pj:PySem.W.nsIn K mainGlobals "_law_mixed"=some (some (.ref fq)))
   (oY:K.lookup fq=some ⟨oc_law_mixed,od_law_mixed,.func (PySem.W.fnOf "_law_mixed" "_law_mixed" (aM cr) (aE cr) (aa cr) .none A6 AQ z9 Af t9 Bn),Ah⟩)
   (py:PySem.W.codeIn K t9 "_law_mixed"=true)
   (pk:PySem.W.keepIn K (.ref fq)=true)
   (l7:PySem.W.nsIn K mainGlobals "_law_numbers"=some (some (.ref dQ)))
   (lX:K.lookup dQ=some ⟨oc_law_numbers,od_law_numbers,.func (PySem.W.fnOf "_law_numbers" "_law_numbers" (aM aZ) (aE aZ) (aa aZ) .none xx xO xw xP pK xr),xt⟩)
   (lU:PySem.W.codeIn K pK "_law_numbers"=true)
   (mf:PySem.W.keepIn K (.ref dQ)=true)
   (qi:PySem.W.nsIn K mainGlobals "_law_toll"=some (some (.ref f9)))
   (qJ:K.lookup f9=some ⟨oc_law_toll,od_law_toll,.func (PySem.W.fnOf "_law_toll" "_law_toll" (aM dS) (aE dS) (aa dS) .none Ca BM BD Bt va B5),B2⟩)
   (qu:PySem.W.codeIn K va "_law_toll"=true)
   (rh:PySem.W.keepIn K (.ref f9)=true)
   (t5:PySem.W.nsIn K mainGlobals "_law_web"=some (some (.ref ip)))
   (uo:K.lookup ip=some ⟨oc_law_web,od_law_web,.func (PySem.W.fnOf "_law_web" "_law_web" (aM bc) (aE bc) (aa bc) .none Db DG CP Du wH Ds),C2⟩)
   (tL:PySem.W.codeIn K wH "_law_web"=true)
   (um:PySem.W.keepIn K (.ref ip)=true)
   (zV:PySem.W.nsIn K mainGlobals "law"=some (some (.ref CY)))
   (DI:K.lookup CY=some ⟨oc_law,od_law,.func (PySem.W.fnOf "law" "law" (aM bZ) (aE bZ) (aa bZ) .none Fo Fi EH EE AJ Es),JS⟩)
   (DZ:PySem.W.codeIn K AJ "law"=true)
   (DD:PySem.W.keepIn K (.ref CY)=true)
   (Bh:PySem.W.plainGet K jP Str.empty=true)
   (AX:PySem.W.hasDictIn K jP=true)
   (Ay:PySem.W.plainOver K jP=true)
   (AZ:PySem.W.findIn K (.ref jP) "__setattr__"=some (some (.builtin "object.__setattr__")))
   (Ag:PySem.W.makesIn K jP=true)
   (Ab:PySem.W.keepIn K (.ref jP)=true)
   (n_many_Web:PySem.W.findIn K (.ref jP) "many"=some none)
   (n_roads_Web:PySem.W.findIn K (.ref jP) "roads"=some none)
   (z_range:PySem.W.nsIn K mainGlobals "range"=some none)
   (z_len:PySem.W.nsIn K mainGlobals "len"=some none)
   (z_isinstance:PySem.W.nsIn K mainGlobals "isinstance"=some none)
   (z_all:PySem.W.nsIn K mainGlobals "all"=some none)
   (z_int:PySem.W.nsIn K mainGlobals "int"=some none)
   (z_bool:PySem.W.nsIn K mainGlobals "bool"=some none)
   (z_tuple:PySem.W.nsIn K mainGlobals "tuple"=some none)
   (z_list:PySem.W.nsIn K mainGlobals "list"=some none)
   (z_min:PySem.W.nsIn K mainGlobals "min"=some none)
   (z_max:PySem.W.nsIn K mainGlobals "max"=some none)
   (z_sum:PySem.W.nsIn K mainGlobals "sum"=some none)
   (z_str:PySem.W.nsIn K mainGlobals "str"=some none)
   (z_ValueError:PySem.W.nsIn K mainGlobals "ValueError"=some none)
   (v_MOST_PLACES:PySem.W.nsIn K mainGlobals "MOST_PLACES"=some (some (.int 24 t_MOST_PLACES)))
   (v_LEAST_TOLL:PySem.W.nsIn K mainGlobals "LEAST_TOLL"=some (some (.int 2 t_LEAST_TOLL)))
   (v_MOST_TOLL:PySem.W.nsIn K mainGlobals "MOST_TOLL"=some (some (.int 1000000 t_MOST_TOLL)))
   (v_FIGURES:PySem.W.nsIn K mainGlobals "FIGURES"=some (some (.str "0123456789" t_FIGURES)))
   (v_MOST_FIGURES:PySem.W.nsIn K mainGlobals "MOST_FIGURES"=some (some (.int 60 t_MOST_FIGURES))) :
   ∃ fd:FuncData,(∀ (s:Shared) (v:Value),BindsTo s fd ⟨[v],[]⟩ [("script",v)])/\∀ base:Heap,K.In base->base.Ns mainGlobals mg->FnOk l.prog w K mg base (CXe l.prog w) 8 fa fd ["script"] (zY K):=by
 have e:=hfa.symm.trans (PySem.W.mg_of X G zV);cases e
 let T:Txt K mg:=⟨a9,PySem.W.mg_of X G m7,eB,PySem.W.mg_of X G tV,d7,PySem.W.mg_of X G rz,cH,PySem.W.mg_of X G og,d8,PySem.W.mg_of X G qp,ck,PySem.W.mg_of X G qD,jP,PySem.W.mg_of X G AU,Iv mQ mZ nW mP xgs xtk ny nI ni,pW ub uw uh ua xgs xtk tF oG tK,Ie _ _ _ _ _ _ _ _ _ _ _ _ _ _ _ _ oG t6 uu uA ue,pW qj qR qh qI xgs xtk qZ rq rA,pW nU nZ nS nL xgs xtk ol mW mX,pW q8 rK rL rN xgs xtk qA qw rB,pW qm rH qN rg xgs xtk mz jT mt,⟨m3,mJ,n8⟩,IK jT mt mz rR my,my,xnd,PySem.W.mg_none_of X G z_range,PySem.W.mg_none_of X G z_len,PySem.W.mg_none_of X G z_isinstance,PySem.W.mg_none_of X G z_all,PySem.W.mg_none_of X G z_int,PySem.W.mg_none_of X G z_bool,PySem.W.mg_none_of X G z_tuple,PySem.W.mg_none_of X G z_list,PySem.W.mg_none_of X G z_min,PySem.W.mg_none_of X G z_max,PySem.W.mg_none_of X G z_sum,PySem.W.mg_none_of X G z_str,PySem.W.mg_none_of X G z_ValueError,⟨_,PySem.W.mg_of X G v_MOST_PLACES⟩,⟨_,PySem.W.mg_of X G v_LEAST_TOLL⟩,⟨_,PySem.W.mg_of X G v_MOST_TOLL⟩,⟨_,PySem.W.mg_of X G v_FIGURES⟩,⟨_,PySem.W.mg_of X G v_MOST_FIGURES⟩,⟨Bh,AX,Ay,AZ⟩,n_many_Web,n_roads_Web⟩
 have F_check_counts:=bB (st:=bn) lj kR kT;have b_check_counts:=F_check_counts.binds (ps:=["many","roads"]) fun _ _ _ _ _ _ us hl=>by obtain ⟨u0,u1,rfl⟩:=us2 hl;rfl
 have d9:Df K mg "check_counts" bn ["many","roads"] dl _:=⟨F_check_counts,PySem.W.mg_of X G kI,b_check_counts⟩;have F_is_place:=bB (st:=dy) rM qT qV;have b_is_place:=F_is_place.binds (ps:=["many","number"]) fun _ _ _ _ _ _ us hl=>by obtain ⟨u0,u1,rfl⟩:=us2 hl;rfl
 have dY:Df K mg "is_place" dy ["many","number"] gf _:=⟨F_is_place,PySem.W.mg_of X G qY,b_is_place⟩;have F_check_ends:=bB (st:=bS) nA nz nQ;have b_check_ends:=F_check_ends.binds (ps:=["many","road"]) fun _ _ _ _ _ _ us hl=>by obtain ⟨u0,u1,rfl⟩:=us2 hl;rfl
 have fD:Df K mg "check_ends" bS ["many","road"] eE _:=⟨F_check_ends,PySem.W.mg_of X G nP,b_check_ends⟩;have F_other_ends:=bB (st:=bX) nh mR oh;have b_other_ends:=F_other_ends.binds (ps:=["roads","place"]) fun _ _ _ _ _ _ us hl=>by obtain ⟨u0,u1,rfl⟩:=us2 hl;rfl
 have fK:Df K mg "other_ends" bX ["roads","place"] eF _:=⟨F_other_ends,PySem.W.mg_of X G mO,b_other_ends⟩;have F_check_joined:=bB (st:=aI) lb kL kZ;have b_check_joined:=F_check_joined.binds (ps:=["many","roads"]) fun _ _ _ _ _ _ us hl=>by obtain ⟨u0,u1,rfl⟩:=us2 hl;rfl
 have ef:Df K mg "check_joined" aI ["many","roads"] dh _:=⟨F_check_joined,PySem.W.mg_of X G lh,b_check_joined⟩;have F_check_tolls:=bB (st:=bC) lY md l6;have b_check_tolls:=F_check_tolls.binds (ps:=["road"]) fun _ _ _ _ _ _ us hl=>by obtain ⟨u0,rfl⟩:=us1 hl;rfl
 have eT:Df K mg "check_tolls" bC ["road"] dP _:=⟨F_check_tolls,PySem.W.mg_of X G lS,b_check_tolls⟩;have F_Web___init__:=bB (st:=aK) kz ky kP;have b_Web:=F_Web___init__.binds (ps:=["self","many","roads"]) fun _ _ _ _ _ _ us hl=>by obtain ⟨u0,u1,u2,rfl⟩:=us3 hl;rfl
 have F_BadText___init__:=bB (st:=aH) iu iz iy;have b_BadText:=F_BadText___init__.binds (ps:=["self","at"]) fun _ _ _ _ _ _ us hl=>by obtain ⟨u0,u1,rfl⟩:=us2 hl;rfl
 have F_check_end:=bB (st:=bO) o8 o4 o0;have b_check_end:=F_check_end.binds (ps:=["rows","last"]) fun _ _ _ _ _ _ us hl=>by obtain ⟨u0,u1,rfl⟩:=us2 hl;rfl
 have bA:Df K mg "check_end" bO ["rows","last"] b5 _:=⟨F_check_end,PySem.W.mg_of X G pB,b_check_end⟩;have F_is_number:=bB (st:=ce) pd pq o9;have b_is_number:=F_is_number.binds (ps:=["word"]) fun _ _ _ _ _ _ us hl=>by obtain ⟨u0,rfl⟩:=us1 hl;rfl
 have gz:Df K mg "is_number" ce ["word"] fv _:=⟨F_is_number,PySem.W.mg_of X G oZ,b_is_number⟩;have F_read_number:=bB (st:=bq) lR lW mh;have b_read_number:=F_read_number.binds (ps:=["word","at"]) fun _ _ _ _ _ _ us hl=>by obtain ⟨u0,u1,rfl⟩:=us2 hl;rfl
 have bT:Df K mg "read_number" bq ["word","at"] b9 _:=⟨F_read_number,PySem.W.mg_of X G lQ,b_read_number⟩;have F_read_numbers:=bB (st:=bD) kF kE kW;have b_read_numbers:=F_read_numbers.binds (ps:=["text"]) fun _ _ _ _ _ _ us hl=>by obtain ⟨u0,rfl⟩:=us1 hl;rfl
 have eg:Df K mg "read_numbers" bD ["text"] dg _:=⟨F_read_numbers,PySem.W.mg_of X G kX,b_read_numbers⟩;have F_read_words:=bB (st:=bw) nJ nY nK;have b_read_words:=F_read_words.binds (ps:=["words","many","at"]) fun _ _ _ _ _ _ us hl=>by obtain ⟨u0,u1,u2,rfl⟩:=us3 hl;rfl
 have b7:Df K mg "read_words" bw ["words","many","at"] cw _:=⟨F_read_words,PySem.W.mg_of X G mT,b_read_words⟩;have F_read_steps:=bB (st:=bU) nR mM mS;have b_read_steps:=F_read_steps.binds (ps:=["text"]) fun _ _ _ _ _ _ us hl=>by obtain ⟨u0,rfl⟩:=us1 hl;rfl
 have fG:Df K mg "read_steps" bU ["text"] eD _:=⟨F_read_steps,PySem.W.mg_of X G mK,b_read_steps⟩;have F_read_row:=bB (st:=bK) rP qB rO;have b_read_row:=F_read_row.binds (ps:=["rows","at","head","many"]) fun _ _ _ _ _ _ us hl=>by obtain ⟨u0,u1,u2,u3,rfl⟩:=us4 hl;rfl
 have d5:Df K mg "read_row" bK ["rows","at","head","many"] f8 _:=⟨F_read_row,PySem.W.mg_of X G qW,b_read_row⟩;have F_read_web:=bB (st:=a8) qv qy rG;have b_read_web:=F_read_web.binds (ps:=["text"]) fun _ _ _ _ _ _ us hl=>by obtain ⟨u0,rfl⟩:=us1 hl;rfl
 have cL:Df K mg "read_web" a8 ["text"] dn _:=⟨F_read_web,PySem.W.mg_of X G rJ,b_read_web⟩;have F_law_bad:=bB (st:=aW) ud tH tU;have b_law_bad:=F_law_bad.binds (ps:=["pick","text"]) fun _ _ _ _ _ _ us hl=>by obtain ⟨u0,u1,rfl⟩:=us2 hl;rfl
 have ff:Df K mg "_law_bad" aW ["pick","text"] gY _:=⟨F_law_bad,PySem.W.mg_of X G sY,b_law_bad⟩;have F_law_odd_word:=bB (st:=aY) kO k6 kM;have b_law_odd_word:=F_law_odd_word.binds (ps:=["cell","word"]) fun _ _ _ _ _ _ us hl=>by obtain ⟨u0,u1,rfl⟩:=us2 hl;rfl
 have eh:Df K mg "_law_odd_word" aY ["cell","word"] dk _:=⟨F_law_odd_word,PySem.W.mg_of X G kK,b_law_odd_word⟩;have F_law_word_changed:=bB (st:=aD) hJ ic ix;have b_law_word_changed:=F_law_word_changed.binds (ps:=["row","cell"]) fun _ _ _ _ _ _ us hl=>by obtain ⟨u0,u1,rfl⟩:=us2 hl;rfl
 have cF:Df K mg "_law_word_changed" aD ["row","cell"] b8 _:=⟨F_law_word_changed,PySem.W.mg_of X G iG,b_law_word_changed⟩;have F_law_changed:=bB (st:=aP) l8 lZ l9;have b_law_changed:=F_law_changed.binds (ps:=["rows","cell"]) fun _ _ _ _ _ _ us hl=>by obtain ⟨u0,u1,rfl⟩:=us2 hl;rfl
 have cB:Df K mg "_law_changed" aP ["rows","cell"] dN _:=⟨F_law_changed,PySem.W.mg_of X G me,b_law_changed⟩;have F_law_joined:=bB (st:=bf) mU nD nC;have b_law_joined:=F_law_joined.binds (ps:=["many","roads"]) fun _ _ _ _ _ _ us hl=>by obtain ⟨u0,u1,rfl⟩:=us2 hl;rfl
 have fJ:Df K mg "_law_joined" bf ["many","roads"] ez _:=⟨F_law_joined,PySem.W.mg_of X G nV,b_law_joined⟩;have F_law_is_web:=bB (st:=aV) nF mV nj;have b_law_is_web:=F_law_is_web.binds (ps:=["many","roads"]) fun _ _ _ _ _ _ us hl=>by obtain ⟨u0,u1,rfl⟩:=us2 hl;rfl
 have fN:Df K mg "_law_is_web" aV ["many","roads"] eC _:=⟨F_law_is_web,PySem.W.mg_of X G mY,b_law_is_web⟩;have F_law_number_in:=bB (st:=bo) kb jS j3;have b_law_number_in:=F_law_number_in.binds (ps:=["word"]) fun _ _ _ _ _ _ us hl=>by obtain ⟨u0,rfl⟩:=us1 hl;rfl
 have bp:Df K mg "_law_number_in" bo ["word"] cM _:=⟨F_law_number_in,PySem.W.mg_of X G jM,b_law_number_in⟩;have F_law_due:=bB (st:=ba) tf tD tG;have b_law_due:=F_law_due.binds (ps:=["rows"]) fun _ _ _ _ _ _ us hl=>by obtain ⟨u0,rfl⟩:=us1 hl;rfl
 have fi:Df K mg "_law_due" ba ["rows"] iA _:=⟨F_law_due,PySem.W.mg_of X G ut,b_law_due⟩;have F_law_cell:=bB (st:=cN) rp qz rD;have b_law_cell:=F_law_cell.binds (ps:=["script","k"]) fun _ _ _ _ _ _ us hl=>by obtain ⟨u0,u1,rfl⟩:=us2 hl;rfl
 have dU:Df K mg "_law_cell" cN ["script","k"] gn _:=⟨F_law_cell,PySem.W.mg_of X G qU,b_law_cell⟩;have F_law_mixed:=bB (st:=cr) oY py pk;have b_law_mixed:=F_law_mixed.binds (ps:=["cell","k"]) fun _ _ _ _ _ _ us hl=>by obtain ⟨u0,u1,rfl⟩:=us2 hl;rfl
 have dm:Df K mg "_law_mixed" cr ["cell","k"] fq _:=⟨F_law_mixed,PySem.W.mg_of X G pj,b_law_mixed⟩;have F_law_numbers:=bB (st:=aZ) lX lU mf;have b_law_numbers:=F_law_numbers.binds (ps:=["script","many"]) fun _ _ _ _ _ _ us hl=>by obtain ⟨u0,u1,rfl⟩:=us2 hl;rfl
 have eS:Df K mg "_law_numbers" aZ ["script","many"] dQ _:=⟨F_law_numbers,PySem.W.mg_of X G l7,b_law_numbers⟩;have F_law_toll:=bB (st:=dS) qJ qu rh;have b_law_toll:=F_law_toll.binds (ps:=["rest"]) fun _ _ _ _ _ _ us hl=>by obtain ⟨u0,rfl⟩:=us1 hl;rfl
 have d4:Df K mg "_law_toll" dS ["rest"] f9 _:=⟨F_law_toll,PySem.W.mg_of X G qi,b_law_toll⟩;have F_law_web:=bB (st:=bc) uo tL um;have b_law_web:=F_law_web.binds (ps:=["numbers"]) fun _ _ _ _ _ _ us hl=>by obtain ⟨u0,rfl⟩:=us1 hl;rfl
 have jC:Df K mg "_law_web" bc ["numbers"] ip _:=⟨F_law_web,PySem.W.mg_of X G t5,b_law_web⟩;have F_law:=bB (st:=bZ) DI DZ DD;have b_law:=F_law.binds (ps:=["script"]) fun _ _ _ _ _ _ us hl=>by obtain ⟨u0,rfl⟩:=us1 hl;rfl
 have Kn:Df K mg "law" bZ ["script"] fa _:=⟨F_law,PySem.W.mg_of X G zV,b_law⟩;refine ⟨PySem.W.fnOf "law" "law" (aM bZ) (aE bZ) (aa bZ) .none Fo Fi EH EE AJ Es,fun s v=>.of_eq rfl,fun base _ _=>?_⟩;have DM:Mk K T.Web f_Web___init__:=⟨Ag,lq,kJ,Ab⟩;have bJ:mx K T.BadText f_BadText___init__:=GN _ _ _ _ _ _ _ _ _ _ _ _ _ _ _ _ jT qE rV rE qM iE;have G_check_counts:=wE (P:=l.prog) (w:=w) (base:=base) T bx d9;have G_is_place:=BQ (P:=l.prog) (w:=w) (base:=base) T bx dY;have G_check_ends:=y4 (P:=l.prog) (w:=w) (base:=base) T bx fD dY G_is_place;have G_other_ends:=zM (P:=l.prog) (w:=w) (base:=base) T bx fK;have G_check_joined:=xf (P:=l.prog) (w:=w) (base:=base) T bx ef fK G_other_ends;have G_check_tolls:=xV (P:=l.prog) (w:=w) (base:=base) T bx eT;have G_Web_init:=vO (P:=l.prog) (w:=w) (base:=base) T bx F_Web___init__ d9 G_check_counts fD G_check_ends ef G_check_joined eT G_check_tolls;have G_BadText_init:=sP (P:=l.prog) (w:=w) (base:=base) T bx F_BadText___init__;have G_check_end:=Ae (P:=l.prog) (w:=w) (base:=base) T bx bA F_BadText___init__ b_BadText bJ G_BadText_init;have G_is_number:=AM (P:=l.prog) (w:=w) (base:=base) T bx gz;have G_read_number:=ya (P:=l.prog) (w:=w) (base:=base) T bx bT F_BadText___init__ b_BadText bJ G_BadText_init gz G_is_number;have G_read_numbers:=wK (P:=l.prog) (w:=w) (base:=base) T bx eg bA G_check_end bT G_read_number;have G_read_words:=zx (P:=l.prog) (w:=w) (base:=base) T bx b7 F_BadText___init__ b_BadText bJ G_BadText_init bT G_read_number;have G_read_steps:=ze (P:=l.prog) (w:=w) (base:=base) T bx fG bA G_check_end b7 G_read_words;have G_read_row:=BU (P:=l.prog) (w:=w) (base:=base) T bx d5 F_BadText___init__ b_BadText bJ G_BadText_init b7 G_read_words;have G_read_web:=BX (P:=l.prog) (w:=w) (base:=base) T bx cL F_Web___init__ b_Web DM G_Web_init bA G_check_end d5 G_read_row;have G_law_bad:=C5 (P:=l.prog) (w:=w) (base:=base) T bx ff eg G_read_numbers fG G_read_steps cL G_read_web;have G_law_odd_word:=wQ (P:=l.prog) (w:=w) (base:=base) T bx eh;have G_law_word_changed:=sS (P:=l.prog) (w:=w) (base:=base) T bx cF eh G_law_odd_word;have G_law_changed:=xT (P:=l.prog) (w:=w) (base:=base) T bx cB cF G_law_word_changed;have G_law_joined:=zh (P:=l.prog) (w:=w) (base:=base) T bx fJ;have G_law_is_web:=zc (P:=l.prog) (w:=w) (base:=base) T bx fN fJ G_law_joined;have G_law_number_in:=vH (P:=l.prog) (w:=w) (base:=base) T bx bp;have G_law_due:=D5 (P:=l.prog) (w:=w) (base:=base) T bx fi fN G_law_is_web bp G_law_number_in;have G_law_cell:=Ch (P:=l.prog) (w:=w) (base:=base) T bx dU;have G_law_mixed:=Aq (P:=l.prog) (w:=w) (base:=base) T bx dm;have G_law_numbers:=xG (P:=l.prog) (w:=w) (base:=base) T bx eS dU G_law_cell dm G_law_mixed;have G_law_toll:=Br (P:=l.prog) (w:=w) (base:=base) T bx d4;have G_law_web:=DP (P:=l.prog) (w:=w) (base:=base) T bx jC d4 G_law_toll;have G_law:=IZ (P:=l.prog) (w:=w) (base:=base) T bx Kn ff G_law_bad cB G_law_changed fi G_law_due eS G_law_numbers jC G_law_web cL G_read_web;exact G_law
theorem walk {l:PySem.W.OpenLaw} {q:Program} {loose:List Str} {XP:(Str->Option Value)->Heap->Prop} {YP:World->Heap->Prop} {d:DefRec} {K:Params->PySem.W.Frag} (hn:l.most=some 63) (hdf:d.params.defaults=[])
   (hY:∀ (w:World) (h:Heap),YP w h->(K w.params).In h)
   (F:∀ (w:World) (mg:Str->Option Value) (fa:Addr) (h:Heap),(K w.params).In h->h.Ns mainGlobals mg->mg d.name=some (.ref fa) ->
     ∃ fd:FuncData,(∀ (s:Shared) (u:Value),BindsTo s fd ⟨[u],[]⟩ [("script",u)])/\∀ base:Heap,(K w.params).In base->base.Ns mainGlobals mg->FnOk l.prog w (K w.params) mg base (CXe l.prog w) 8 fa fd ["script"] (zY (K w.params))) :
   PySem.W.WalkO q loose XP YP l.row.toRowW d [] (fun f vs=>PySem.call f vs) :=
 L2.walk_of (n:=63) (k:=8) (x:="script") (CX:=fun w=>(CXe l.prog w)) (sp:=fun w=>zY (K w.params)) hn (by decide) hdf ⟨rfl,by decide,by decide⟩ hY F (fun _ _ a ns hl _ hS=>⟨a,ns,rfl,hS,hl,fun _=>rfl⟩) fun _ _ _ _ _ z=>bx _ _ _ _ _ z
end Pk
open PySem PySem.W PyProof.Rows
set_option maxRecDepth 100000 in
set_option maxHeartbeats 0 in
theorem PySem.Challenge.cw_pebbletoll_k60_whole_webs_refused_holds : PySem.Challenge.rw_pebbletoll_k60_whole_webs_refused.Holds := by
 w_on;o_law
 refine PySem.W.holds_open (q:=Hd.qq) (loose:=[]) (Xt:=(fun s=>PySem.W.xlAt Hd.qq [] s && PySem.W.recOk (PySem.W.RowW.records (PySem.W.OpenRow.toRowW (PySem.Challenge.rw_pebbletoll_k60_whole_webs_refused).row)) s)) (XP:=PySem.W.XL Hd.qq []) (Yf:=PySem.W.Hook.obs (PySem.W.kHook Hd.KK Hd.asK Hd.asK_eq)) (Ya:=PySem.W.Hook.val (PySem.W.kHook Hd.KK Hd.asK Hd.asK_eq)) (YP:=PySem.W.Hook.says (PySem.W.kHook Hd.KK Hd.asK Hd.asK_eq)) (N:=5068) Hd.left (PySem.W.Hook.of (PySem.W.kHook Hd.KK Hd.asK Hd.asK_eq)) (PySem.W.Hook.keeps (PySem.W.kHook Hd.KK Hd.asK Hd.asK_eq)) (fun s e=>PySem.W.xl_of s (Bool.and_eq_true_iff.mp e).1) PySem.W.XL.keeps (by rfl) (by rfl) (by rfl) (fun s e=>PySem.W.recFacts_of (Bool.and_eq_true_iff.mp e).2) (by rfl) (by assumption) (by decide +kernel) ⟨rfl,rfl,rfl,rfl,rfl,by decide +kernel⟩ ?hw ?hc
 (case hw=>w_witness2)
 k_fill
 refine Pk.walk (l:=PySem.Challenge.rw_pebbletoll_k60_whole_webs_refused) rfl rfl (fun w h Y=>PySem.W.kIn_of Y) ?F
 case F =>
   intro w mg fa h KX G hmg;refine' Pk.all_mk KX G hmg ?m7 ?tV ?rz ?og ?qp ?qD ?AU ?nI ?ni ?mQ ?mZ ?nW ?mP ?ny ?oG ?tK ?ub ?uw ?uh ?ua ?tF ?t6 ?uu ?uA ?ue ?rq ?rA ?qj ?qR ?qh ?qI ?qZ ?mW ?mX ?nU ?nZ ?nS ?nL ?ol ?qw ?rB ?q8 ?rK ?rL ?rN ?qA ?jT ?mt ?qm ?rH ?qN ?rg ?mz ?qE ?rV ?rE ?qM ?m3 ?mJ ?n8 ?rR ?my ?xgs ?xtk ?xnd ?kI ?lj ?kR ?kT ?qY ?rM ?qT ?qV ?nP ?nA ?nz ?nQ ?mO ?nh ?mR ?oh ?lh ?lb ?kL ?kZ ?lS ?lY ?md ?l6 ?lq ?kJ ?kz ?ky ?kP ?lD ?iE ?iu ?iz ?iy ?pB ?o8 ?o4 ?o0 ?oZ ?pd ?pq ?o9 ?lQ ?lR ?lW ?mh ?kX ?kF ?kE ?kW ?mT ?nJ ?nY ?nK ?mK ?nR ?mM ?mS ?qW ?rP ?qB ?rO ?rJ ?qv ?qy ?rG ?sY ?ud ?tH ?tU ?kK ?kO ?k6 ?kM ?iG ?hJ ?ic ?ix ?me ?l8 ?lZ ?l9 ?nV ?mU ?nD ?nC ?mY ?nF ?mV ?nj ?jM ?kb ?jS ?j3 ?ut ?tf ?tD ?tG ?qU ?rp ?qz ?rD ?pj ?oY ?py ?pk ?l7 ?lX ?lU ?mf ?qi ?qJ ?qu ?rh ?t5 ?uo ?tL ?um ?zV ?DI ?DZ ?DD ?Bh ?AX ?Ay ?AZ ?Ag ?Ab ?n_many_Web ?n_roads_Web ?z_range ?z_len ?z_isinstance ?z_all ?z_int ?z_bool ?z_tuple ?z_list ?z_min ?z_max ?z_sum ?z_str ?z_ValueError ?v_MOST_PLACES ?v_LEAST_TOLL ?v_MOST_TOLL ?v_FIGURES ?v_MOST_FIGURES
   (case m7=>k_is)
   (case tV=>k_is)
   (case rz=>k_is)
   (case og=>k_is)
   (case qp=>k_is)
   (case qD=>k_is)
   (case AU=>k_is)
   (case nI=>k_is)
   (case ni=>rfl)
   (case mQ=>k_is)
   (case mZ=>k_is)
   (case nW=>k_is)
   (case mP=>k_is)
   (case ny=>k_is)
   (case oG=>k_is)
   (case tK=>rfl)
   (case ub=>k_is)
   (case uw=>k_is)
   (case uh=>k_is)
   (case ua=>k_is)
   (case tF=>k_is)
   (case t6=>rfl)
   (case uu=>kernel_rfl)
   (case uA=>k_is)
   (case ue=>kernel_rfl)
   (case rq=>k_is)
   (case rA=>rfl)
   (case qj=>k_is)
   (case qR=>k_is)
   (case qh=>k_is)
   (case qI=>k_is)
   (case qZ=>k_is)
   (case mW=>k_is)
   (case mX=>rfl)
   (case nU=>k_is)
   (case nZ=>k_is)
   (case nS=>k_is)
   (case nL=>k_is)
   (case ol=>k_is)
   (case qw=>k_is)
   (case rB=>rfl)
   (case q8=>k_is)
   (case rK=>k_is)
   (case rL=>k_is)
   (case rN=>k_is)
   (case qA=>k_is)
   (case jT=>k_is)
   (case mt=>rfl)
   (case qm=>k_is)
   (case rH=>k_is)
   (case qN=>k_is)
   (case rg=>k_is)
   (case mz=>k_is)
   (case qE=>rfl)
   (case rV=>kernel_rfl)
   (case rE=>k_is)
   (case qM=>kernel_rfl)
   (case m3=>k_is)
   (case mJ=>k_is)
   (case n8=>k_is)
   (case rR=>k_is)
   (case my=>k_is)
   (case xgs=>k_is)
   (case xtk=>k_is)
   (case xnd=>decide)
   (case kI=>k_is)
   (case lj=>k_is)
   (case kR=>k_is)
   (case kT=>k_is)
   (case qY=>k_is)
   (case rM=>k_is)
   (case qT=>k_is)
   (case qV=>k_is)
   (case nP=>k_is)
   (case nA=>k_is)
   (case nz=>k_is)
   (case nQ=>k_is)
   (case mO=>k_is)
   (case nh=>k_is)
   (case mR=>k_is)
   (case oh=>k_is)
   (case lh=>k_is)
   (case lb=>k_is)
   (case kL=>k_is)
   (case kZ=>k_is)
   (case lS=>k_is)
   (case lY=>k_is)
   (case md=>k_is)
   (case l6=>k_is)
   (case lq=>k_is)
   (case kJ=>k_is)
   (case kz=>k_is)
   (case ky=>k_is)
   (case kP=>k_is)
   (case lD=>k_is)
   (case iE=>k_is)
   (case iu=>k_is)
   (case iz=>k_is)
   (case iy=>k_is)
   (case pB=>k_is)
   (case o8=>k_is)
   (case o4=>k_is)
   (case o0=>k_is)
   (case oZ=>k_is)
   (case pd=>k_is)
   (case pq=>k_is)
   (case o9=>k_is)
   (case lQ=>k_is)
   (case lR=>k_is)
   (case lW=>k_is)
   (case mh=>k_is)
   (case kX=>k_is)
   (case kF=>k_is)
   (case kE=>k_is)
   (case kW=>k_is)
   (case mT=>k_is)
   (case nJ=>k_is)
   (case nY=>k_is)
   (case nK=>k_is)
   (case mK=>k_is)
   (case nR=>k_is)
   (case mM=>k_is)
   (case mS=>k_is)
   (case qW=>k_is)
   (case rP=>k_is)
   (case qB=>k_is)
   (case rO=>k_is)
   (case rJ=>k_is)
   (case qv=>k_is)
   (case qy=>k_is)
   (case rG=>k_is)
   (case sY=>k_is)
   (case ud=>k_is)
   (case tH=>k_is)
   (case tU=>k_is)
   (case kK=>k_is)
   (case kO=>k_is)
   (case k6=>k_is)
   (case kM=>k_is)
   (case iG=>k_is)
   (case hJ=>k_is)
   (case ic=>k_is)
   (case ix=>k_is)
   (case me=>k_is)
   (case l8=>k_is)
   (case lZ=>k_is)
   (case l9=>k_is)
   (case nV=>k_is)
   (case mU=>k_is)
   (case nD=>k_is)
   (case nC=>k_is)
   (case mY=>k_is)
   (case nF=>k_is)
   (case mV=>k_is)
   (case nj=>k_is)
   (case jM=>k_is)
   (case kb=>k_is)
   (case jS=>k_is)
   (case j3=>k_is)
   (case ut=>k_is)
   (case tf=>k_is)
   (case tD=>k_is)
   (case tG=>k_is)
   (case qU=>k_is)
   (case rp=>k_is)
   (case qz=>k_is)
   (case rD=>k_is)
   (case pj=>k_is)
   (case oY=>k_is)
   (case py=>k_is)
   (case pk=>k_is)
   (case l7=>k_is)
   (case lX=>k_is)
   (case lU=>k_is)
   (case mf=>k_is)
   (case qi=>k_is)
   (case qJ=>k_is)
   (case qu=>k_is)
   (case rh=>k_is)
   (case t5=>k_is)
   (case uo=>k_is)
   (case tL=>k_is)
   (case um=>k_is)
   (case zV=>k_is)
   (case DI=>k_is)
   (case DZ=>k_is)
   (case DD=>k_is)
   (case Bh=>k_is)
   (case AX=>k_is)
   (case Ay=>k_is)
   (case AZ=>k_is)
   (case Ag=>k_is)
   (case Ab=>k_is)
   (case n_many_Web=>k_is)
   (case n_roads_Web=>k_is)
   (case z_range=>k_is)
   (case z_len=>k_is)
   (case z_isinstance=>k_is)
   (case z_all=>k_is)
   (case z_int=>k_is)
   (case z_bool=>k_is)
   (case z_tuple=>k_is)
   (case z_list=>k_is)
   (case z_min=>k_is)
   (case z_max=>k_is)
   (case z_sum=>k_is)
   (case z_str=>k_is)
   (case z_ValueError=>k_is)
   (case v_MOST_PLACES=>k_is)
   (case v_LEAST_TOLL=>k_is)
   (case v_MOST_TOLL=>k_is)
   (case v_FIGURES=>k_is)
   (case v_MOST_FIGURES=>k_is)
#print axioms PySem.Challenge.cw_pebbletoll_k60_whole_webs_refused_holds