package house

// text is chapter 10's table, byte for byte: its first byte stands right behind the quote, so that no newline is ahead of it.
const text = `# letters, digits, signs of ASCII
valid 2D..2E
valid 30..39
valid 61..7A
shift 41..5A 61 1
valid 20..2C
valid 2F
valid 3A..40
valid 5B..60
valid 7B..7E
script 41..5A Latn
script 61..7A Latn
bidi 30..39 EN
bidi 2B ES
bidi 2D ES
bidi 2C CS
bidi 2E..2F CS
bidi 3A CS
bidi 23..25 ET
bidi 20..22 ON
bidi 26..2A ON
bidi 3B..40 ON
bidi 5B..60 ON
bidi 7B..7E ON
weight 2D 25e-2
# Latin letters with marks
ignored AD
valid B7
mapped AA 61
mapped B2 32
mapped BA 6F
shift C0..D6 E0 1
shift D8..DE F8 1
valid DF..F6
valid F8..FF
shift 100..12E 101 2
shift 132..136 133 2
valid 101
valid 103
valid 105
valid 107
valid 10D
valid 111
valid 113
valid 119
valid 11F
valid 12F
mapped 130 69 307
valid 131
valid 142
mapped 139 13A
mapped 13F 6C B7
mapped 149 2BC 6E
deviation 1E9E 73 73
valid 1EA7
mapped 1EA6 1EA7
script C0..D6 Latn
script D8..F6 Latn
script F8..149 Latn
script 1E9E Latn
script 1EA6..1EA7 Latn
weight E0..FF 1e-1
weight 101..149 2e-1
opens 212B C5
mapped 212A 6B
mapped 212B E5
mapped FB01 66 69
mapped FF21 61
mapped FF0E 2E
mapped 3002 2E
mapped 33C7 63 6F 2E
looks 131 69
looks 142 6C
looks 30 6F
looks 31 6C
# the deviations
mapped 1F4 1F5
valid 1F5
mapped 38F 3CE
mapped 3F4 3B8
mapped 2126 3C9
mapped 1FB3 3B1 3B9
mapped FB05 73 74
mapped 17F 73
opens 2126 3A9
# compositions of Latin
decomp C0 41 300
decomp C1 41 301
decomp C2 41 302
decomp C3 41 303
decomp C4 41 308
decomp C5 41 30A
decomp C7 43 327
decomp C8 45 300
decomp C9 45 301
decomp CA 45 302
decomp CB 45 308
decomp D1 4E 303
decomp D6 4F 308
decomp DC 55 308
decomp E0 61 300
decomp E1 61 301
decomp E2 61 302
decomp E3 61 303
decomp E4 61 308
decomp E5 61 30A
decomp E7 63 327
decomp E8 65 300
decomp E9 65 301
decomp EA 65 302
decomp EB 65 308
decomp EC 69 300
decomp ED 69 301
decomp EE 69 302
decomp EF 69 308
decomp F1 6E 303
decomp F2 6F 300
decomp F3 6F 301
decomp F4 6F 302
decomp F6 6F 308
decomp F9 75 300
decomp FA 75 301
decomp FB 75 302
decomp FC 75 308
decomp 101 61 304
decomp 105 61 328
decomp 107 63 301
decomp 10D 63 30C
decomp 113 65 304
decomp 119 65 328
decomp 130 49 307
decomp 1EA6 C2 300
decomp 1EA7 E2 300
decomp 1E0D 64 323
decomp 1E0B 64 307
valid 1E0D
valid 1E0B
# marks
valid 300..33F
mapped 340 300
mapped 341 301
opens 340 300
opens 341 301
opens 344 308 301
mapped 344 308 301
mapped 343 313
opens 343 313
mark 300..344
class 300..314 230
class 315 232
class 316..319 220
class 31B 216
class 323..326 220
class 327..328 202
class 329..333 220
class 334..338 1
class 33D..33F 230
class 340..341 230
class 343..344 230
bidi 300..344 NSM
join 300..344 T
weight 300..33F 5e-1
# Greek
shift 391..3A1 3B1 1
shift 3A3..3A9 3C3 1
valid 3B1..3C1
deviation 3C2 3C3
valid 3C3..3C9
valid 3AC
valid 3CE
mapped 386 3AC
decomp 386 391 301
decomp 3AC 3B1 301
decomp 38F 3A9 301
decomp 3CE 3C9 301
decomp 1FB3 3B1 345
opens 1F71 3AC
mapped 1F71 3AC
class 345 240
mark 345
mapped 345 3B9
bidi 345 NSM
join 345 T
script 386 Grek
script 38F Grek
script 391..3A1 Grek
script 3A3..3A9 Grek
script 3AC Grek
script 3B1..3C9 Grek
script 3CE Grek
script 3F4 Grek
looks 3BF 6F
looks 3BD 76
looks 3C1 70
# Cyrillic
shift 410..42F 430 1
valid 430..44F
valid 450..45F
shift 400..40F 450 1
decomp 419 418 306
decomp 439 438 306
decomp 401 415 308
decomp 451 435 308
script 400..45F Cyrl
looks 430 61
looks 435 65
looks 43E 6F
looks 440 70
looks 441 63
looks 443 79
looks 445 78
looks 456 69
looks 458 6A
# Hebrew
valid 5B0..5BD
valid 5D0..5EA
class 5B0 10
class 5B1 11
class 5B4 14
class 5B7 17
class 5B8 18
class 5BC 21
mark 5B0..5BD
bidi 5B0..5BD NSM
bidi 5D0..5EA R
join 5B0..5BD T
script 5D0..5EA Hebr
opens FB2E 5D0 5B7
opens FB2F 5D0 5B8
mapped FB2E 5D0 5B7
mapped FB2F 5D0 5B8
# Arabic
valid 621..63A
valid 641..64A
valid 64B..655
valid 660..669
valid 6F0..6F9
ignored 640
valid 6CC
class 64B..64C 27
class 64E 30
class 651 33
class 652 34
class 653..654 230
class 655 220
mark 64B..655
bidi 621..63A AL
bidi 640..64A AL
bidi 6CC AL
bidi 64B..655 NSM
bidi 660..669 AN
bidi 6F0..6F9 EN
join 622..625 R
join 627 R
join 629 R
join 62F..632 R
join 648 R
join 626 D
join 628 D
join 62A..62E D
join 633..63A D
join 640 C
join 641..647 D
join 649..64A D
join 6CC D
join 64B..655 T
decomp 622 627 653
decomp 623 627 654
decomp 624 648 654
decomp 625 627 655
decomp 626 64A 654
script 621..63A Arab
script 641..64A Arab
script 6CC Arab
looks 6CC 649
# Devanagari
valid 901..903
valid 905..914
valid 915..939
valid 93C
valid 93E..94D
opens 958 915 93C
mapped 958 915 93C
decomp 929 928 93C
class 93C 7
class 94D 9
mark 901..903
mark 93C
mark 93E..94D
bidi 901..902 NSM
bidi 93C NSM
bidi 94D NSM
join 94D T
script 901..903 Deva
script 905..939 Deva
script 93C Deva
script 93E..94D Deva
# Bengali: a starter that composes
valid 985..98C
valid 995..9A8
valid 9BE
valid 9C7
valid 9CB..9CC
valid 9CD
valid 9D7
mark 9BE
mark 9C7
mark 9CB..9CD
mark 9D7
class 9CD 9
bidi 9CD NSM
decomp 9CB 9C7 9BE
decomp 9CC 9C7 9D7
script 985..9D7 Beng
# joiners, signs that are left out
deviation 200C
deviation 200D
ignored 200B
ignored FE0F
bidi 200B..200D BN
join 200D C
join 200B T
# East Asia
valid 3041..3093
decomp 304C 304B 3099
decomp 3050 304F 3099
valid 3099
class 3099 8
mark 3099
bidi 3099 NSM
valid 30A1..30F6
valid 4E00..4FFF
valid AC00..D7A3
script 3041..3093 Hira
script 30A1..30F6 Kana
script 4E00..4FFF Hani
script AC00..D7A3 Hang
mapped F900 8C48
opens F900 8C48
valid 8C48
script 8C48 Hani
looks 30FB B7
weight 4E00..4FFF 1e-2
weight AC00..D7A3 1e-2
# beyond the first 65,536
valid 10400
shift 10401..10427 10429 1
valid 10428..1044F
script 10400..1044F Dsrt
valid 1D400
decomp 110AB 110A5 110BA
valid 110A5..110AB
valid 110BA
class 110B9 9
class 110BA 7
mark 110B9..110BA
bidi 110B9..110BA NSM
bidi 1E900..1E943 R
valid 1E922..1E943
shift 1E900..1E921 1E922 1
script 1E900..1E943 Adlm
join 1E900..1E943 D
# scripts beside one another
mix Latn Cyrl 8
mix Latn Grek 6
mix Cyrl Grek 4
mix Latn Hani 5e-1
mix Hira Hani 0
mix Hira Kana 0
mix Hani Kana 0
mix Latn Arab inf
mix Hebr Arab inf
`
